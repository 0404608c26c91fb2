/- tollerlaw10.WordsStand answers true, for any two rows of bytes; no conditions. -/
import Derived.Test.YtdjeehnjodbmaaaWrdW4
namespace Go.Proofs.Ytdjeehnjodbmaaa.Wd
open Go Go.RowKit
set_option linter.unusedVariables false

set_option maxRecDepth 100000 in
theorem wordsStand_any (A : Option Addr) (N cap : Nat) (bs : List UInt8) (D : Option Addr) (M cap2 : Nat) (ds : List UInt8) (w : World) (hT : Txt w A N bs) (hcap : N ≤ cap) (hcm : cap ≤ 9223372036854775807) (hD : Txt w D M ds) (hM : M ≤ 9223372036854775807) :
    Calls Try.prog 5 #[.slice A N cap, .slice D M cap2] w fun e w' => e = .returned (.bool true) ∧ Below w.heap.size w w' := by
  have C0 := Lib.hid known_any
  by_cases h300 : 300 < N
  · go_enter Try.func5, Try.ntmps5
    go_wp2_with ((go_at_call 9; (refine (C0.out _).mono ?_); rintro e w1 ⟨rfl, g1⟩))
    go_ret
    exact ⟨rfl, g1⟩
  · have K1 := Lib.hid (fun (W : World) (hW : Below w.heap.size w W) => stand_any A N cap bs W (hT.below hW) (by omega) hcap hcm)
    have K2 := Lib.hid (fun (W : World) (hW : Below w.heap.size w W) => text_any D M cap2 ds W (hD.below hW) hM)
    have hl := tx_len ds
    clear hT hD
    go_enter Try.func5, Try.ntmps5
    go_wp2_with (first
      | (go_at_call 9; (refine (C0.out _).mono ?_); rintro e w1 ⟨rfl, g1⟩)
      | (go_at_call 11; ((with_reducible refine (K2.out _ (kbq g1 g2)).mono ?_); rintro e w3 ⟨v3, rfl, r3, g3⟩; refine stopHere ?_))
      | (go_at_call 17; ((with_reducible refine (K1.out _ g1).mono ?_); rintro e w2 ⟨rfl, g2⟩)))
    unfold Stop
    obtain ⟨B, d, rfl, hd, hT2, _, _⟩ := r3.form2
    have K3 := Lib.hid (stand_any B _ d _ w3 hT2 (by omega) hd.1 hd.2)
    clear r3 hT2
    go_wp2_with ((go_at_call 17; ((with_reducible refine K3.out.mono ?_); rintro e w4 ⟨rfl, g4⟩)))
    go_ret
    exact ⟨rfl, kbq (kbq (kbq g1 g2) g3) g4⟩
end Go.Proofs.Ytdjeehnjodbmaaa.Wd
