/- tollerlaw10.asks answers true, for any row of bytes that is not too long; no conditions but those that each names. -/
import Derived.Test.YtdjeehnjodbmaaaWrdU2
import Derived.Test.YtdjeehnjodbmaaaWrdSm
namespace Go.Proofs.Ytdjeehnjodbmaaa.Wd
open Go Go.RowKit
set_option linter.unusedVariables false
set_option linter.unusedSimpArgs false

set_option maxRecDepth 100000 in
set_option maxHeartbeats 2000000 in
theorem asks_any (A : Option Addr) (N cap : Nat) (bs : List UInt8) (w : World) (hT : Txt w A N bs) (hN : N ≤ 1048576) (hcap : N ≤ cap) (hcm : cap ≤ 9223372036854775807) :
    Calls Try.prog 10 #[.slice A N cap] w fun e w' => e = .returned (.bool true) ∧ Below w.heap.size w w' := by
  have S1 := split_any A N cap bs w hT hcap hcm
  have S2 := fun (W : World) (hW : Below w.heap.size w W) => rsplit_any A N cap bs W (hT.below hW) hN hcap hcm
  have hne := spl_ne bs
  have hct := spl_count bs
  have her : (spl bs).er ≤ 21 := by
    rw [spl_er bs (by rw [hT.1]; exact hN)]; split <;> omega
  unfold SplitPost at S1
  generalize (spl bs).er = E at *
  generalize (spl bs).ln = L at *
  generalize (spl bs).cl = C at *
  generalize (spl bs).rows = X at *
  have K1 := Lib.hid S1
  have K2 := Lib.hid S2
  have NE := Lib.hid hne
  clear S1 S2 hne hT
  go_enter Try.func10, Try.ntmps10
  go_wp2_with (first
    | (go_at_call 14; ((with_reducible refine K1.out.mono ?_); rintro e w1 ⟨v1, rfl, r1, g1⟩; have e1 := (Below.refl _ w1).alloc (Nat.le_refl _) (.cells #[.int .i64 (L : Int), .int .i64 (C : Int)] 34)))
    | (go_at_call 18; ((with_reducible refine (K2.out _ (kbq g1 e1)).mono ?_); rintro e w2 ⟨v2, rfl, r2, g2⟩; refine stopHere ?_)))
  unfold Stop
  have e2 := (Below.refl _ w2).alloc (Nat.le_refl _) (.cells #[.int .i64 (L : Int), .int .i64 (C : Int)] 34)
  have q0 : w2.cell? ⟨w1.heap.size, 0, none⟩ = some (.int .i64 (L : Int)) := celln g2 (by simp)
  have q1 : w2.cell? ⟨w1.heap.size, 1, none⟩ = some (.int .i64 (C : Int)) := celln g2 (by simp)
  have hw1 : w1.heap.size < w2.heap.size := lt_of_cell q0
  have K3 := Lib.hid (same_any v1 v2 X _ ((r1.below e1).below (kbq g2 e2)) (r2.below e2) NE.out hct)
  have gA := kbq (kbq (kbq g1 e1) g2) e2
  have GA := Lib.hid gA
  clear gA r1 r2 g1 e1 g2 K1 K2
  go_wp2_with ((go_at_call 19; ((with_reducible refine K3.out.mono ?_); rintro e w3 ⟨rfl, g3⟩; refine stopHere ?_)))
  unfold Stop
  have p0 := celln g3 (celln e2 q0)
  have p1 := celln g3 (celln e2 q1)
  have p2 : w3.cell? ⟨w2.heap.size, 0, none⟩ = some (.int .i64 (L : Int)) := celln g3 (by simp)
  have p3 : w3.cell? ⟨w2.heap.size, 1, none⟩ = some (.int .i64 (C : Int)) := celln g3 (by simp)
  have gB := Lib.hid (kbq GA.out g3)
  have hE : IntKind.i64.wrap (E : Int) = (E : Int) := by rw [IntKind.wrap_i64]; omega
  clear q0 q1 hw1 e2 g3 K3 GA
  go_wp2
  go_ret
  exact ⟨by first | rfl | simp, gB.out⟩
end Go.Proofs.Ytdjeehnjodbmaaa.Wd
