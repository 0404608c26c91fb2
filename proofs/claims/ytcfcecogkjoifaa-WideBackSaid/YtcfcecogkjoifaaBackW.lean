/- The law WideBack answers true, for any numbers of 64 bits; no conditions. -/
import Derived.Test.YtcfcecogkjoifaaWalkB
namespace Go.Proofs.Ytcfcecogkjoifaa.Wd
open Go.RowKit

theorem back_facts (h l d : Int) (hh : U h) (hl : U l) (hd : U d) (c : h < d) :
    adH (muH (diQ h l d) d) (muL (diQ h l d) d) 0 (diR h l d) = h ∧ adL (muL (diQ h l d) d) (diR h l d) = l ∧ adC (muH (diQ h l d) d) (muL (diQ h l d) d) 0 (diR h l d) = false := by
  have e1 := mu_eq (diQ h l d) d
  have e2 := di_eq h l d
  have u1 := muL_U (diQ h l d) d
  have u2 := muH_U (diQ h l d) d (diQ_U h l d hh hl c) hd
  have u3 := (diR_U h l d hh c hd).1
  generalize muH (diQ h l d) d = x at *
  generalize muL (diQ h l d) d = y at *
  generalize diR h l d = r at *
  generalize diQ h l d * d = z at *
  unfold U at *
  unfold adH adL adC
  refine ⟨by omega, by omega, ?_⟩
  simp only [decide_eq_false_iff_not]
  omega

theorem back_walk (h l d : Int) (w : World) (hh : U h) (hl : U l) (hd : U d) :
    Calls Try.prog 4 #[.int .u64 h, .int .u64 l, .int .u64 d] w fun e w' => e = .returned (.bool true) ∧ Kept w w' := by
  have k (w : World) := known_any w
  by_cases c : h < d
  · obtain ⟨f1, f2, f3⟩ := back_facts h l d hh hl hd c
    have u := diQ_U h l d hh hl c
    obtain ⟨u3, r1⟩ := diR_U h l d hh c hd
    have c1 (w : World) := div_yes h l d w hh hl hd c
    have c2 (w : World) := mul_any (diQ h l d) d w u hd
    have c3 (w : World) := add_any (muH (diQ h l d) d) (muL (diQ h l d) d) 0 (diR h l d) w (muH_U _ _ u hd) (muL_U _ _) ⟨by omega, by omega⟩ u3
    rw [f1, f2, f3] at c3
    clear f1 f2 f3
    generalize muH (diQ h l d) d = x at *
    generalize muL (diQ h l d) d = y at *
    generalize diR h l d = r at *
    generalize diQ h l d = q at *
    go_enter Try.func4, Try.ntmps4
    go_wp2_with (first
      | (go_at_call 12; ((with_reducible refine (c1 _).mono ?_); rintro e w' ⟨rfl, rfl⟩))
      | (go_at_call 13; ((with_reducible refine (c2 _).mono ?_); rintro e w' ⟨rfl, g1⟩))
      | (go_at_call 14; ((with_reducible refine (c3 _).mono ?_); rintro e w' ⟨rfl, rfl⟩))
      | (go_at_call 10; ((with_reducible refine (k _).mono ?_); rintro e w' ⟨rfl, g2⟩)))
    go_ret
    exact ⟨rfl, Kept.trans g1 g2⟩
  · have c' : d ≤ h := by omega
    have c1 (w : World) := div_no h l d w c'
    go_enter Try.func4, Try.ntmps4
    go_wp2_with (first
      | (go_at_call 12; ((with_reducible refine (c1 _).mono ?_); rintro e w' ⟨rfl, rfl⟩))
      | (go_at_call 10; ((with_reducible refine (k _).mono ?_); rintro e w' ⟨rfl, g2⟩)))
    go_ret
    exact ⟨rfl, g2⟩
end Go.Proofs.Ytcfcecogkjoifaa.Wd
