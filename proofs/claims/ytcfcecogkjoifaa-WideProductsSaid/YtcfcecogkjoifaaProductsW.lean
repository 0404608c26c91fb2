/- The law WideProducts answers true, for any numbers of 64 bits; no conditions. -/
import Derived.Test.YtcfcecogkjoifaaWalkB
namespace Go.Proofs.Ytcfcecogkjoifaa.Wd
open Go.RowKit

theorem mu_comm (a b : Int) : muH b a = muH a b ∧ muL b a = muL a b := by unfold muH muL; rw [Int.mul_comm]; exact ⟨rfl, rfl⟩
theorem mu_one (a : Int) (ha : U a) : muH a 1 = 0 ∧ muL a 1 = a := by unfold muH muL; unfold U at ha; rw [Int.mul_one]; omega
theorem mu_add (a b c : Int) (ha : U a) (hs : U (b + c)) :
    adH (muH a b) (muL a b) (muH a c) (muL a c) = muH a (b + c) ∧ adL (muL a b) (muL a c) = muL a (b + c) ∧ adC (muH a b) (muL a b) (muH a c) (muL a c) = false := by
  have h := mu_prod_le a (b + c) ha hs
  unfold adH adL adC muH muL
  rw [Int.mul_add] at *
  refine ⟨by omega, by omega, ?_⟩
  simp only [decide_eq_false_iff_not]
  omega

theorem products_walk (a b c : Int) (w : World) (ha : U a) (hb : U b) (hc : U c) :
    Calls Try.prog 5 #[.int .u64 a, .int .u64 b, .int .u64 c] w fun e w' => e = .returned (.bool true) ∧ Kept w w' := by
  have k (w : World) := known_any w
  have c1 (w : World) := mul_any a b w ha hb
  have c2 (w : World) := mul_any b a w hb ha
  rw [(mu_comm a b).1, (mu_comm a b).2] at c2
  have c3 (w : World) := mul_any a c w ha hc
  have c5 (w : World) := mul_any a 1 w ha ⟨by omega, by omega⟩
  rw [(mu_one a ha).1, (mu_one a ha).2] at c5
  have low : (muL a b == IntKind.u64.wrap (a * b)) = true := by rw [IntKind.wrap_u64]; simp [muL]
  by_cases s : b + c ≤ 18446744073709551615
  · have hs : U (b + c) := by unfold U at *; omega
    obtain ⟨f1, f2, f3⟩ := mu_add a b c ha hs
    have c4 (w : World) := mul_any a (b + c) w ha hs
    have c6 (w : World) := add_any (muH a b) (muL a b) (muH a c) (muL a c) w (muH_U _ _ ha hb) (muL_U _ _) (muH_U _ _ ha hc) (muL_U _ _)
    rw [f1, f2, f3] at c6
    clear f1 f2 f3
    generalize muH a b = h1 at *
    generalize muL a b = l1 at *
    generalize muH a c = h2 at *
    generalize muL a c = l2 at *
    generalize muH a (b + c) = h3 at *
    generalize muL a (b + c) = l3 at *
    unfold U at ha hb hc hs
    have nlt : decide (b + c < b) = false := by simp; omega
    go_enter Try.func5, Try.ntmps5
    go_wp2_with (first
      | (go_at_call 13; (first
          | ((with_reducible refine (c1 _).mono ?_); rintro e w1 ⟨rfl, g1⟩) | ((with_reducible refine (c2 _).mono ?_); rintro e w2 ⟨rfl, g2⟩)
          | ((with_reducible refine (c3 _).mono ?_); rintro e w3 ⟨rfl, g3⟩) | ((with_reducible refine (c4 _).mono ?_); rintro e w4 ⟨rfl, g4⟩)
          | ((with_reducible refine (c5 _).mono ?_); rintro e w5 ⟨rfl, g5⟩)))
      | (go_at_call 14; ((with_reducible refine (c6 _).mono ?_); rintro e w' ⟨rfl, rfl⟩))
      | (go_at_call 10; ((with_reducible refine (k _).mono ?_); rintro e w' ⟨rfl, g6⟩)))
    go_ret
    exact ⟨rfl, g1.trans (g2.trans (g3.trans (g4.trans (g5.trans g6))))⟩
  · have hs : U (b + c - 18446744073709551616) := by unfold U at *; omega
    have c4 (w : World) := mul_any a (b + c - 18446744073709551616) w ha hs
    have c6 (w : World) := add_any (muH a b) (muL a b) (muH a c) (muL a c) w (muH_U _ _ ha hb) (muL_U _ _) (muH_U _ _ ha hc) (muL_U _ _)
    generalize adH (muH a b) (muL a b) (muH a c) (muL a c) = h4 at *
    generalize adL (muL a b) (muL a c) = l4 at *
    generalize adC (muH a b) (muL a b) (muH a c) (muL a c) = r4 at *
    generalize muH a b = h1 at *
    generalize muL a b = l1 at *
    generalize muH a c = h2 at *
    generalize muL a c = l2 at *
    have sum : IntKind.u64.wrap (b + c) = b + c - 18446744073709551616 := by rw [IntKind.wrap_u64]; unfold U at *; omega
    rw [← sum] at c4
    generalize muH a (b + c - 18446744073709551616) = h3 at *
    generalize muL a (b + c - 18446744073709551616) = l3 at *
    have lt : decide (IntKind.u64.wrap (b + c) < b) = true := by rw [sum]; unfold U at *; simp; omega
    clear sum hs
    go_enter Try.func5, Try.ntmps5
    go_wp2_with (first
      | (go_at_call 13; (first
          | ((with_reducible refine (c1 _).mono ?_); rintro e w1 ⟨rfl, g1⟩) | ((with_reducible refine (c2 _).mono ?_); rintro e w2 ⟨rfl, g2⟩)
          | ((with_reducible refine (c3 _).mono ?_); rintro e w3 ⟨rfl, g3⟩) | ((with_reducible refine (c4 _).mono ?_); rintro e w4 ⟨rfl, g4⟩)
          | ((with_reducible refine (c5 _).mono ?_); rintro e w5 ⟨rfl, g5⟩)))
      | (go_at_call 14; ((with_reducible refine (c6 _).mono ?_); rintro e w' ⟨rfl, rfl⟩))
      | (go_at_call 10; ((with_reducible refine (k _).mono ?_); rintro e w' ⟨rfl, g6⟩)))
    go_ret
    exact ⟨rfl, g1.trans (g2.trans (g3.trans (g4.trans (g5.trans g6))))⟩
end Go.Proofs.Ytcfcecogkjoifaa.Wd
