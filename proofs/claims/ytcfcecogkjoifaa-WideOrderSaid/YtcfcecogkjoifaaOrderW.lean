/- The law WideOrder answers true, for any numbers of 64 bits; no conditions. -/
import Derived.Test.YtcfcecogkjoifaaWalkB
namespace Go.Proofs.Ytcfcecogkjoifaa.Wd
open Go.RowKit

theorem order_facts (a b c d : Int) (ha : U a) (hb : U b) (hc : U c) (hd : U d) :
    (ltB a b c d && ltB c d a b) = false ∧ (ltB a b c d || ltB c d a b) = (a != c || b != d) ∧ ltB (adH a b c d) (adL b d) a b = adC a b c d ∧ ltB (adH a b c d) (adL b d) c d = adC a b c d := by
  unfold U at *
  unfold ltB adH adL adC
  refine ⟨?_, ?_, ?_, ?_⟩
  · rw [Bool.eq_iff_iff]; simp; omega
  · rw [Bool.eq_iff_iff]; simp; omega
  · rw [Bool.eq_iff_iff]; simp only [decide_eq_true_eq]; omega
  · rw [Bool.eq_iff_iff]; simp only [decide_eq_true_eq]; omega

theorem order_core (a b c d h l : Int) (p q r : Bool) (w : World) (f1 : (p && q) = false) (f2 : (p || q) = (a != c || b != d))
    (c1 : ∀ w, Calls Try.prog 15 #[.int .u64 a, .int .u64 b, .int .u64 c, .int .u64 d] w fun e w' => e = .returned (.bool p) ∧ w = w')
    (c2 : ∀ w, Calls Try.prog 15 #[.int .u64 c, .int .u64 d, .int .u64 a, .int .u64 b] w fun e w' => e = .returned (.bool q) ∧ w = w')
    (c3 : ∀ w, Calls Try.prog 14 #[.int .u64 a, .int .u64 b, .int .u64 c, .int .u64 d] w fun e w' => e = .returned (.tuple #[.int .u64 h, .int .u64 l, .bool r]) ∧ w = w')
    (c4 : ∀ w, Calls Try.prog 15 #[.int .u64 h, .int .u64 l, .int .u64 a, .int .u64 b] w fun e w' => e = .returned (.bool r) ∧ w = w')
    (c5 : ∀ w, Calls Try.prog 15 #[.int .u64 h, .int .u64 l, .int .u64 c, .int .u64 d] w fun e w' => e = .returned (.bool r) ∧ w = w') :
    Calls Try.prog 6 #[.int .u64 a, .int .u64 b, .int .u64 c, .int .u64 d] w fun e w' => e = .returned (.bool true) ∧ Kept w w' := by
  have k (w : World) := known_any w
  by_cases x : a = c
  · by_cases y : b = d
    · subst x y
      have f2' : (p || q) = false := by rw [f2]; simp
      cases p <;> cases q <;> simp at f1 f2'
      clear f1 f2 f2'
      all_goals
        go_enter Try.func6, Try.ntmps6
        go_wp2_with (first
          | (go_at_call 14; ((with_reducible refine (c3 _).mono ?_); rintro e w' ⟨rfl, rfl⟩))
          | (go_at_call 10; ((with_reducible refine (k _).mono ?_); rintro e w' ⟨rfl, gw⟩))
          | (go_at_call 15; (first | (with_reducible refine (c1 _).mono ?_) | (with_reducible refine (c2 _).mono ?_) | (with_reducible refine (c4 _).mono ?_) | (with_reducible refine (c5 _).mono ?_)); rintro e w' ⟨rfl, rfl⟩))
        go_ret
        exact ⟨rfl, gw⟩
    · subst x
      have f2' : (p || q) = true := by rw [f2]; simp [y]
      have y1 : (b == d) = false := by simpa using y
      have y2 : (b != d) = true := by simpa using y
      cases p <;> cases q <;> simp at f1 f2'
      all_goals clear f1 f2 f2'
      all_goals
        go_enter Try.func6, Try.ntmps6
        go_wp2_with (first
          | (go_at_call 14; ((with_reducible refine (c3 _).mono ?_); rintro e w' ⟨rfl, rfl⟩))
          | (go_at_call 10; ((with_reducible refine (k _).mono ?_); rintro e w' ⟨rfl, gw⟩))
          | (go_at_call 15; (first | (with_reducible refine (c1 _).mono ?_) | (with_reducible refine (c2 _).mono ?_) | (with_reducible refine (c4 _).mono ?_) | (with_reducible refine (c5 _).mono ?_)); rintro e w' ⟨rfl, rfl⟩))
        go_ret
        exact ⟨rfl, gw⟩
  · have f2' : (p || q) = true := by rw [f2]; simp [x]
    have x1 : (a == c) = false := by simpa using x
    have x2 : (a != c) = true := by simpa using x
    cases p <;> cases q <;> simp at f1 f2'
    all_goals clear f1 f2 f2'
    all_goals
      go_enter Try.func6, Try.ntmps6
      go_wp2_with (first
        | (go_at_call 14; ((with_reducible refine (c3 _).mono ?_); rintro e w' ⟨rfl, rfl⟩))
        | (go_at_call 10; ((with_reducible refine (k _).mono ?_); rintro e w' ⟨rfl, gw⟩))
        | (go_at_call 15; (first | (with_reducible refine (c1 _).mono ?_) | (with_reducible refine (c2 _).mono ?_) | (with_reducible refine (c4 _).mono ?_) | (with_reducible refine (c5 _).mono ?_)); rintro e w' ⟨rfl, rfl⟩))
      go_ret
      exact ⟨rfl, gw⟩

theorem order_walk (a b c d : Int) (w : World) (ha : U a) (hb : U b) (hc : U c) (hd : U d) :
    Calls Try.prog 6 #[.int .u64 a, .int .u64 b, .int .u64 c, .int .u64 d] w fun e w' => e = .returned (.bool true) ∧ Kept w w' := by
  obtain ⟨f1, f2, f3, f4⟩ := order_facts a b c d ha hb hc hd
  refine order_core a b c d (adH a b c d) (adL b d) _ _ (adC a b c d) w f1 f2 (fun w => less_any _ _ _ _ w) (fun w => less_any _ _ _ _ w) (fun w => add_any _ _ _ _ w ha hb hc hd) (fun w => ?_) (fun w => ?_)
  · have e := less_any (adH a b c d) (adL b d) a b w
    rw [f3] at e; exact e
  · have e := less_any (adH a b c d) (adL b d) c d w
    rw [f4] at e; exact e
end Go.Proofs.Ytcfcecogkjoifaa.Wd
