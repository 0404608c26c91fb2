/- The law NumQuotients answers true, for any numbers of 64 bits; no conditions. -/
import Derived.Test.YtpnhhihddlpokaaNumK
namespace Go.Proofs.Ytpnhhihddlpokaa.Wd
open Go.RowKit

theorem quotients_zero (a : Int) (w : World) (ha : U a) :
    Calls Try.prog 5 #[.int .u64 a, .int .u64 0] w fun e w' => e = .returned (.bool true) ∧ Kept w w' := by
  have k (w : World) := known2_any w
  have d (w : World) := num_div a 0 w ha U_zero
  have c (w : World) := num_ceil a 0 w ha U_zero
  have e1 : dvI a 0 = 18446744073709551615 := by simp [dvI]
  have e2 : clI a 0 = 18446744073709551615 := by simp [clI]
  rw [e1] at d
  rw [e2] at c
  clear e1 e2
  have D := Lib.hid d
  have C := Lib.hid c
  have K := Lib.hid k
  clear d c k
  go_enter Try.func5, Try.ntmps5
  go_wp2_with (first
    | (go_at_call 18; ((with_reducible refine (D.out _).mono ?_); rintro e w1 ⟨rfl, g1⟩))
    | (go_at_call 19; ((with_reducible refine (C.out _).mono ?_); rintro e w2 ⟨rfl, g2⟩))
    | (go_at_call 10; ((with_reducible refine (K.out _).mono ?_); rintro e w3 ⟨rfl, gw⟩)))
  go_ret
  exact ⟨rfl, g2.after (g1.after gw)⟩

theorem quotients_core (a b d u m P : Int) (w : World) (hb : 1 ≤ b ∧ b ≤ 18446744073709551615) (hd : U d) (hP : 0 ≤ P ∧ P ≤ a ∧ a - P < b) (hud : d ≤ u ∧ u - d ≤ 1) (hm : a ≤ m)
    (heq : (u == d) = (P == a)) (hw : IntKind.u64.wrap (d * b) = P)
    (c1 : ∀ w, Calls Try.prog 18 #[.int .u64 a, .int .u64 b] w fun e w' => e = .returned (.int .u64 d) ∧ Drew w w')
    (c2 : ∀ w, Calls Try.prog 19 #[.int .u64 a, .int .u64 b] w fun e w' => e = .returned (.int .u64 u) ∧ Drew w w')
    (c3 : ∀ w, Calls Try.prog 16 #[.int .u64 u, .int .u64 b] w fun e w' => e = .returned (.int .u64 m) ∧ Kept w w') :
    Calls Try.prog 5 #[.int .u64 a, .int .u64 b] w fun e w' => e = .returned (.bool true) ∧ Kept w w' := by
  have k (w : World) := known2_any w
  have hb0 : (b == 0) = false := beq_eq_false_iff_ne.2 (by omega)
  have K := Lib.hid k
  have C1 := Lib.hid c1
  have C2 := Lib.hid c2
  have C3 := Lib.hid c3
  clear k c1 c2 c3
  unfold U at *
  obtain ⟨p0, p1, p2⟩ := hP
  obtain ⟨u0, u1⟩ := hud
  by_cases x : u = d
  · subst x
    have x2 : (P == a) = true := by rw [← heq]; simp
    have x3 : (u == u) = true := by simp
    clear heq
    go_enter Try.func5, Try.ntmps5
    go_wp2_with (first
      | (go_at_call 18; ((with_reducible refine (C1.out _).mono ?_); rintro e w1 ⟨rfl, g1⟩))
      | (go_at_call 19; ((with_reducible refine (C2.out _).mono ?_); rintro e w2 ⟨rfl, g2⟩))
      | (go_at_call 16; ((with_reducible refine (C3.out _).mono ?_); rintro e w4 ⟨rfl, g4⟩))
      | (go_at_call 10; ((with_reducible refine (K.out _).mono ?_); rintro e w3 ⟨rfl, gw⟩)))
    go_ret
    exact ⟨rfl, ((g1.trans g2).kept.trans gw).trans g4⟩
  · have x2 : (u == d) = false := by simpa using x
    have x3 : (P == a) = false := by rw [← heq]; exact x2
    clear heq
    go_enter Try.func5, Try.ntmps5
    go_wp2_with (first
      | (go_at_call 18; ((with_reducible refine (C1.out _).mono ?_); rintro e w1 ⟨rfl, g1⟩))
      | (go_at_call 19; ((with_reducible refine (C2.out _).mono ?_); rintro e w2 ⟨rfl, g2⟩))
      | (go_at_call 16; ((with_reducible refine (C3.out _).mono ?_); rintro e w4 ⟨rfl, g4⟩))
      | (go_at_call 10; ((with_reducible refine (K.out _).mono ?_); rintro e w3 ⟨rfl, gw⟩)))
    go_ret
    exact ⟨rfl, ((g1.trans g2).kept.trans gw).trans g4⟩

theorem quotients_walk (a b : Int) (w : World) (ha : U a) (hb : U b) :
    Calls Try.prog 5 #[.int .u64 a, .int .u64 b] w fun e w' => e = .returned (.bool true) ∧ Kept w w' := by
  by_cases z : b = 0
  · subst z; exact quotients_zero a w ha
  have hb1 : 1 ≤ b ∧ b ≤ 18446744073709551615 := by unfold U at hb; omega
  have ed : dvI a b = a / b := by simp [dvI, z]
  have dU := dvI_U a b ha hb
  have h1 := Int.mul_ediv_add_emod a b
  have h2 := Int.emod_nonneg a z
  have h3 := Int.emod_lt_of_pos a (show 0 < b by omega)
  have hP : dvI a b * b = a - a % b := by rw [ed, Int.mul_comm]; omega
  have hq := div_le_of a b ha hb
  have hPn : 0 ≤ b * (a / b) := Int.mul_nonneg hb.1 hq.1
  have eu : clI a b = if a % b = 0 then a / b else a / b + 1 := by simp [clI, z]
  have uU : U (clI a b) := by
    rw [eu]; unfold U at *
    split
    · omega
    · -- b is at least 2
      have h3' : 1 * (a / b) ≤ b * (a / b) := Int.mul_le_mul_of_nonneg_right (by omega) hq.1
      omega
  have hm : a ≤ sat (clI a b * b) := by
    have : a ≤ clI a b * b := by
      rw [eu]
      split
      · rw [Int.mul_comm]; omega
      · rw [Int.add_mul, Int.mul_comm]; omega
    unfold sat U at *; split <;> omega
  refine quotients_core a b (dvI a b) (clI a b) (sat (clI a b * b)) (a - a % b) w hb1 dU ?_ ?_ hm ?_ ?_ (fun w => num_div _ _ w ha hb) (fun w => num_ceil _ _ w ha hb) (fun w => num_mul _ _ w uU hb)
  · unfold U at *; omega
  · rw [eu, ed]; split <;> omega
  · rw [eu, ed, Bool.eq_iff_iff]
    simp only [beq_iff_eq]
    split <;> omega
  · rw [hP, IntKind.wrap_u64]; unfold U at *; omega
end Go.Proofs.Ytpnhhihddlpokaa.Wd
