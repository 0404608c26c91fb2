/- The law NumProducts answers true, for any numbers of 64 bits and any of 8; no conditions. -/
import Derived.Test.YtpnhhihddlpokaaNumK
namespace Go.Proofs.Ytpnhhihddlpokaa.Wd
open Go.RowKit

set_option maxHeartbeats 800000 in
set_option maxRecDepth 100000 in
theorem products_z (a b c k x s p q m P : Int) (j : Nat) (w : World) (hb : 0 ≤ b ∧ b ≤ 18446744073709551615) (hc : 0 ≤ c ∧ c ≤ 18446744073709551615) (hk : 0 ≤ k ∧ k ≤ 255) (hj : k % 64 = (j : Int)) (_hj2 : j < 64) (hP : (2 : Int) ^ j = P) (hX : a / P = x) (hx : (x == 0) = true)
    (c1 : ∀ w, Calls Try.prog 16 #[.int .u64 x, .int .u64 (b / 2 + c / 2)] w fun e w' => e = .returned (.int .u64 s) ∧ Kept w w')
    (c2 : ∀ w, Calls Try.prog 16 #[.int .u64 x, .int .u64 (b / 2)] w fun e w' => e = .returned (.int .u64 p) ∧ Kept w w')
    (c3 : ∀ w, Calls Try.prog 16 #[.int .u64 x, .int .u64 (c / 2)] w fun e w' => e = .returned (.int .u64 q) ∧ Kept w w')
    (c4 : ∀ (c g : Nat) w, w.cell? ⟨g, 0, none⟩ = some (.int .u64 p) → w.cell? ⟨g, 1, none⟩ = some (.int .u64 q) → Calls Try.prog 14 #[.slice (some ⟨g, 0, none⟩) 2 c] w fun e w' => e = .returned (.int .u64 s) ∧ w = w')
    (c5 : ∀ w, Calls Try.prog 16 #[.int .u64 a, .int .u64 0] w fun e w' => e = .returned (.int .u64 0) ∧ Kept w w')
    (c6 : ∀ w, Calls Try.prog 16 #[.int .u64 a, .int .u64 1] w fun e w' => e = .returned (.int .u64 a) ∧ Kept w w')
    (c7 : ∀ w, Calls Try.prog 16 #[.int .u64 a, .int .u64 b] w fun e w' => e = .returned (.int .u64 m) ∧ Kept w w')
    (c8 : ∀ w, Calls Try.prog 16 #[.int .u64 b, .int .u64 a] w fun e w' => e = .returned (.int .u64 m) ∧ Kept w w') :
    Calls Try.prog 8 #[.int .u64 a, .int .u64 b, .int .u64 c, .int .u8 k] w fun e w' => e = .returned (.bool true) ∧ Kept w w' := by
  have kn (w : World) := known2_any w
  have K := Lib.hid kn
  have C1 := Lib.hid c1
  have C2 := Lib.hid c2
  have C3 := Lib.hid c3
  have C4 := Lib.hid c4
  have C5 := Lib.hid c5
  have C6 := Lib.hid c6
  have C7 := Lib.hid c7
  have C8 := Lib.hid c8
  clear kn c1 c2 c3 c4 c5 c6 c7 c8
  have gw := Kept.refl w
  go_enter Try.func8, Try.ntmps8
  go_wp2_with (first
    | (go_at_call 16; (first | (with_reducible refine (C1.out _).mono ?_) | (with_reducible refine (C2.out _).mono ?_) | (with_reducible refine (C3.out _).mono ?_) | (with_reducible refine (C5.out _).mono ?_) | (with_reducible refine (C6.out _).mono ?_) | (with_reducible refine (C7.out _).mono ?_) | (with_reducible refine (C8.out _).mono ?_)); rintro e wm ⟨rfl, gm⟩; replace gw := gw.trans gm; clear gm)
    | (go_at_call 14; ((with_reducible refine (C4.out _ _ _ (by simp) (by simp)).mono ?_); rintro e w1 ⟨rfl, rfl⟩; replace gw := gw.alloc #[.int .u64 p, .int .u64 q] 22))
    | (go_at_call 10; ((with_reducible refine (K.out _).mono ?_); rintro e w3 ⟨rfl, gm⟩; replace gw := gw.trans gm; clear gm)))
  go_ret
  exact ⟨rfl, gw⟩

set_option maxHeartbeats 800000 in
set_option maxRecDepth 100000 in
theorem products_n (a b c k x s p q m P : Int) (j : Nat) (w : World) (hb : 0 ≤ b ∧ b ≤ 18446744073709551615) (hc : 0 ≤ c ∧ c ≤ 18446744073709551615) (hk : 0 ≤ k ∧ k ≤ 255) (hj : k % 64 = (j : Int)) (_hj2 : j < 64) (hP : (2 : Int) ^ j = P) (hX : a / P = x) (hx : (x == 0) = false) (hp : b / 2 ≤ p)
    (c1 : ∀ w, Calls Try.prog 16 #[.int .u64 x, .int .u64 (b / 2 + c / 2)] w fun e w' => e = .returned (.int .u64 s) ∧ Kept w w')
    (c2 : ∀ w, Calls Try.prog 16 #[.int .u64 x, .int .u64 (b / 2)] w fun e w' => e = .returned (.int .u64 p) ∧ Kept w w')
    (c3 : ∀ w, Calls Try.prog 16 #[.int .u64 x, .int .u64 (c / 2)] w fun e w' => e = .returned (.int .u64 q) ∧ Kept w w')
    (c4 : ∀ (c g : Nat) w, w.cell? ⟨g, 0, none⟩ = some (.int .u64 p) → w.cell? ⟨g, 1, none⟩ = some (.int .u64 q) → Calls Try.prog 14 #[.slice (some ⟨g, 0, none⟩) 2 c] w fun e w' => e = .returned (.int .u64 s) ∧ w = w')
    (c5 : ∀ w, Calls Try.prog 16 #[.int .u64 a, .int .u64 0] w fun e w' => e = .returned (.int .u64 0) ∧ Kept w w')
    (c6 : ∀ w, Calls Try.prog 16 #[.int .u64 a, .int .u64 1] w fun e w' => e = .returned (.int .u64 a) ∧ Kept w w')
    (c7 : ∀ w, Calls Try.prog 16 #[.int .u64 a, .int .u64 b] w fun e w' => e = .returned (.int .u64 m) ∧ Kept w w')
    (c8 : ∀ w, Calls Try.prog 16 #[.int .u64 b, .int .u64 a] w fun e w' => e = .returned (.int .u64 m) ∧ Kept w w') :
    Calls Try.prog 8 #[.int .u64 a, .int .u64 b, .int .u64 c, .int .u8 k] w fun e w' => e = .returned (.bool true) ∧ Kept w w' := by
  have kn (w : World) := known2_any w
  have K := Lib.hid kn
  have C1 := Lib.hid c1
  have C2 := Lib.hid c2
  have C3 := Lib.hid c3
  have C4 := Lib.hid c4
  have C5 := Lib.hid c5
  have C6 := Lib.hid c6
  have C7 := Lib.hid c7
  have C8 := Lib.hid c8
  clear kn c1 c2 c3 c4 c5 c6 c7 c8
  have gw := Kept.refl w
  go_enter Try.func8, Try.ntmps8
  go_wp2_with (first
    | (go_at_call 16; (first | (with_reducible refine (C1.out _).mono ?_) | (with_reducible refine (C2.out _).mono ?_) | (with_reducible refine (C3.out _).mono ?_) | (with_reducible refine (C5.out _).mono ?_) | (with_reducible refine (C6.out _).mono ?_) | (with_reducible refine (C7.out _).mono ?_) | (with_reducible refine (C8.out _).mono ?_)); rintro e wm ⟨rfl, gm⟩; replace gw := gw.trans gm; clear gm)
    | (go_at_call 14; ((with_reducible refine (C4.out _ _ _ (by simp) (by simp)).mono ?_); rintro e w1 ⟨rfl, rfl⟩; replace gw := gw.alloc #[.int .u64 p, .int .u64 q] 22))
    | (go_at_call 10; ((with_reducible refine (K.out _).mono ?_); rintro e w3 ⟨rfl, gm⟩; replace gw := gw.trans gm; clear gm)))
  go_ret
  exact ⟨rfl, gw⟩

theorem dist (x y z : Int) (hx : 0 ≤ x) (hy : 0 ≤ y) (hz : 0 ≤ z) : sat (x * (y + z)) = sat (sat (x * y) + sat (x * z)) := by
  have h1 := Int.mul_nonneg hx hy
  have h2 := Int.mul_nonneg hx hz
  rw [Int.mul_add]
  unfold sat; (repeat' split) <;> omega

theorem products_walk (a b c k : Int) (w : World) (ha : U a) (hb : U b) (hc : U c) (hk : 0 ≤ k ∧ k ≤ 255) :
    Calls Try.prog 8 #[.int .u64 a, .int .u64 b, .int .u64 c, .int .u8 k] w fun e w' => e = .returned (.bool true) ∧ Kept w w' := by
  obtain ⟨j, hj⟩ : ∃ j : Nat, k % 64 = (j : Int) := ⟨(k % 64).toNat, by omega⟩
  have hj2 : j < 64 := by omega
  obtain ⟨P, hP⟩ : ∃ P : Int, (2 : Int) ^ j = P := ⟨_, rfl⟩
  have hP1 : 1 ≤ P := by rw [← hP]; have := pow_pos j; omega
  have ux : U (a / P) := by
    have h1 := Int.ediv_nonneg (b := P) ha.1 (by omega)
    have h2 := Int.ediv_le_self P ha.1
    unfold U at *; omega
  have uy : U (b / 2) := by unfold U at *; omega
  have uz : U (c / 2) := by unfold U at *; omega
  have uyz : U (b / 2 + c / 2) := by unfold U at *; omega
  have up := sat_U _ (Int.mul_nonneg ux.1 uy.1)
  have uq := sat_U _ (Int.mul_nonneg ux.1 uz.1)
  have c1 (w : World) := num_mul (a / P) (b / 2 + c / 2) w ux uyz
  have c2 (w : World) := num_mul (a / P) (b / 2) w ux uy
  have c3 (w : World) := num_mul (a / P) (c / 2) w ux uz
  have c4 (e g : Nat) (w : World) := num_add_two g e (sat (a / P * (b / 2))) (sat (a / P * (c / 2))) w up uq
  rw [← dist _ _ _ ux.1 uy.1 uz.1] at c4
  have c5 (w : World) := num_mul a 0 w ha U_zero
  have e5 : sat (a * 0) = 0 := by simp [sat]
  rw [e5] at c5
  have c6 (w : World) := num_mul a 1 w ha ⟨by omega, by omega⟩
  have e6 : sat (a * 1) = a := by unfold sat U at *; rw [Int.mul_one]; split <;> omega
  rw [e6] at c6
  have c7 (w : World) := num_mul a b w ha hb
  have c8 (w : World) := num_mul b a w hb ha
  rw [Int.mul_comm b a] at c8
  by_cases z : a / P = 0
  · exact products_z a b c k _ _ _ _ _ P j w hb hc hk hj hj2 hP rfl (by rw [z]; rfl) c1 c2 c3 c4 c5 c6 c7 c8
  · refine products_n a b c k _ _ _ _ _ P j w hb hc hk hj hj2 hP rfl (by simpa using z) ?_ c1 c2 c3 c4 c5 c6 c7 c8
    have h : 1 * (b / 2) ≤ a / P * (b / 2) := Int.mul_le_mul_of_nonneg_right (by have := ux.1; omega) uy.1
    unfold sat U at *; split <;> omega
end Go.Proofs.Ytpnhhihddlpokaa.Wd
