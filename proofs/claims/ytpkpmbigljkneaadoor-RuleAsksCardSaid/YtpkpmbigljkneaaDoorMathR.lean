/- Plain facts on whole numbers for the document's own product and quotient, bit by bit; no conditions but those that each names. -/
import Derived.Test.YtpkpmbigljkneaaDoorMath
namespace Go.Proofs.YtpkpmbigljkneaaDoor.Wd
open Go.RowKit

theorem half_pow (b : Int) (k : Nat) : b / 2 ^ k = 2 * (b / 2 ^ (k + 1)) + b / 2 ^ k % 2 := by
  have e : b / 2 ^ (k + 1) = b / 2 ^ k / 2 := by
    rw [Int.pow_succ, ← Int.ediv_ediv_of_nonneg (Int.le_of_lt (pow_pos k))]
  rw [e]; omega
theorem div_pow_nonneg (b : Int) (k : Nat) (h : 0 ≤ b) : 0 ≤ b / 2 ^ k ∧ b / 2 ^ k ≤ b :=
  ⟨Int.ediv_nonneg h (Int.le_of_lt (pow_pos k)), Int.ediv_le_self _ h⟩

/-! ### The product -/
/-- The bits of b above the j lowest are done. -/
def MulAt (a b : Int) (j : Nat) (x y : Int) : Prop := x * 18446744073709551616 + y = a * (b / 2 ^ j) ∧ 0 ≤ x ∧ U y
theorem mulAt_zero (a b : Int) (hb : U b) : MulAt a b 64 0 0 := by
  unfold U at hb
  have e : b / 2 ^ 64 = 0 := by omega
  refine ⟨by rw [e]; omega, by omega, by unfold U; omega⟩
theorem mulAt_end (a b x y : Int) (h : MulAt a b 0 x y) : x = muH a b ∧ y = muL a b := by
  obtain ⟨e, x0, uy⟩ := h
  have e' : b / 2 ^ 0 = b := by omega
  rw [e'] at e
  unfold U at uy
  unfold muH muL
  rw [← e]; omega
theorem mulAt_step (a b : Int) (k : Nat) (x y : Int) (ha : U a) (hb : U b) (H : MulAt a b (k + 1) x y) :
    0 ≤ x ∧ U y ∧ U (2 * x + y / 9223372036854775808) ∧
    (b / 2 ^ k % 2 = 0 → MulAt a b k (2 * x + y / 9223372036854775808) (2 * y % 18446744073709551616)) ∧
    (b / 2 ^ k % 2 = 1 → MulAt a b k (2 * x + y / 9223372036854775808 + (2 * y % 18446744073709551616 + a) / 18446744073709551616) ((2 * y % 18446744073709551616 + a) % 18446744073709551616) ∧
      U (2 * x + y / 9223372036854775808 + (2 * y % 18446744073709551616 + a) / 18446744073709551616)) := by
  unfold MulAt at *
  obtain ⟨e, x0, uy⟩ := H
  have hp := half_pow b k
  have hn := div_pow_nonneg b k hb.1
  have hn2 := div_pow_nonneg b (k + 1) hb.1
  generalize b / 2 ^ (k + 1) = t at *
  generalize b / 2 ^ k = s at *
  have us : U s := by unfold U at *; omega
  have pr := mu_prod_le a s ha us
  unfold U at ha uy
  refine ⟨x0, by unfold U; omega, ?_, ?_, ?_⟩
  · have c : s % 2 = 0 ∨ s % 2 = 1 := by omega
    have es : a * s = 2 * (a * t) + a * (s % 2) := by
      have : a * s = a * (2 * t + s % 2) := by rw [← hp]
      rw [this, Int.mul_add, ← Int.mul_assoc, Int.mul_comm a 2, Int.mul_assoc]
    unfold U
    rcases c with c | c <;> rw [c] at es <;> omega
  · intro c
    have es : a * s = 2 * (a * t) := by
      have : s = 2 * t := by omega
      rw [this, ← Int.mul_assoc, Int.mul_comm a 2, Int.mul_assoc]
    refine ⟨?_, by omega, by unfold U; omega⟩
    rw [es]; omega
  · intro c
    have es : a * s = 2 * (a * t) + a := by
      have : s = 2 * t + 1 := by omega
      rw [this, Int.mul_add, ← Int.mul_assoc, Int.mul_comm a 2, Int.mul_assoc]; omega
    refine ⟨⟨?_, by omega, by unfold U; omega⟩, ?_⟩
    · rw [es]; omega
    · unfold U; omega

/-! ### The quotient -/
def RDivAt (h l d : Int) (j : Nat) (q r : Int) : Prop := q * d + r = (h * 18446744073709551616 + l) / 2 ^ j ∧ 0 ≤ r ∧ r < d ∧ 0 ≤ q
theorem rdivAt_zero (h l d : Int) (hh : U h) (hl : U l) (c : h < d) : RDivAt h l d 64 0 h := by
  unfold U at *
  have e : (h * 18446744073709551616 + l) / 2 ^ 64 = h := by omega
  exact ⟨by rw [e]; omega, by omega, c, by omega⟩
theorem rdivAt_end (h l d q r : Int) (H : RDivAt h l d 0 q r) : q = diQ h l d ∧ r = diR h l d := by
  obtain ⟨e, r0, r1, q0⟩ := H
  have e' : (h * 18446744073709551616 + l) / 2 ^ 0 = h * 18446744073709551616 + l := by omega
  rw [e'] at e
  exact di_uniq h l d q r e r0 r1
theorem rdiv_bit (h l : Int) (k : Nat) (hk : k < 64) : (h * 18446744073709551616 + l) / 2 ^ k % 2 = l / 2 ^ k % 2 := by
  obtain ⟨j, hj⟩ : ∃ j : Nat, 64 = j + 1 + k := ⟨63 - k, by omega⟩
  have e : (18446744073709551616 : Int) = 2 ^ j * 2 * 2 ^ k := by
    have : (18446744073709551616 : Int) = 2 ^ 64 := rfl
    rw [this, hj, Int.pow_add, Int.pow_succ]
  have e2 : h * 18446744073709551616 + l = l + h * (2 ^ j * 2) * 2 ^ k := by rw [e, ← Int.mul_assoc h (2 ^ j * 2) (2 ^ k), Int.add_comm]
  rw [e2, Int.add_mul_ediv_right _ _ (by have := pow_pos k; omega), ← Int.mul_assoc]
  omega
theorem rdivAt_step (h l d : Int) (k : Nat) (q r : Int) (hh : U h) (hl : U l) (c : h < d) (hk : k < 64) (H : RDivAt h l d (k + 1) q r) :
    0 ≤ r ∧ r < d ∧ 0 ≤ q ∧ q ≤ 9223372036854775807 ∧ (0 ≤ l / 2 ^ k ∧ l / 2 ^ k ≤ 18446744073709551615) ∧
    (d ≤ 2 * r + l / 2 ^ k % 2 → RDivAt h l d k (2 * q + 1) (2 * r + l / 2 ^ k % 2 - d)) ∧
    (2 * r + l / 2 ^ k % 2 < d → RDivAt h l d k (2 * q) (2 * r + l / 2 ^ k % 2)) := by
  obtain ⟨e, r0, r1, q0⟩ := H
  have hb := rdiv_bit h l k hk
  have hp := half_pow (h * 18446744073709551616 + l) k
  rw [hb] at hp
  have hl2 := div_pow_nonneg l k hl.1
  have hn := div_pow_nonneg (h * 18446744073709551616 + l) k (by unfold U at *; omega)
  have hlt : h * 18446744073709551616 + l < d * 18446744073709551616 := by unfold U at *; omega
  have q1 : q ≤ 9223372036854775807 := by
    -- 2 * q * d is no more than what is divided
    have h1 : 2 * (q * d) < d * 18446744073709551616 := by omega
    have h2 : d * (2 * q) < d * 18446744073709551616 := by
      rw [Int.mul_comm d (2 * q), Int.mul_assoc]; exact h1
    have h3 := Int.lt_of_mul_lt_mul_left h2 (by omega)
    omega
  unfold U at hl
  refine ⟨r0, r1, q0, q1, by omega, ?_, ?_⟩
  · intro g
    refine ⟨?_, by omega, by omega, by omega⟩
    rw [hp, ← e, Int.add_mul, Int.one_mul, Int.mul_assoc]; omega
  · intro g
    refine ⟨?_, by omega, by omega, by omega⟩
    rw [hp, ← e, Int.mul_assoc]; omega
end Go.Proofs.YtpkpmbigljkneaaDoor.Wd
