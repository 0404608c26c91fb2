/- Plain facts on whole numbers for the wide layer's walks: and, or of numbers of 64 bits as remainder and sum; no conditions but those that each names. -/
import Derived.WalkKit
import Derived.Laws.Bits64b
import Derived.Below
import Derived.Deep.Draws
namespace Go.Proofs.YtpkpmbigljkneaaDoor.Wd
open Go.RowKit

/-! ### A call that makes memory at most: nothing that was there has changed -/
def Kept (w w' : World) : Prop := Grown w w' ∧ Below w.heap.size w w'
theorem Kept.refl (w : World) : Kept w w := ⟨Grown.refl _, Below.refl _ _⟩
theorem Kept.trans {a b c : World} (h : Kept a b) (k : Kept b c) : Kept a c :=
  ⟨⟨World.keptBut_trans h.1.1 k.1.1, fun x => (k.1.2.1 x).trans (h.1.2.1 x), Nat.le_trans h.1.2.2 k.1.2.2⟩, h.2.trans (k.2.mono h.2.size)⟩
theorem Kept.alloc {a b : World} (h : Kept a b) (c : Array Value) (t : TypeId) : Kept a (b.alloc (.cells c t)) := ⟨h.1.alloc c t, h.2.alloc h.2.size _⟩
theorem Kept.drew {a b : World} (h : Kept a b) : Kept a b.drew := ⟨h.1.drew, h.2.drew⟩
theorem Kept.grown {a b : World} (h : Kept a b) : Grown a b := h.1

/-- A call that reads in an open order at most. -/
def Drew (w w' : World) : Prop := ∃ n : Nat, w' = w.drewN n
theorem Drew.refl (w : World) : Drew w w := ⟨0, rfl⟩
theorem Drew.of (w : World) (n : Nat) : Drew w (w.drewN n) := ⟨n, rfl⟩
theorem Drew.trans {a b c : World} (h : Drew a b) (k : Drew b c) : Drew a c := by
  obtain ⟨n, rfl⟩ := h; obtain ⟨m, rfl⟩ := k; exact ⟨n + m, World.drewN_drewN _ _ _⟩
theorem Kept.drewN {a b : World} (h : Kept a b) (n : Nat) : Kept a (b.drewN n) := ⟨h.1, h.2.os, h.2.tape, h.2.output, h.2.size, h.2.block⟩
theorem Drew.kept {a b : World} (h : Drew a b) : Kept a b := by obtain ⟨n, rfl⟩ := h; exact (Kept.refl a).drewN n
theorem Drew.after {a b c : World} (h : Drew b c) (k : Kept a b) : Kept a c := k.trans h.kept

theorem and_mask32 (a : Int) (h : 0 ≤ a ∧ a ≤ 18446744073709551615) : bits BinOp.and IntKind.u64 a 4294967295 = a % 4294967296 := by
  have e := bits_and_u64_nat a.toNat 4294967295 (by omega) (by omega)
  have h2 : a.toNat &&& 4294967295 = a.toNat % 4294967296 := Nat.and_two_pow_sub_one_eq_mod a.toNat 32
  rw [h2, Int.toNat_of_nonneg h.1] at e
  refine e.trans ?_
  omega

theorem or_low (k : Nat) (x y : Nat) (hy : y < 2 ^ k) (h1 : 2 ^ k * x < 18446744073709551616) (h2 : y < 18446744073709551616) :
    bits BinOp.or IntKind.u64 ((2 ^ k * x : Nat) : Int) (y : Int) = ((2 ^ k * x + y : Nat) : Int) := by
  have e := bits_or_u64_nat (2 ^ k * x) y h1 h2
  rw [← Nat.two_pow_add_eq_or_of_lt hy] at e
  exact e

theorem or_32 (b a : Int) (ha : 0 ≤ a ∧ a ≤ 4294967295) (hb : 0 ≤ b ∧ b ≤ 4294967295) : bits BinOp.or IntKind.u64 (IntKind.u64.wrap (b * 4294967296)) a = b * 4294967296 + a := by
  have e := or_low 32 b.toNat a.toNat (by omega) (by omega) (by omega)
  have g : IntKind.u64.wrap (b * 4294967296) = ((2 ^ 32 * b.toNat : Nat) : Int) := by rw [IntKind.wrap_u64]; omega
  have g' : a = ((a.toNat : Nat) : Int) := by omega
  rw [g, g']
  refine e.trans ?_
  omega

theorem or_32' (b a : Int) (ha : 0 ≤ a ∧ a ≤ 4294967295) (hb : 0 ≤ b ∧ b ≤ 4294967295) : bits BinOp.or IntKind.u64 (b * 4294967296) a = b * 4294967296 + a := by
  have e := or_32 b a ha hb
  rw [IntWalk.u64_in _ (by omega)] at e
  exact e

theorem or_bit (x b : Int) (hx : 0 ≤ x ∧ x ≤ 18446744073709551615) (hb : 0 ≤ b ∧ b ≤ 1) (he : x % 2 = 0) : bits BinOp.or IntKind.u64 x b = x + b := by
  have e := or_low 1 (x.toNat / 2) b.toNat (by omega) (by omega) (by omega)
  have g : x = ((2 ^ 1 * (x.toNat / 2) : Nat) : Int) := by omega
  have g' : b = ((b.toNat : Nat) : Int) := by omega
  rw [g, g']
  refine e.trans ?_
  omega

/-! ### What the calls answer, by definition -/
def ltB (ah al bh bl : Int) : Bool := decide (ah < bh ∨ (ah = bh ∧ al < bl))
def adL (al bl : Int) : Int := (al + bl) % 18446744073709551616
def adH (ah al bh bl : Int) : Int := (ah + bh + (al + bl) / 18446744073709551616) % 18446744073709551616
def adC (ah al bh bl : Int) : Bool := decide (18446744073709551616 ≤ ah + bh + (al + bl) / 18446744073709551616)
def muH (a b : Int) : Int := a * b / 18446744073709551616
def muL (a b : Int) : Int := a * b % 18446744073709551616
def diQ (h l d : Int) : Int := (h * 18446744073709551616 + l) / d
def diR (h l d : Int) : Int := (h * 18446744073709551616 + l) % d
/-- A number of 64 bits. -/
def U (a : Int) : Prop := 0 ≤ a ∧ a ≤ 18446744073709551615

theorem mu_prod_le (a b : Int) (ha : U a) (hb : U b) : 0 ≤ a * b ∧ a * b ≤ 18446744073709551615 * 18446744073709551615 :=
  ⟨Int.mul_nonneg ha.1 hb.1, Int.mul_le_mul ha.2 hb.2 hb.1 (by omega)⟩
theorem muL_U (a b : Int) : U (muL a b) := by unfold muL U; omega
theorem muH_U (a b : Int) (ha : U a) (hb : U b) : U (muH a b) := by
  have h := mu_prod_le a b ha hb; unfold muH U; omega
theorem mu_eq (a b : Int) : muH a b * 18446744073709551616 + muL a b = a * b := by unfold muH muL; omega
theorem adL_U (al bl : Int) : U (adL al bl) := by unfold adL U; omega
theorem adH_U (ah al bh bl : Int) : U (adH ah al bh bl) := by unfold adH U; omega
theorem diQ_U (h l d : Int) (hh : U h) (hl : U l) (hd : h < d) : U (diQ h l d) := by
  unfold U at *
  have hd0 : 0 < d := by omega
  refine ⟨Int.ediv_nonneg (by omega) (by omega), ?_⟩
  unfold diQ
  have h1 : (h * 18446744073709551616 + l) < d * 18446744073709551616 := by omega
  have h2 : (h * 18446744073709551616 + l) / d < 18446744073709551616 := Int.ediv_lt_of_lt_mul hd0 (by rw [Int.mul_comm 18446744073709551616 d]; exact h1)
  omega
theorem diR_U (h l d : Int) (hh : U h) (hd : h < d) (hd2 : U d) : U (diR h l d) ∧ diR h l d < d := by
  unfold U at *
  have h1 := Int.emod_nonneg (h * 18446744073709551616 + l) (b := d) (by omega)
  have h2 := Int.emod_lt_of_pos (h * 18446744073709551616 + l) (b := d) (by omega)
  unfold diR
  omega
theorem di_eq (h l d : Int) : diQ h l d * d + diR h l d = h * 18446744073709551616 + l := by
  unfold diQ diR
  have := Int.mul_ediv_add_emod (h * 18446744073709551616 + l) d
  rw [Int.mul_comm] at this
  exact this
/-- A quotient and a rest that fit are the quotient and the rest. -/
theorem di_uniq (h l d q r : Int) (e : q * d + r = h * 18446744073709551616 + l) (h0 : 0 ≤ r) (h1 : r < d) : q = diQ h l d ∧ r = diR h l d := by
  unfold diQ diR
  rw [← e, Int.add_comm]
  constructor
  · rw [Int.add_mul_ediv_right _ _ (by omega), Int.ediv_eq_zero_of_lt h0 h1]; omega
  · rw [Int.add_mul_emod_self_right, Int.emod_eq_of_lt h0 h1]

/-! ### The schoolbook product by halves -/
theorem mul_halves (a0 a1 b0 b1 : Int) (h0 : 0 ≤ a0 ∧ a0 ≤ 4294967295) (h1 : 0 ≤ a1 ∧ a1 ≤ 4294967295) (g0 : 0 ≤ b0 ∧ b0 ≤ 4294967295) (g1 : 0 ≤ b1 ∧ b1 ≤ 4294967295) :
    (0 ≤ a0 * b0 ∧ a0 * b0 ≤ 18446744065119617025) ∧ (0 ≤ a1 * b0 ∧ a1 * b0 ≤ 18446744065119617025) ∧ (0 ≤ a0 * b1 ∧ a0 * b1 ≤ 18446744065119617025) ∧ (0 ≤ a1 * b1 ∧ a1 * b1 ≤ 18446744065119617025) ∧
    (a1 * 4294967296 + a0) * (b1 * 4294967296 + b0) = a1 * b1 * 18446744073709551616 + (a1 * b0 + a0 * b1) * 4294967296 + a0 * b0 := by
  have m (x y : Int) (hx : 0 ≤ x ∧ x ≤ 4294967295) (hy : 0 ≤ y ∧ y ≤ 4294967295) : 0 ≤ x * y ∧ x * y ≤ 18446744065119617025 :=
    ⟨Int.mul_nonneg hx.1 hy.1, Int.le_trans (Int.mul_le_mul hx.2 hy.2 hy.1 (by omega)) (by omega)⟩
  refine ⟨m _ _ h0 g0, m _ _ h1 g0, m _ _ h0 g1, m _ _ h1 g1, ?_⟩
  have e1 : (a1 * 4294967296) * (b1 * 4294967296) = a1 * b1 * 18446744073709551616 := by
    rw [Int.mul_assoc, Int.mul_comm 4294967296, Int.mul_assoc, ← Int.mul_assoc a1]; rfl
  have e2 : (a1 * 4294967296) * b0 = a1 * b0 * 4294967296 := by
    rw [Int.mul_assoc, Int.mul_comm 4294967296, ← Int.mul_assoc]
  have e3 : a0 * (b1 * 4294967296) = a0 * b1 * 4294967296 := by rw [Int.mul_assoc]
  rw [Int.add_mul, Int.mul_add, Int.mul_add, e1, e2, e3]
  omega

/-! ### The long division, bit by bit -/
/-- Behind k rounds: what is divided so far, what is left, and the digits that are still to come (at the top of the word). -/
def DivAt (h l0 d : Int) (k : Nat) (q r l : Int) : Prop :=
  ∃ m rest : Int, m * 2 ^ k = 18446744073709551616 ∧ 1 ≤ m ∧ l = rest * 2 ^ k ∧ 0 ≤ rest ∧ rest < m ∧ h * 18446744073709551616 + l0 = (q * d + r) * m + rest ∧ 0 ≤ r ∧ r < d ∧ 0 ≤ q ∧ q < 2 ^ k

theorem divAt_zero (h l d : Int) (hh : U h) (hl : U l) (hd : h < d) : DivAt h l d 0 0 h l := by
  unfold U at *
  refine ⟨18446744073709551616, l, by omega, by omega, by omega, by omega, by omega, by omega, by omega, by omega, by omega, by omega⟩

theorem pow_pos (k : Nat) : (0 : Int) < 2 ^ k := Int.pow_pos (by omega)

/-- A bound on a power of two: k rounds of 64. -/
theorem pow_le (k : Nat) (hk : k ≤ 64) : (2 : Int) ^ k ≤ 18446744073709551616 := by
  have h : (2 : Nat) ^ k ≤ 2 ^ 64 := Nat.pow_le_pow_right (by omega) hk
  have e : ((2 : Int) ^ k) = ((2 ^ k : Nat) : Int) := by rw [Int.natCast_pow]; rfl
  rw [e]; omega

/-- One round, told without going round: the next digit comes down; does the divisor go into it? -/
theorem divAt_step (h l0 d : Int) (k : Nat) (q r l : Int) (hk : k < 64) (H : DivAt h l0 d k q r l) :
    0 ≤ r ∧ r < d ∧ 0 ≤ q ∧ q ≤ 9223372036854775807 ∧ U l ∧
    (d ≤ 2 * r + l / 9223372036854775808 → DivAt h l0 d (k + 1) (2 * q + 1) (2 * r + l / 9223372036854775808 - d) (2 * l % 18446744073709551616)) ∧
    (2 * r + l / 9223372036854775808 < d → DivAt h l0 d (k + 1) (2 * q) (2 * r + l / 9223372036854775808) (2 * l % 18446744073709551616)) := by
  obtain ⟨m, rest, e1, m1, e2, r0, r1, e3, s0, s1, q0, q1⟩ := H
  have P := pow_pos k
  have P1 : (2 : Int) ^ (k + 1) = 2 * 2 ^ k := by rw [Int.pow_succ, Int.mul_comm]
  -- m is even
  obtain ⟨m', hm'⟩ : ∃ m' : Int, m = 2 * m' := by
    have hj : ∃ j : Nat, 64 = k + 1 + j := ⟨63 - k, by omega⟩
    obtain ⟨j, hj⟩ := hj
    refine ⟨2 ^ j, ?_⟩
    have e : (2 : Int) ^ 64 = 2 * 2 ^ j * 2 ^ k := by
      rw [hj, Int.pow_add, P1]
      rw [Int.mul_comm 2 (2 ^ k), Int.mul_assoc, Int.mul_comm]
    have e' : m * 2 ^ k = 2 * 2 ^ j * 2 ^ k := by rw [← e, e1]; rfl
    exact Int.eq_of_mul_eq_mul_right (by omega) e'
  subst hm'
  generalize hK : (2 : Int) ^ k = K at *
  have e1' : m' * K = 9223372036854775808 := by
    have : 2 * (m' * K) = 18446744073709551616 := by rw [← Int.mul_assoc]; exact e1
    omega
  have hm0 : 1 ≤ m' := by omega
  have kq : K ≤ 9223372036854775808 := by
    have := Int.mul_le_mul_of_nonneg_right hm0 (Int.le_of_lt P); omega
  -- the digit that comes down
  obtain ⟨b, hb0, hb1, x, hx0, hx1, hrest⟩ : ∃ b : Int, 0 ≤ b ∧ b ≤ 1 ∧ ∃ x : Int, 0 ≤ x ∧ x < m' ∧ rest = b * m' + x := by
    by_cases c : rest < m'
    · exact ⟨0, by omega, by omega, rest, r0, c, by omega⟩
    · exact ⟨1, by omega, by omega, rest - m', by omega, by omega, by omega⟩
  subst hrest
  have el : l = b * 9223372036854775808 + x * K := by
    rw [e2, Int.add_mul, Int.mul_assoc, e1']
  have xK : 0 ≤ x * K ∧ x * K < 9223372036854775808 := by
    refine ⟨Int.mul_nonneg hx0 (Int.le_of_lt P), ?_⟩
    rw [← e1']
    exact Int.mul_lt_mul_of_pos_right hx1 P
  have eb : l / 9223372036854775808 = b := by omega
  have el2 : 2 * l % 18446744073709551616 = x * (2 * K) := by
    have : x * (2 * K) = 2 * (x * K) := by rw [← Int.mul_assoc, Int.mul_comm x 2, Int.mul_assoc]
    rw [this]; omega
  have ul : U l := by unfold U; omega
  refine ⟨s0, s1, q0, by omega, ul, ?_, ?_⟩
  all_goals
    intro c
    rw [eb] at c ⊢
    refine ⟨m', x, by rw [P1, Int.mul_comm 2 K, ← Int.mul_assoc, e1']; rfl, hm0, by rw [P1]; exact el2, hx0, hx1, ?_, by omega, by omega, by omega, by rw [P1]; omega⟩
    rw [e3]
    generalize hQ : q * d = Q
  · have : (2 * q + 1) * d = 2 * Q + d := by rw [Int.add_mul, Int.one_mul, Int.mul_assoc, hQ]
    rw [this]
    have a1 : (Q + r) * (2 * m') = (2 * (Q + r)) * m' := by rw [← Int.mul_assoc, Int.mul_comm (Q + r) 2]
    have a2 : 2 * Q + d + (2 * r + b - d) = 2 * (Q + r) + b := by omega
    rw [a1, a2, Int.add_mul (2 * (Q + r)) b m']
    omega
  · have : 2 * q * d = 2 * Q := by rw [Int.mul_assoc, hQ]
    rw [this]
    have a1 : (Q + r) * (2 * m') = (2 * (Q + r)) * m' := by rw [← Int.mul_assoc, Int.mul_comm (Q + r) 2]
    have a2 : 2 * Q + (2 * r + b) = 2 * (Q + r) + b := by omega
    rw [a1, a2, Int.add_mul (2 * (Q + r)) b m']
    omega

theorem divAt_end (h l0 d q r l : Int) (H : DivAt h l0 d 64 q r l) : q = diQ h l0 d ∧ r = diR h l0 d := by
  obtain ⟨m, rest, e1, m1, e2, r0, r1, e3, s0, s1, q0, q1⟩ := H
  have em : m = 1 := by
    have e : (2 : Int) ^ 64 = 18446744073709551616 := rfl
    rw [e] at e1; omega
  subst em
  exact di_uniq h l0 d q r (by omega) s0 s1
end Go.Proofs.YtpkpmbigljkneaaDoor.Wd
