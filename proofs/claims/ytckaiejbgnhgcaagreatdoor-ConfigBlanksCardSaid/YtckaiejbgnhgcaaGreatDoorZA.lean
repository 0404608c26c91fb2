/- Plain facts on whole numbers for the wide layer's walks: and, or of numbers of 64 bits as remainder and sum; no conditions but those that each names. What wide.Less, wide.addCarry and wide.Add answer, for any numbers of 64 bits; no conditions. Plain facts on numbers that stop at their ends: sums and products up to the end; no conditions but those that each names. Plain facts on whole numbers for the document's own product and quotient, bit by bit; no conditions but those that each names. Plain facts on rows of bytes for keys: how many two begin with alike, which is less, which begins with which; no conditions but those that each names. What key's pairs goes through, and what key.Less, Common and Has answer, for any texts; no conditions but those that each names. Words for walks over states (structs of three cells): a call that makes memory, and then writes into what it made; no conditions. The map of the three kernels: what it holds when it is made, and what is found in it; no conditions. Plain facts on decimal digits: what is printed is read, what is read is printed as it was, how many digits there are; no conditions but those that each names. What digit's calls answer, for any numbers and texts; no conditions. -/
import Derived.WalkKit
import Derived.Laws.Bits64b
import Derived.Below
import Derived.Deep.Draws
import Derived.Test.YtckaiejbgnhgcaaGreatDoorRows
import Derived.ProofKit
import Derived.OpenShut
import Derived.Handy
import Derived.Lib.Hide
import Derived.Deep.RegionHeld3
import Derived.RangeFuncNested
import Derived.RangeFuncBound
import Derived.RangeFuncCalls
import Derived.RangeFuncLeaves
import Derived.Shelf.Abstract
import Derived.Shelf.RegionOpen
import Derived.OwnWalkIn
import Derived.TacticsInMore
import Derived.LoopNIn
import Derived.LoopIn
import Derived.Deep.QuietTactic
import Derived.BigQuiet
import Derived.Maps.OwnSet
import Derived.Laws.EntriesVeiled
import Derived.Lib.ItoaNum
import Derived.Lib.ItoaLen
import Derived.Laws.Strings
import GoSem.Op.String
import Derived.Lib.BufferWrite
import Derived.Laws.IdiomStrings
import Derived.Laws.ResultCell
import Derived.Laws.Rows
import Derived.ScopeJumps
import Derived.WalkMore
import Derived.WalkLawsBesides
import Derived.WalkSpells
import Derived.Deep.WholeRow
namespace Go.Proofs.YtckaiejbgnhgcaaGreatDoor.Wd
open Go.RowKit

/-! ### A call that makes memory at most: nothing that was there has changed -/
def Kept (w w' : World) : Prop := Grown w w' ∧ Below w.heap.size w w'
theorem Kept.refl (w : World) : Kept w w := ⟨Grown.refl _, Below.refl _ _⟩
theorem Kept.trans {a b c : World} (h : Kept a b) (k : Kept b c) : Kept a c :=
  ⟨⟨World.keptBut_trans h.1.1 k.1.1, fun x => (k.1.2.1 x).trans (h.1.2.1 x), Nat.le_trans h.1.2.2 k.1.2.2⟩, h.2.trans (k.2.mono h.2.size)⟩
theorem Kept.alloc {a b : World} (h : Kept a b) (c : Array Value) (t : TypeId) : Kept a (b.alloc (.cells c t)) := ⟨h.1.alloc c t, h.2.alloc h.2.size _⟩
theorem Kept.drew {a b : World} (h : Kept a b) : Kept a b.drew := ⟨h.1.drew, h.2.drew⟩
theorem Kept.grown {a b : World} (h : Kept a b) : Grown a b := h.1

/-- A call that reads in an open order at most. -/
def Drew (w w' : World) : Prop := ∃ n : Nat, w' = w.drewN n
theorem Drew.refl (w : World) : Drew w w := ⟨0, rfl⟩
theorem Drew.of (w : World) (n : Nat) : Drew w (w.drewN n) := ⟨n, rfl⟩
theorem Drew.trans {a b c : World} (h : Drew a b) (k : Drew b c) : Drew a c := by
  obtain ⟨n, rfl⟩ := h; obtain ⟨m, rfl⟩ := k; exact ⟨n + m, World.drewN_drewN _ _ _⟩
theorem Kept.drewN {a b : World} (h : Kept a b) (n : Nat) : Kept a (b.drewN n) := ⟨h.1, h.2.os, h.2.tape, h.2.output, h.2.size, h.2.block⟩
theorem Drew.kept {a b : World} (h : Drew a b) : Kept a b := by obtain ⟨n, rfl⟩ := h; exact (Kept.refl a).drewN n
theorem Drew.after {a b c : World} (h : Drew b c) (k : Kept a b) : Kept a c := k.trans h.kept

theorem and_mask32 (a : Int) (h : 0 ≤ a ∧ a ≤ 18446744073709551615) : bits BinOp.and IntKind.u64 a 4294967295 = a % 4294967296 := by
  have e := bits_and_u64_nat a.toNat 4294967295 (by omega) (by omega)
  have h2 : a.toNat &&& 4294967295 = a.toNat % 4294967296 := Nat.and_two_pow_sub_one_eq_mod a.toNat 32
  rw [h2, Int.toNat_of_nonneg h.1] at e
  refine e.trans ?_
  omega

theorem or_low (k : Nat) (x y : Nat) (hy : y < 2 ^ k) (h1 : 2 ^ k * x < 18446744073709551616) (h2 : y < 18446744073709551616) :
    bits BinOp.or IntKind.u64 ((2 ^ k * x : Nat) : Int) (y : Int) = ((2 ^ k * x + y : Nat) : Int) := by
  have e := bits_or_u64_nat (2 ^ k * x) y h1 h2
  rw [← Nat.two_pow_add_eq_or_of_lt hy] at e
  exact e

theorem or_32 (b a : Int) (ha : 0 ≤ a ∧ a ≤ 4294967295) (hb : 0 ≤ b ∧ b ≤ 4294967295) : bits BinOp.or IntKind.u64 (IntKind.u64.wrap (b * 4294967296)) a = b * 4294967296 + a := by
  have e := or_low 32 b.toNat a.toNat (by omega) (by omega) (by omega)
  have g : IntKind.u64.wrap (b * 4294967296) = ((2 ^ 32 * b.toNat : Nat) : Int) := by rw [IntKind.wrap_u64]; omega
  have g' : a = ((a.toNat : Nat) : Int) := by omega
  rw [g, g']
  refine e.trans ?_
  omega

theorem or_32' (b a : Int) (ha : 0 ≤ a ∧ a ≤ 4294967295) (hb : 0 ≤ b ∧ b ≤ 4294967295) : bits BinOp.or IntKind.u64 (b * 4294967296) a = b * 4294967296 + a := by
  have e := or_32 b a ha hb
  rw [IntWalk.u64_in _ (by omega)] at e
  exact e

theorem or_bit (x b : Int) (hx : 0 ≤ x ∧ x ≤ 18446744073709551615) (hb : 0 ≤ b ∧ b ≤ 1) (he : x % 2 = 0) : bits BinOp.or IntKind.u64 x b = x + b := by
  have e := or_low 1 (x.toNat / 2) b.toNat (by omega) (by omega) (by omega)
  have g : x = ((2 ^ 1 * (x.toNat / 2) : Nat) : Int) := by omega
  have g' : b = ((b.toNat : Nat) : Int) := by omega
  rw [g, g']
  refine e.trans ?_
  omega

/-! ### What the calls answer, by definition -/
def ltB (ah al bh bl : Int) : Bool := decide (ah < bh ∨ (ah = bh ∧ al < bl))
def adL (al bl : Int) : Int := (al + bl) % 18446744073709551616
def adH (ah al bh bl : Int) : Int := (ah + bh + (al + bl) / 18446744073709551616) % 18446744073709551616
def adC (ah al bh bl : Int) : Bool := decide (18446744073709551616 ≤ ah + bh + (al + bl) / 18446744073709551616)
def muH (a b : Int) : Int := a * b / 18446744073709551616
def muL (a b : Int) : Int := a * b % 18446744073709551616
def diQ (h l d : Int) : Int := (h * 18446744073709551616 + l) / d
def diR (h l d : Int) : Int := (h * 18446744073709551616 + l) % d
/-- A number of 64 bits. -/
def U (a : Int) : Prop := 0 ≤ a ∧ a ≤ 18446744073709551615

theorem mu_prod_le (a b : Int) (ha : U a) (hb : U b) : 0 ≤ a * b ∧ a * b ≤ 18446744073709551615 * 18446744073709551615 :=
  ⟨Int.mul_nonneg ha.1 hb.1, Int.mul_le_mul ha.2 hb.2 hb.1 (by omega)⟩
theorem muL_U (a b : Int) : U (muL a b) := by unfold muL U; omega
theorem muH_U (a b : Int) (ha : U a) (hb : U b) : U (muH a b) := by
  have h := mu_prod_le a b ha hb; unfold muH U; omega
theorem mu_eq (a b : Int) : muH a b * 18446744073709551616 + muL a b = a * b := by unfold muH muL; omega
theorem adL_U (al bl : Int) : U (adL al bl) := by unfold adL U; omega
theorem adH_U (ah al bh bl : Int) : U (adH ah al bh bl) := by unfold adH U; omega
theorem diQ_U (h l d : Int) (hh : U h) (hl : U l) (hd : h < d) : U (diQ h l d) := by
  unfold U at *
  have hd0 : 0 < d := by omega
  refine ⟨Int.ediv_nonneg (by omega) (by omega), ?_⟩
  unfold diQ
  have h1 : (h * 18446744073709551616 + l) < d * 18446744073709551616 := by omega
  have h2 : (h * 18446744073709551616 + l) / d < 18446744073709551616 := Int.ediv_lt_of_lt_mul hd0 (by rw [Int.mul_comm 18446744073709551616 d]; exact h1)
  omega
theorem diR_U (h l d : Int) (hh : U h) (hd : h < d) (hd2 : U d) : U (diR h l d) ∧ diR h l d < d := by
  unfold U at *
  have h1 := Int.emod_nonneg (h * 18446744073709551616 + l) (b := d) (by omega)
  have h2 := Int.emod_lt_of_pos (h * 18446744073709551616 + l) (b := d) (by omega)
  unfold diR
  omega
theorem di_eq (h l d : Int) : diQ h l d * d + diR h l d = h * 18446744073709551616 + l := by
  unfold diQ diR
  have := Int.mul_ediv_add_emod (h * 18446744073709551616 + l) d
  rw [Int.mul_comm] at this
  exact this
/-- A quotient and a rest that fit are the quotient and the rest. -/
theorem di_uniq (h l d q r : Int) (e : q * d + r = h * 18446744073709551616 + l) (h0 : 0 ≤ r) (h1 : r < d) : q = diQ h l d ∧ r = diR h l d := by
  unfold diQ diR
  rw [← e, Int.add_comm]
  constructor
  · rw [Int.add_mul_ediv_right _ _ (by omega), Int.ediv_eq_zero_of_lt h0 h1]; omega
  · rw [Int.add_mul_emod_self_right, Int.emod_eq_of_lt h0 h1]

/-! ### The schoolbook product by halves -/
theorem mul_halves (a0 a1 b0 b1 : Int) (h0 : 0 ≤ a0 ∧ a0 ≤ 4294967295) (h1 : 0 ≤ a1 ∧ a1 ≤ 4294967295) (g0 : 0 ≤ b0 ∧ b0 ≤ 4294967295) (g1 : 0 ≤ b1 ∧ b1 ≤ 4294967295) :
    (0 ≤ a0 * b0 ∧ a0 * b0 ≤ 18446744065119617025) ∧ (0 ≤ a1 * b0 ∧ a1 * b0 ≤ 18446744065119617025) ∧ (0 ≤ a0 * b1 ∧ a0 * b1 ≤ 18446744065119617025) ∧ (0 ≤ a1 * b1 ∧ a1 * b1 ≤ 18446744065119617025) ∧
    (a1 * 4294967296 + a0) * (b1 * 4294967296 + b0) = a1 * b1 * 18446744073709551616 + (a1 * b0 + a0 * b1) * 4294967296 + a0 * b0 := by
  have m (x y : Int) (hx : 0 ≤ x ∧ x ≤ 4294967295) (hy : 0 ≤ y ∧ y ≤ 4294967295) : 0 ≤ x * y ∧ x * y ≤ 18446744065119617025 :=
    ⟨Int.mul_nonneg hx.1 hy.1, Int.le_trans (Int.mul_le_mul hx.2 hy.2 hy.1 (by omega)) (by omega)⟩
  refine ⟨m _ _ h0 g0, m _ _ h1 g0, m _ _ h0 g1, m _ _ h1 g1, ?_⟩
  have e1 : (a1 * 4294967296) * (b1 * 4294967296) = a1 * b1 * 18446744073709551616 := by
    rw [Int.mul_assoc, Int.mul_comm 4294967296, Int.mul_assoc, ← Int.mul_assoc a1]; rfl
  have e2 : (a1 * 4294967296) * b0 = a1 * b0 * 4294967296 := by
    rw [Int.mul_assoc, Int.mul_comm 4294967296, ← Int.mul_assoc]
  have e3 : a0 * (b1 * 4294967296) = a0 * b1 * 4294967296 := by rw [Int.mul_assoc]
  rw [Int.add_mul, Int.mul_add, Int.mul_add, e1, e2, e3]
  omega

/-! ### The long division, bit by bit -/
/-- Behind k rounds: what is divided so far, what is left, and the digits that are still to come (at the top of the word). -/
def DivAt (h l0 d : Int) (k : Nat) (q r l : Int) : Prop :=
  ∃ m rest : Int, m * 2 ^ k = 18446744073709551616 ∧ 1 ≤ m ∧ l = rest * 2 ^ k ∧ 0 ≤ rest ∧ rest < m ∧ h * 18446744073709551616 + l0 = (q * d + r) * m + rest ∧ 0 ≤ r ∧ r < d ∧ 0 ≤ q ∧ q < 2 ^ k

theorem divAt_zero (h l d : Int) (hh : U h) (hl : U l) (hd : h < d) : DivAt h l d 0 0 h l := by
  unfold U at *
  refine ⟨18446744073709551616, l, by omega, by omega, by omega, by omega, by omega, by omega, by omega, by omega, by omega, by omega⟩

theorem pow_pos (k : Nat) : (0 : Int) < 2 ^ k := Int.pow_pos (by omega)

/-- A bound on a power of two: k rounds of 64. -/
theorem pow_le (k : Nat) (hk : k ≤ 64) : (2 : Int) ^ k ≤ 18446744073709551616 := by
  have h : (2 : Nat) ^ k ≤ 2 ^ 64 := Nat.pow_le_pow_right (by omega) hk
  have e : ((2 : Int) ^ k) = ((2 ^ k : Nat) : Int) := by rw [Int.natCast_pow]; rfl
  rw [e]; omega

/-- One round, told without going round: the next digit comes down; does the divisor go into it? -/
theorem divAt_step (h l0 d : Int) (k : Nat) (q r l : Int) (hk : k < 64) (H : DivAt h l0 d k q r l) :
    0 ≤ r ∧ r < d ∧ 0 ≤ q ∧ q ≤ 9223372036854775807 ∧ U l ∧
    (d ≤ 2 * r + l / 9223372036854775808 → DivAt h l0 d (k + 1) (2 * q + 1) (2 * r + l / 9223372036854775808 - d) (2 * l % 18446744073709551616)) ∧
    (2 * r + l / 9223372036854775808 < d → DivAt h l0 d (k + 1) (2 * q) (2 * r + l / 9223372036854775808) (2 * l % 18446744073709551616)) := by
  obtain ⟨m, rest, e1, m1, e2, r0, r1, e3, s0, s1, q0, q1⟩ := H
  have P := pow_pos k
  have P1 : (2 : Int) ^ (k + 1) = 2 * 2 ^ k := by rw [Int.pow_succ, Int.mul_comm]
  -- m is even
  obtain ⟨m', hm'⟩ : ∃ m' : Int, m = 2 * m' := by
    have hj : ∃ j : Nat, 64 = k + 1 + j := ⟨63 - k, by omega⟩
    obtain ⟨j, hj⟩ := hj
    refine ⟨2 ^ j, ?_⟩
    have e : (2 : Int) ^ 64 = 2 * 2 ^ j * 2 ^ k := by
      rw [hj, Int.pow_add, P1]
      rw [Int.mul_comm 2 (2 ^ k), Int.mul_assoc, Int.mul_comm]
    have e' : m * 2 ^ k = 2 * 2 ^ j * 2 ^ k := by rw [← e, e1]; rfl
    exact Int.eq_of_mul_eq_mul_right (by omega) e'
  subst hm'
  generalize hK : (2 : Int) ^ k = K at *
  have e1' : m' * K = 9223372036854775808 := by
    have : 2 * (m' * K) = 18446744073709551616 := by rw [← Int.mul_assoc]; exact e1
    omega
  have hm0 : 1 ≤ m' := by omega
  have kq : K ≤ 9223372036854775808 := by
    have := Int.mul_le_mul_of_nonneg_right hm0 (Int.le_of_lt P); omega
  -- the digit that comes down
  obtain ⟨b, hb0, hb1, x, hx0, hx1, hrest⟩ : ∃ b : Int, 0 ≤ b ∧ b ≤ 1 ∧ ∃ x : Int, 0 ≤ x ∧ x < m' ∧ rest = b * m' + x := by
    by_cases c : rest < m'
    · exact ⟨0, by omega, by omega, rest, r0, c, by omega⟩
    · exact ⟨1, by omega, by omega, rest - m', by omega, by omega, by omega⟩
  subst hrest
  have el : l = b * 9223372036854775808 + x * K := by
    rw [e2, Int.add_mul, Int.mul_assoc, e1']
  have xK : 0 ≤ x * K ∧ x * K < 9223372036854775808 := by
    refine ⟨Int.mul_nonneg hx0 (Int.le_of_lt P), ?_⟩
    rw [← e1']
    exact Int.mul_lt_mul_of_pos_right hx1 P
  have eb : l / 9223372036854775808 = b := by omega
  have el2 : 2 * l % 18446744073709551616 = x * (2 * K) := by
    have : x * (2 * K) = 2 * (x * K) := by rw [← Int.mul_assoc, Int.mul_comm x 2, Int.mul_assoc]
    rw [this]; omega
  have ul : U l := by unfold U; omega
  refine ⟨s0, s1, q0, by omega, ul, ?_, ?_⟩
  all_goals
    intro c
    rw [eb] at c ⊢
    refine ⟨m', x, by rw [P1, Int.mul_comm 2 K, ← Int.mul_assoc, e1']; rfl, hm0, by rw [P1]; exact el2, hx0, hx1, ?_, by omega, by omega, by omega, by rw [P1]; omega⟩
    rw [e3]
    generalize hQ : q * d = Q
  · have : (2 * q + 1) * d = 2 * Q + d := by rw [Int.add_mul, Int.one_mul, Int.mul_assoc, hQ]
    rw [this]
    have a1 : (Q + r) * (2 * m') = (2 * (Q + r)) * m' := by rw [← Int.mul_assoc, Int.mul_comm (Q + r) 2]
    have a2 : 2 * Q + d + (2 * r + b - d) = 2 * (Q + r) + b := by omega
    rw [a1, a2, Int.add_mul (2 * (Q + r)) b m']
    omega
  · have : 2 * q * d = 2 * Q := by rw [Int.mul_assoc, hQ]
    rw [this]
    have a1 : (Q + r) * (2 * m') = (2 * (Q + r)) * m' := by rw [← Int.mul_assoc, Int.mul_comm (Q + r) 2]
    have a2 : 2 * Q + (2 * r + b) = 2 * (Q + r) + b := by omega
    rw [a1, a2, Int.add_mul (2 * (Q + r)) b m']
    omega

theorem divAt_end (h l0 d q r l : Int) (H : DivAt h l0 d 64 q r l) : q = diQ h l0 d ∧ r = diR h l0 d := by
  obtain ⟨m, rest, e1, m1, e2, r0, r1, e3, s0, s1, q0, q1⟩ := H
  have em : m = 1 := by
    have e : (2 : Int) ^ 64 = 18446744073709551616 := rfl
    rw [e] at e1; omega
  subst em
  exact di_uniq h l0 d q r (by omega) s0 s1
end Go.Proofs.YtckaiejbgnhgcaaGreatDoor.Wd
namespace Go.Proofs.YtckaiejbgnhgcaaGreatDoor.Wd
open Go.RowKit

theorem less_any (ah al bh bl : Int) (w : World) :
    Calls Tryz.prog 150 #[.int .u64 ah, .int .u64 al, .int .u64 bh, .int .u64 bl] w fun e w' => e = .returned (.bool (ltB ah al bh bl)) ∧ w = w' := by
  by_cases h : ah = bh
  · subst h
    have e : ltB ah al ah bl = decide (al < bl) := by simp [ltB]
    rw [e]
    clear e
    go_enter Tryz.func150, Tryz.ntmps150
    go_wp2
    all_goals (go_ret; exact ⟨rfl, rfl⟩)
  · have e : ltB ah al bh bl = decide (ah < bh) := by simp [ltB, h]
    rw [e]
    clear e
    go_enter Tryz.func150, Tryz.ntmps150
    go_wp2
    all_goals (go_ret; exact ⟨rfl, rfl⟩)

theorem ret2 {k m : IntKind} {a b c d : Int} (h : a = b) (h' : c = d) : Ending.returned (.tuple #[.int k a, .int m c]) = .returned (.tuple #[.int k b, .int m d]) := by rw [h, h']

theorem addCarry_any (a b c : Int) (w : World) (ha : 0 ≤ a ∧ a ≤ 18446744073709551615) (hb : 0 ≤ b ∧ b ≤ 18446744073709551615) (hc : 0 ≤ c ∧ c ≤ 1) :
    Calls Tryz.prog 153 #[.int .u64 a, .int .u64 b, .int .u64 c] w fun e w' => e = .returned (.tuple #[.int .u64 ((a + b + c) % 18446744073709551616), .int .u64 ((a + b + c) / 18446744073709551616)]) ∧ w = w' := by
  go_enter Tryz.func153, Tryz.ntmps153
  go_wp2
  all_goals (go_ret2; refine ⟨ret2 ?_ ?_, rfl⟩ <;> (simp only [IntKind.wrap_u64] at *; omega))

theorem split_any (a : Int) (w : World) (ha : 0 ≤ a ∧ a ≤ 18446744073709551615) :
    Calls Tryz.prog 141 #[.int .u64 a] w fun e w' => e = .returned (.agg #[.int .u64 (a % 4294967296), .int .u64 (a / 4294967296)]) ∧ w.alloc (.cells #[.int .u64 (a % 4294967296), .int .u64 (a / 4294967296)] 188) = w' := by
  have e := and_mask32 a ha
  rw [← e]
  clear e
  go_enter Tryz.func141, Tryz.ntmps141
  go_wp2
  exact bodyPost_ret (v := .agg #[.int .u64 (bits BinOp.and IntKind.u64 a 4294967295), .int .u64 (a / 4294967296)]) (by simp [results, Tryz.results141, go_sem]) rfl ⟨rfl, rfl⟩

theorem join_any (a b : Int) (w : World) (ha : 0 ≤ a ∧ a ≤ 4294967295) (hb : 0 ≤ b ∧ b ≤ 4294967295) :
    Calls Tryz.prog 142 #[.agg #[.int .u64 a, .int .u64 b]] w fun e w' => e = .returned (.int .u64 (b * 4294967296 + a)) ∧ w.alloc (.cells #[.int .u64 a, .int .u64 b] 188) = w' := by
  have e := or_32' b a ha hb
  rw [← e]
  clear e
  go_enter Tryz.func142, Tryz.ntmps142
  go_wp2
  go_ret
  exact ⟨rfl, rfl⟩

theorem ret3 {k m : IntKind} {a b c d : Int} {p q : Bool} (h : a = b) (h' : c = d) (h'' : p = q) : Ending.returned (.tuple #[.int k a, .int m c, .bool p]) = .returned (.tuple #[.int k b, .int m d, .bool q]) := by rw [h, h', h'']

theorem add_any (ah al bh bl : Int) (w : World) (h1 : U ah) (h2 : U al) (h3 : U bh) (h4 : U bl) :
    Calls Tryz.prog 149 #[.int .u64 ah, .int .u64 al, .int .u64 bh, .int .u64 bl] w fun e w' => e = .returned (.tuple #[.int .u64 (adH ah al bh bl), .int .u64 (adL al bl), .bool (adC ah al bh bl)]) ∧ w = w' := by
  unfold U at *
  go_enter Tryz.func149, Tryz.ntmps149
  go_wp2_with (go_at_call 153; refine (addCarry_any _ _ _ _ (by omega) (by omega) (by omega)).mono ?_; rintro e w' ⟨rfl, rfl⟩)
  go_ret3
  refine ⟨ret3 rfl rfl ?_, rfl⟩
  rw [Bool.eq_iff_iff]
  unfold adC
  simp only [beq_iff_eq, decide_eq_true_eq]
  omega

theorem split_parts (lo hi : Int) (w : World) (h0 : 0 ≤ lo ∧ lo ≤ 4294967295) (h1 : 0 ≤ hi ∧ hi ≤ 4294967295) :
    Calls Tryz.prog 141 #[.int .u64 (hi * 4294967296 + lo)] w fun e w' => e = .returned (.agg #[.int .u64 lo, .int .u64 hi]) ∧ w.alloc (.cells #[.int .u64 lo, .int .u64 hi] 188) = w' := by
  have e := split_any (hi * 4294967296 + lo) w (by omega)
  have e1 : (hi * 4294967296 + lo) % 4294967296 = lo := by omega
  have e2 : (hi * 4294967296 + lo) / 4294967296 = hi := by omega
  rw [e1, e2] at e
  exact e

theorem cell_keep {W : World} {b o : Nat} {v : Value} {x : Obj} (h : W.cell? ⟨b, o, none⟩ = some v) (hb : b < W.heap.size) : (W.alloc x).drew.cell? ⟨b, o, none⟩ = some v := by
  have e : (W.alloc x).drew.cell? ⟨b, o, none⟩ = W.cell? ⟨b, o, none⟩ := ((Below.refl W.heap.size W).alloc (Nat.le_refl _) x).drew.cell (p := ⟨b, o, none⟩) hb
  rw [e]; exact h
theorem size_keep {W : World} {n : Nat} {x : Obj} (h : n ≤ W.heap.size) : n ≤ (W.alloc x).drew.heap.size := by
  have e : (W.alloc x).drew.heap.size = W.heap.size + 1 := by simp
  omega

theorem mul_parts (a0 a1 b0 b1 : Int) (w : World) (h0 : 0 ≤ a0 ∧ a0 ≤ 4294967295) (h1 : 0 ≤ a1 ∧ a1 ≤ 4294967295) (g0 : 0 ≤ b0 ∧ b0 ≤ 4294967295) (g1 : 0 ≤ b1 ∧ b1 ≤ 4294967295) :
    Calls Tryz.prog 129 #[.int .u64 (a1 * 4294967296 + a0), .int .u64 (b1 * 4294967296 + b0)] w fun e w' => e = .returned (.tuple #[.int .u64 (muH (a1 * 4294967296 + a0) (b1 * 4294967296 + b0)), .int .u64 (muL (a1 * 4294967296 + a0) (b1 * 4294967296 + b0))]) ∧ Kept w w' := by
  obtain ⟨m1, m2, m3, m4, m5⟩ := mul_halves a0 a1 b0 b1 h0 h1 g0 g1
  have M5 := Lib.hid m5
  clear m5
  go_enter Tryz.func129, Tryz.ntmps129
  go_wp2_with (go_at_call 141; first | ((with_reducible refine (split_parts _ _ _ (by omega) (by omega)).mono ?_); rintro e w' ⟨rfl, rfl⟩) | ((with_reducible refine (split_any _ _ (by omega)).mono ?_); rintro e w' ⟨rfl, rfl⟩))
  generalize hW : World.alloc _ _ = W
  have gW : Kept w W := by rw [← hW]; clear hW; constructor <;> go_grown
  have sW : w.heap.size + 10 ≤ W.heap.size := by rw [← hW]; clear hW; simp
  have c1 : W.cell? ⟨w.heap.size + 1 + 1, 1, none⟩ = some (.int .u64 a1) := by rw [← hW]; clear hW; go_cell
  have c2 : W.cell? ⟨w.heap.size + 1 + 1 + 1, 1, none⟩ = some (.int .u64 b1) := by rw [← hW]; clear hW; go_cell
  have c3 : W.cell? ⟨w.heap.size + 1 + 1 + 1 + 1 + 1 + 1 + 1, 1, none⟩ = some (.int .u64 ((a1 * b0 + a0 * b0 / 4294967296) / 4294967296)) := by rw [← hW]; clear hW; go_cell
  have c4 : W.cell? ⟨w.heap.size + 1 + 1 + 1 + 1 + 1 + 1 + 1 + 1 + 1, 1, none⟩ = some (.int .u64 ((a0 * b1 + (a1 * b0 + a0 * b0 / 4294967296) % 4294967296) / 4294967296)) := by rw [← hW]; clear hW; go_cell
  have c5 : W.cell? ⟨w.heap.size + 1 + 1 + 1 + 1 + 1, 0, none⟩ = some (.int .u64 (a0 * b0 % 4294967296)) := by rw [← hW]; clear hW; go_cell
  have c6 : W.cell? ⟨w.heap.size + 1 + 1 + 1 + 1 + 1 + 1 + 1 + 1 + 1, 0, none⟩ = some (.int .u64 ((a0 * b1 + (a1 * b0 + a0 * b0 / 4294967296)) % 4294967296)) := by rw [← hW]; clear hW; go_cell
  clear hW
  go_region_held3 (fun w' => Kept w w' ∧ w.heap.size + 10 ≤ w'.heap.size ∧ w'.cell? ⟨w.heap.size + 1 + 1, 1, none⟩ = some (.int .u64 a1) ∧ w'.cell? ⟨w.heap.size + 1 + 1 + 1, 1, none⟩ = some (.int .u64 b1)
    ∧ w'.cell? ⟨w.heap.size + 1 + 1 + 1 + 1 + 1 + 1 + 1, 1, none⟩ = some (.int .u64 ((a1 * b0 + a0 * b0 / 4294967296) / 4294967296))
    ∧ w'.cell? ⟨w.heap.size + 1 + 1 + 1 + 1 + 1 + 1 + 1 + 1 + 1, 1, none⟩ = some (.int .u64 ((a0 * b1 + (a1 * b0 + a0 * b0 / 4294967296) % 4294967296) / 4294967296))
    ∧ w'.cell? ⟨w.heap.size + 1 + 1 + 1 + 1 + 1, 0, none⟩ = some (.int .u64 (a0 * b0 % 4294967296))
    ∧ w'.cell? ⟨w.heap.size + 1 + 1 + 1 + 1 + 1 + 1 + 1 + 1 + 1, 0, none⟩ = some (.int .u64 ((a0 * b1 + (a1 * b0 + a0 * b0 / 4294967296)) % 4294967296)))
    (first | exact ⟨gW, sW, c1, c2, c3, c4, c5, c6⟩ | exact ⟨gW.drew, sW, c1, c2, c3, c4, c5, c6⟩ | exact ⟨(Kept.alloc gW _ _).drew, size_keep sW, cell_keep c1 (by omega), cell_keep c2 (by omega), cell_keep c3 (by omega), cell_keep c4 (by omega), cell_keep c5 (by omega), cell_keep c6 (by omega)⟩)
    (first | (go_at_call 142; ((with_reducible refine (join_any _ _ _ (by omega) (by omega)).mono ?_); rintro e w' ⟨rfl, rfl⟩)))
  rename_i hH
  have gF := hH.1
  clear hH c1 c2 c3 c4 c5 c6 sW gW
  go_wp2
  go_ret2
  refine ⟨ret2 ?_ ?_, gF⟩
  · unfold muH; rw [M5.out]; simp only [IntKind.wrap_u64]; omega
  · unfold muL; rw [M5.out]; omega

theorem mul_any (a b : Int) (w : World) (ha : U a) (hb : U b) :
    Calls Tryz.prog 129 #[.int .u64 a, .int .u64 b] w fun e w' => e = .returned (.tuple #[.int .u64 (muH a b), .int .u64 (muL a b)]) ∧ Kept w w' := by
  unfold U at *
  have h := mul_parts (a % 4294967296) (a / 4294967296) (b % 4294967296) (b / 4294967296) w (by omega) (by omega) (by omega) (by omega)
  have ea : a / 4294967296 * 4294967296 + a % 4294967296 = a := by omega
  have eb : b / 4294967296 * 4294967296 + b % 4294967296 = b := by omega
  rw [ea, eb] at h
  exact h
end Go.Proofs.YtckaiejbgnhgcaaGreatDoor.Wd
namespace Go.Proofs.YtckaiejbgnhgcaaGreatDoor.Wd
open Go.RowKit

/-- The end, or what is below it. -/
def sat (x : Int) : Int := if x ≤ 18446744073709551615 then x else 18446744073709551615
def stopV (h l : Int) : Int := if h = 0 then l else 18446744073709551615
def addAll (xs : List Int) : Int := xs.foldl (fun s x => sat (s + x)) 0
def sbI (a b : Int) : Int := if a < b then 0 else a - b
def dvI (a b : Int) : Int := if b = 0 then 18446744073709551615 else a / b
def lfI (a b : Int) : Int := if b = 0 then 0 else a % b
def clI (a b : Int) : Int := if b = 0 then 18446744073709551615 else if a % b = 0 then a / b else a / b + 1
def cmI (t : Int) : Int := if t < 0 then 0 else t
def ftB (a b c : Int) : Bool := decide (a + b ≤ c)

theorem sat_U (x : Int) (h : 0 ≤ x) : U (sat x) := by unfold sat U; split <;> omega
theorem stop_add (s x : Int) (hs : U s) (hx : U x) : stopV (adH 0 s 0 x) (adL s x) = sat (s + x) := by
  unfold U at *; unfold stopV adH adL sat; split <;> split <;> omega
theorem stop_mul (a b : Int) (ha : U a) (hb : U b) : stopV (muH a b) (muL a b) = sat (a * b) := by
  have h := mu_prod_le a b ha hb
  unfold stopV muH muL sat; split <;> split <;> omega
theorem fits_less (a b c : Int) (ha : U a) (hb : U b) (hc : U c) : (!ltB 0 c (adH 0 a 0 b) (adL a b)) = ftB a b c := by
  unfold U at *
  unfold ltB adH adL ftB
  rw [Bool.eq_iff_iff]
  simp only [Bool.not_eq_true', decide_eq_false_iff_not, decide_eq_true_eq]
  omega
theorem addAll_snoc (xs : List Int) (x : Int) : addAll (xs ++ [x]) = sat (addAll xs + x) := by unfold addAll; rw [List.foldl_append]; rfl
theorem addAll_take (xs : List Int) (k : Nat) (hk : k < xs.length) : addAll (xs.take (k + 1)) = sat (addAll (xs.take k) + xs.getD k 0) := by
  rw [List.take_succ_eq_append_getElem hk, addAll_snoc]
  congr 2
  simp [List.getD, List.getElem?_eq_getElem hk]
theorem addAll_from (xs : List Int) (s : Int) (hs : U s) (hx : ∀ x ∈ xs, U x) : xs.foldl (fun s x => sat (s + x)) s = sat (s + xs.sum) := by
  induction xs generalizing s with
  | nil => simp; unfold sat U at *; split <;> omega
  | cons x xs ih =>
    have h1 := hx x (by simp)
    rw [List.foldl_cons, ih _ (sat_U _ (by unfold U at *; omega)) (fun y hy => hx y (by simp [hy]))]
    have h2 : 0 ≤ xs.sum := by
      clear ih
      induction xs with
      | nil => simp
      | cons y ys ih2 =>
        have := ih2 (fun z hz => hx z (by simp at hz ⊢; rcases hz with h | h; exact .inl h; exact .inr (.inr h)))
        have := hx y (by simp)
        unfold U at *
        simp; omega
    unfold U at *
    rw [List.sum_cons]
    unfold sat; split <;> split <;> split <;> omega
theorem addAll_sum (xs : List Int) (hx : ∀ x ∈ xs, U x) : addAll xs = sat xs.sum := by
  unfold addAll
  rw [addAll_from xs 0 (by unfold U; omega) hx]
  simp
theorem sum_nonneg (xs : List Int) (hx : ∀ x ∈ xs, U x) : 0 ≤ xs.sum := by
  induction xs with
  | nil => simp
  | cons y ys ih =>
    have := ih (fun z hz => hx z (by simp [hz]))
    have := hx y (by simp)
    unfold U at *
    simp; omega
theorem addAll_U (xs : List Int) (hx : ∀ x ∈ xs, U x) : U (addAll xs) := by
  rw [addAll_sum xs hx]; exact sat_U _ (sum_nonneg xs hx)
theorem addAll_two (a b : Int) (ha : U a) : addAll [a, b] = sat (a + b) := by
  unfold addAll
  simp
  unfold U at *
  unfold sat; split <;> split <;> (try split) <;> omega
theorem addAll_nil : addAll [] = 0 := rfl
theorem le_sum (xs : List Int) (hx : ∀ x ∈ xs, U x) (x : Int) (h : x ∈ xs) : x ≤ xs.sum := by
  induction xs with
  | nil => simp at h
  | cons y ys ih =>
    have n := sum_nonneg ys (fun z hz => hx z (by simp [hz]))
    have := hx y (by simp)
    unfold U at this
    rw [List.sum_cons]
    rcases List.mem_cons.mp h with rfl | h
    · omega
    · have := ih (fun z hz => hx z (by simp [hz])) h
      omega
theorem le_addAll (xs : List Int) (hx : ∀ x ∈ xs, U x) (x : Int) (h : x ∈ xs) : x ≤ addAll xs := by
  rw [addAll_sum xs hx]
  have := le_sum xs hx x h
  have := hx x h
  unfold sat U at *; split <;> omega
theorem addAll_rev (xs : List Int) (hx : ∀ x ∈ xs, U x) : addAll xs.reverse = addAll xs := by
  rw [addAll_sum xs hx, addAll_sum _ (fun x h => hx x (by simpa using h)), List.sum_reverse]
theorem addAll_parts (xs : List Int) (hx : ∀ x ∈ xs, U x) (k : Nat) : addAll [addAll (xs.take k), addAll (xs.drop k)] = addAll xs := by
  have h1 : ∀ x ∈ xs.take k, U x := fun x h => hx x (List.mem_of_mem_take h)
  have h2 : ∀ x ∈ xs.drop k, U x := fun x h => hx x (List.mem_of_mem_drop h)
  rw [addAll_two _ _ (addAll_U _ h1), addAll_sum _ h1, addAll_sum _ h2, addAll_sum xs hx]
  have e : xs.sum = (xs.take k).sum + (xs.drop k).sum := by
    rw [← List.sum_append, List.take_append_drop]
  have n1 := sum_nonneg _ h1
  have n2 := sum_nonneg _ h2
  rw [e]
  unfold sat; (repeat' split) <;> omega
theorem sbI_U (a b : Int) (ha : U a) (hb : U b) : U (sbI a b) := by unfold sbI U at *; split <;> omega
theorem div_le_of (a b : Int) (ha : U a) (hb : U b) : 0 ≤ a / b ∧ a / b ≤ a := ⟨Int.ediv_nonneg ha.1 hb.1, Int.ediv_le_self _ ha.1⟩
theorem dvI_U (a b : Int) (ha : U a) (hb : U b) : U (dvI a b) := by
  have := div_le_of a b ha hb
  unfold dvI U at *; split <;> omega
end Go.Proofs.YtckaiejbgnhgcaaGreatDoor.Wd
namespace Go.Proofs.YtckaiejbgnhgcaaGreatDoor.Wd
open Go.RowKit

theorem half_pow (b : Int) (k : Nat) : b / 2 ^ k = 2 * (b / 2 ^ (k + 1)) + b / 2 ^ k % 2 := by
  have e : b / 2 ^ (k + 1) = b / 2 ^ k / 2 := by
    rw [Int.pow_succ, ← Int.ediv_ediv_of_nonneg (Int.le_of_lt (pow_pos k))]
  rw [e]; omega
theorem div_pow_nonneg (b : Int) (k : Nat) (h : 0 ≤ b) : 0 ≤ b / 2 ^ k ∧ b / 2 ^ k ≤ b :=
  ⟨Int.ediv_nonneg h (Int.le_of_lt (pow_pos k)), Int.ediv_le_self _ h⟩

/-! ### The product -/
/-- The bits of b above the j lowest are done. -/
def MulAt (a b : Int) (j : Nat) (x y : Int) : Prop := x * 18446744073709551616 + y = a * (b / 2 ^ j) ∧ 0 ≤ x ∧ U y
theorem mulAt_zero (a b : Int) (hb : U b) : MulAt a b 64 0 0 := by
  unfold U at hb
  have e : b / 2 ^ 64 = 0 := by omega
  refine ⟨by rw [e]; omega, by omega, by unfold U; omega⟩
theorem mulAt_end (a b x y : Int) (h : MulAt a b 0 x y) : x = muH a b ∧ y = muL a b := by
  obtain ⟨e, x0, uy⟩ := h
  have e' : b / 2 ^ 0 = b := by omega
  rw [e'] at e
  unfold U at uy
  unfold muH muL
  rw [← e]; omega
theorem mulAt_step (a b : Int) (k : Nat) (x y : Int) (ha : U a) (hb : U b) (H : MulAt a b (k + 1) x y) :
    0 ≤ x ∧ U y ∧ U (2 * x + y / 9223372036854775808) ∧
    (b / 2 ^ k % 2 = 0 → MulAt a b k (2 * x + y / 9223372036854775808) (2 * y % 18446744073709551616)) ∧
    (b / 2 ^ k % 2 = 1 → MulAt a b k (2 * x + y / 9223372036854775808 + (2 * y % 18446744073709551616 + a) / 18446744073709551616) ((2 * y % 18446744073709551616 + a) % 18446744073709551616) ∧
      U (2 * x + y / 9223372036854775808 + (2 * y % 18446744073709551616 + a) / 18446744073709551616)) := by
  unfold MulAt at *
  obtain ⟨e, x0, uy⟩ := H
  have hp := half_pow b k
  have hn := div_pow_nonneg b k hb.1
  have hn2 := div_pow_nonneg b (k + 1) hb.1
  generalize b / 2 ^ (k + 1) = t at *
  generalize b / 2 ^ k = s at *
  have us : U s := by unfold U at *; omega
  have pr := mu_prod_le a s ha us
  unfold U at ha uy
  refine ⟨x0, by unfold U; omega, ?_, ?_, ?_⟩
  · have c : s % 2 = 0 ∨ s % 2 = 1 := by omega
    have es : a * s = 2 * (a * t) + a * (s % 2) := by
      have : a * s = a * (2 * t + s % 2) := by rw [← hp]
      rw [this, Int.mul_add, ← Int.mul_assoc, Int.mul_comm a 2, Int.mul_assoc]
    unfold U
    rcases c with c | c <;> rw [c] at es <;> omega
  · intro c
    have es : a * s = 2 * (a * t) := by
      have : s = 2 * t := by omega
      rw [this, ← Int.mul_assoc, Int.mul_comm a 2, Int.mul_assoc]
    refine ⟨?_, by omega, by unfold U; omega⟩
    rw [es]; omega
  · intro c
    have es : a * s = 2 * (a * t) + a := by
      have : s = 2 * t + 1 := by omega
      rw [this, Int.mul_add, ← Int.mul_assoc, Int.mul_comm a 2, Int.mul_assoc]; omega
    refine ⟨⟨?_, by omega, by unfold U; omega⟩, ?_⟩
    · rw [es]; omega
    · unfold U; omega

/-! ### The quotient -/
def RDivAt (h l d : Int) (j : Nat) (q r : Int) : Prop := q * d + r = (h * 18446744073709551616 + l) / 2 ^ j ∧ 0 ≤ r ∧ r < d ∧ 0 ≤ q
theorem rdivAt_zero (h l d : Int) (hh : U h) (hl : U l) (c : h < d) : RDivAt h l d 64 0 h := by
  unfold U at *
  have e : (h * 18446744073709551616 + l) / 2 ^ 64 = h := by omega
  exact ⟨by rw [e]; omega, by omega, c, by omega⟩
theorem rdivAt_end (h l d q r : Int) (H : RDivAt h l d 0 q r) : q = diQ h l d ∧ r = diR h l d := by
  obtain ⟨e, r0, r1, q0⟩ := H
  have e' : (h * 18446744073709551616 + l) / 2 ^ 0 = h * 18446744073709551616 + l := by omega
  rw [e'] at e
  exact di_uniq h l d q r e r0 r1
theorem rdiv_bit (h l : Int) (k : Nat) (hk : k < 64) : (h * 18446744073709551616 + l) / 2 ^ k % 2 = l / 2 ^ k % 2 := by
  obtain ⟨j, hj⟩ : ∃ j : Nat, 64 = j + 1 + k := ⟨63 - k, by omega⟩
  have e : (18446744073709551616 : Int) = 2 ^ j * 2 * 2 ^ k := by
    have : (18446744073709551616 : Int) = 2 ^ 64 := rfl
    rw [this, hj, Int.pow_add, Int.pow_succ]
  have e2 : h * 18446744073709551616 + l = l + h * (2 ^ j * 2) * 2 ^ k := by rw [e, ← Int.mul_assoc h (2 ^ j * 2) (2 ^ k), Int.add_comm]
  rw [e2, Int.add_mul_ediv_right _ _ (by have := pow_pos k; omega), ← Int.mul_assoc]
  omega
theorem rdivAt_step (h l d : Int) (k : Nat) (q r : Int) (hh : U h) (hl : U l) (c : h < d) (hk : k < 64) (H : RDivAt h l d (k + 1) q r) :
    0 ≤ r ∧ r < d ∧ 0 ≤ q ∧ q ≤ 9223372036854775807 ∧ (0 ≤ l / 2 ^ k ∧ l / 2 ^ k ≤ 18446744073709551615) ∧
    (d ≤ 2 * r + l / 2 ^ k % 2 → RDivAt h l d k (2 * q + 1) (2 * r + l / 2 ^ k % 2 - d)) ∧
    (2 * r + l / 2 ^ k % 2 < d → RDivAt h l d k (2 * q) (2 * r + l / 2 ^ k % 2)) := by
  obtain ⟨e, r0, r1, q0⟩ := H
  have hb := rdiv_bit h l k hk
  have hp := half_pow (h * 18446744073709551616 + l) k
  rw [hb] at hp
  have hl2 := div_pow_nonneg l k hl.1
  have hn := div_pow_nonneg (h * 18446744073709551616 + l) k (by unfold U at *; omega)
  have hlt : h * 18446744073709551616 + l < d * 18446744073709551616 := by unfold U at *; omega
  have q1 : q ≤ 9223372036854775807 := by
    -- 2 * q * d is no more than what is divided
    have h1 : 2 * (q * d) < d * 18446744073709551616 := by omega
    have h2 : d * (2 * q) < d * 18446744073709551616 := by
      rw [Int.mul_comm d (2 * q), Int.mul_assoc]; exact h1
    have h3 := Int.lt_of_mul_lt_mul_left h2 (by omega)
    omega
  unfold U at hl
  refine ⟨r0, r1, q0, q1, by omega, ?_, ?_⟩
  · intro g
    refine ⟨?_, by omega, by omega, by omega⟩
    rw [hp, ← e, Int.add_mul, Int.one_mul, Int.mul_assoc]; omega
  · intro g
    refine ⟨?_, by omega, by omega, by omega⟩
    rw [hp, ← e, Int.mul_assoc]; omega
end Go.Proofs.YtckaiejbgnhgcaaGreatDoor.Wd
namespace Go.Proofs.YtckaiejbgnhgcaaGreatDoor.Wd
open Go.RowKit

theorem list_size (s : ByteArray) : s.data.toList.length = s.size := by cases s; rfl
theorem list_at (s : ByteArray) (i : Nat) (h : i < s.size) (h' : i < s.data.toList.length) : s.data.toList[i] = s[i] := by cases s; rfl
/-- The bytes of a text. -/
abbrev lb (s : ByteArray) : List UInt8 := s.data.toList

/-- How many bytes two begin with alike. -/
def cm : List UInt8 → List UInt8 → Nat
  | a :: x, b :: y => if a = b then cm x y + 1 else 0
  | _, _ => 0
/-- Which is less. -/
abbrev ls (x y : List UInt8) : Bool := Op.bytesLess x y

theorem cm_nil_left (y : List UInt8) : cm [] y = 0 := by cases y <;> rfl
theorem cm_nil_right (x : List UInt8) : cm x [] = 0 := by cases x <;> rfl
theorem cm_cons (a b : UInt8) (x y : List UInt8) : cm (a :: x) (b :: y) = if a = b then cm x y + 1 else 0 := by rw [cm]
theorem ls_cons (a b : UInt8) (x y : List UInt8) : ls (a :: x) (b :: y) = (decide (a < b) || (a == b && ls x y)) := by
  show Op.bytesLess (a :: x) (b :: y) = _
  rw [Op.bytesLess]
theorem ls_nil_right (x : List UInt8) : ls x [] = false := by show Op.bytesLess x [] = false; cases x <;> rfl
theorem ls_nil_left (b : UInt8) (y : List UInt8) : ls [] (b :: y) = true := rfl

theorem cm_le_left : ∀ x y, cm x y ≤ x.length
  | [], y => by rw [cm_nil_left]; exact Nat.zero_le _
  | a :: x, [] => by rw [cm_nil_right]; exact Nat.zero_le _
  | a :: x, b :: y => by rw [cm_cons]; have := cm_le_left x y; split <;> simp <;> omega
theorem cm_comm : ∀ x y, cm x y = cm y x
  | [], y => by rw [cm_nil_left, cm_nil_right]
  | a :: x, [] => by rw [cm_nil_left, cm_nil_right]
  | a :: x, b :: y => by
    rw [cm_cons, cm_cons, cm_comm x y]
    by_cases h : a = b
    · rw [if_pos h, if_pos h.symm]
    · rw [if_neg h, if_neg (fun e => h e.symm)]
theorem cm_le_right (x y : List UInt8) : cm x y ≤ y.length := by rw [cm_comm]; exact cm_le_left y x
theorem cm_take : ∀ x y : List UInt8, x.take (cm x y) = y.take (cm x y)
  | [], y => by rw [cm_nil_left]; simp
  | a :: x, [] => by rw [cm_nil_right]; simp
  | a :: x, b :: y => by
    rw [cm_cons]
    by_cases h : a = b
    · rw [if_pos h, h]; simp [cm_take x y]
    · rw [if_neg h]; simp
theorem cm_unlike : ∀ x y (h : cm x y < x.length) (h' : cm x y < y.length), x[cm x y] ≠ y[cm x y]
  | [], y, h, _ => by simp at h
  | a :: x, [], _, h' => by simp at h'
  | a :: x, b :: y, h, h' => by
    by_cases e : a = b
    · have hc : cm (a :: x) (b :: y) = cm x y + 1 := by rw [cm_cons, if_pos e]
      have h1 : cm x y < x.length := by rw [hc] at h; simpa using h
      have h2 : cm x y < y.length := by rw [hc] at h'; simpa using h'
      have := cm_unlike x y h1 h2
      simp only [hc, List.getElem_cons_succ]
      exact this
    · have hc : cm (a :: x) (b :: y) = 0 := by rw [cm_cons, if_neg e]
      simp only [hc, List.getElem_cons_zero]
      exact e
/-- What is alike so far, and no further, is what is common. -/
theorem cm_is : ∀ (n : Nat) (x y : List UInt8), n ≤ x.length → n ≤ y.length → x.take n = y.take n → (∀ (h : n < x.length) (h' : n < y.length), x[n] ≠ y[n]) → cm x y = n
  | 0, [], y, _, _, _, _ => cm_nil_left y
  | 0, a :: x, [], _, _, _, _ => cm_nil_right _
  | 0, a :: x, b :: y, _, _, _, h => by rw [cm_cons, if_neg]; exact h (by simp) (by simp)
  | n + 1, [], y, h, _, _, _ => by simp at h
  | n + 1, a :: x, [], _, h, _, _ => by simp at h
  | n + 1, a :: x, b :: y, h1, h2, h3, h4 => by
    simp only [List.take_succ_cons, List.cons.injEq] at h3
    rw [cm_cons, if_pos h3.1, cm_is n x y (by simpa using h1) (by simpa using h2) h3.2 (fun g g' => by
      have := h4 (by simpa using g) (by simpa using g')
      simpa using this)]

theorem cm_self (x : List UInt8) : cm x x = x.length := cm_is _ _ _ (Nat.le_refl _) (Nat.le_refl _) rfl (fun h => absurd h (Nat.lt_irrefl _))

/-- One begins with the other one, just if all of that is common. -/
theorem cm_has (k p : List UInt8) : cm k p = p.length ↔ p <+: k := by
  constructor
  · intro h
    have := cm_take k p
    rw [h, List.take_length] at this
    rw [← this]; exact List.take_prefix _ _
  · rintro ⟨t, rfl⟩
    exact cm_is _ _ _ (by simp) (Nat.le_refl _) (by simp) (fun _ h => absurd h (Nat.lt_irrefl _))

/-! ### Less by what is common -/
theorem u8_lt (a b : UInt8) : decide (a < b) = decide (a.toNat < b.toNat) := by
  rw [Bool.eq_iff_iff]; simp only [decide_eq_true_eq]; rw [UInt8.lt_iff_toNat_lt]
theorem u8_eq (a b : UInt8) : (a == b) = decide ((a.toNat : Int) = (b.toNat : Int)) := by
  rw [Bool.eq_iff_iff, beq_iff_eq, decide_eq_true_eq, ← UInt8.toNat_inj]; omega
theorem u8_ne {a b : UInt8} (h : a ≠ b) : ((a.toNat : Int) == (b.toNat : Int)) = false := by
  rw [beq_eq_false_iff_ne]; intro e; exact h (UInt8.toNat_inj.1 (by omega))
theorem u8_same {a b : UInt8} (h : ((a.toNat : Int) == (b.toNat : Int)) = true) : a = b := UInt8.toNat_inj.1 (by have := eq_of_beq h; omega)

theorem ls_cm : ∀ x y, ls x y = if h : cm x y < x.length ∧ cm x y < y.length then decide (x[cm x y] < y[cm x y]) else decide (x.length < y.length)
  | [], [] => by rw [dif_neg (by simp)]; rfl
  | [], b :: y => by rw [dif_neg (by simp)]; rw [ls_nil_left]; simp
  | a :: x, [] => by rw [dif_neg (by simp)]; rw [ls_nil_right]; simp
  | a :: x, b :: y => by
    rw [ls_cons]
    by_cases e : a = b
    · subst e
      rw [ls_cm x y]
      have hc : cm (a :: x) (a :: y) = cm x y + 1 := by rw [cm_cons, if_pos rfl]
      simp only [hc, List.length_cons, Nat.add_lt_add_iff_right, List.getElem_cons_succ, BEq.rfl, Bool.true_and]
      simp
    · have hc : cm (a :: x) (b :: y) = 0 := by rw [cm_cons, if_neg e]
      rw [dif_pos (by rw [hc]; simp)]
      simp only [hc, List.getElem_cons_zero]
      rw [beq_eq_false_iff_ne.2 e]
      simp

theorem ls_irrefl : ∀ x, ls x x = false
  | [] => rfl
  | a :: x => by rw [ls_cons, ls_irrefl x]; simp
theorem ls_trans : ∀ x y z, ls x y = true → ls y z = true → ls x z = true
  | x, [], z, h, _ => by rw [ls_nil_right] at h; cases h
  | x, b :: y, [], _, h => by rw [ls_nil_right] at h; cases h
  | [], b :: y, c :: z, _, _ => ls_nil_left _ _
  | a :: x, b :: y, c :: z, h, g => by
    rw [ls_cons] at h g ⊢
    simp only [Bool.or_eq_true, Bool.and_eq_true, decide_eq_true_eq, beq_iff_eq] at h g ⊢
    rw [UInt8.lt_iff_toNat_lt] at h g ⊢
    rcases h with h | ⟨rfl, h⟩
    · rcases g with g | ⟨rfl, g⟩
      · exact .inl (by omega)
      · exact .inl h
    · rcases g with g | ⟨rfl, g⟩
      · exact .inl g
      · exact .inr ⟨rfl, ls_trans x y z h g⟩
theorem ls_asymm (x y : List UInt8) (h : ls x y = true) : ls y x = false := by
  rw [← Bool.not_eq_true]
  intro g
  have := ls_trans x y x h g
  rw [ls_irrefl] at this; cases this
theorem ls_total : ∀ x y, (ls x y || ls y x) = !(x == y)
  | [], [] => rfl
  | [], b :: y => rfl
  | a :: x, [] => rfl
  | a :: x, b :: y => by
    rw [ls_cons, ls_cons]
    have ih := ls_total x y
    by_cases e : a = b
    · subst e
      simp only [BEq.rfl, Bool.true_and, UInt8.lt_irrefl, decide_false, Bool.false_or, ih, List.cons_beq_cons]
    · have h1 : (a == b) = false := beq_eq_false_iff_ne.2 e
      have h2 : (b == a) = false := beq_eq_false_iff_ne.2 (fun h => e h.symm)
      have h3 : a.toNat ≠ b.toNat := fun h => e (UInt8.toNat_inj.1 h)
      rw [List.cons_beq_cons, h1, h2]
      simp only [Bool.false_and, Bool.or_false, Bool.not_false, Bool.or_eq_true, decide_eq_true_eq]
      rw [UInt8.lt_iff_toNat_lt, UInt8.lt_iff_toNat_lt]; omega

/-! ### What comes by pairs -/
theorem zip_all_take : ∀ (x y : List UInt8) (n : Nat), n ≤ x.length → n ≤ y.length → (∀ p ∈ (x.zip y).take n, p.1 = p.2) → x.take n = y.take n
  | _, _, 0, _, _, _ => by simp
  | [], y, n + 1, h, _, _ => by simp at h
  | a :: x, [], n + 1, _, h, _ => by simp at h
  | a :: x, b :: y, n + 1, h1, h2, h => by
    simp only [List.zip_cons_cons, List.take_succ_cons, List.mem_cons, forall_eq_or_imp] at h
    rw [List.take_succ_cons, List.take_succ_cons, h.1, zip_all_take x y n (by simpa using h1) (by simpa using h2) h.2]
/-- All of the pairs are alike. -/
theorem cm_all {x y : List UInt8} (h : ∀ p ∈ x.zip y, p.1 = p.2) : cm x y = (x.zip y).length := by
  have hl : (x.zip y).length = min x.length y.length := by simp
  refine cm_is _ _ _ (by omega) (by omega) (zip_all_take x y _ (by omega) (by omega) (fun p hp => h p (List.mem_of_mem_take hp))) (fun h1 h2 => by omega)
/-- One pair is not. -/
theorem cm_parts {x y : List UInt8} {pre : List (UInt8 × UInt8)} {p : UInt8 × UInt8} (hp : pre ++ [p] <+: x.zip y) (h : ∀ q ∈ pre, q.1 = q.2) (hne : p.1 ≠ p.2) :
    cm x y = pre.length ∧ ∃ (h1 : cm x y < x.length) (h2 : cm x y < y.length), x[cm x y] = p.1 ∧ y[cm x y] = p.2 := by
  obtain ⟨t, ht⟩ := hp
  have hl : (x.zip y).length = min x.length y.length := by simp
  have hk : pre.length < (x.zip y).length := by rw [← ht]; simp
  have h1 : pre.length < x.length := by omega
  have h2 : pre.length < y.length := by omega
  have hg : (x.zip y)[pre.length] = p := by
    have : (x.zip y)[pre.length]? = some p := by rw [← ht]; simp
    rw [List.getElem?_eq_getElem hk] at this
    exact Option.some.inj this
  rw [List.getElem_zip] at hg
  have hx : x[pre.length] = p.1 := by rw [← hg]
  have hy : y[pre.length] = p.2 := by rw [← hg]
  have e : cm x y = pre.length := cm_is _ _ _ (by omega) (by omega) (zip_all_take x y _ (by omega) (by omega) (fun q hq => by
    rw [← ht] at hq
    simp at hq
    exact h q hq)) (fun _ _ => by rw [hx, hy]; exact hne)
  refine ⟨e, by omega, by omega, ?_, ?_⟩
  · simp only [e]; exact hx
  · simp only [e]; exact hy
theorem ls_all {x y : List UInt8} (h : ∀ p ∈ x.zip y, p.1 = p.2) : ls x y = decide (x.length < y.length) := by
  have hl : (x.zip y).length = min x.length y.length := by simp
  rw [ls_cm, dif_neg (by rw [cm_all h]; omega)]
theorem ls_parts {x y : List UInt8} {pre : List (UInt8 × UInt8)} {p : UInt8 × UInt8} (hp : pre ++ [p] <+: x.zip y) (h : ∀ q ∈ pre, q.1 = q.2) (hne : p.1 ≠ p.2) : ls x y = decide (p.1 < p.2) := by
  obtain ⟨_, h1, h2, hx, hy⟩ := cm_parts hp h hne
  rw [ls_cm, dif_pos ⟨h1, h2⟩, hx, hy]
end Go.Proofs.YtckaiejbgnhgcaaGreatDoor.Wd
namespace Go.Proofs.YtckaiejbgnhgcaaGreatDoor.Wd
open Go Go.RowKit Go.Shelf
set_option linter.unusedVariables false
attribute [local go_sem] Oper.semAt_some

/-- Two blocks, one behind the other, lie as they lay. -/
def Two (p : Nat) (A C : World) : Prop := C.heap[p]? = A.heap[p]? ∧ C.heap[p + 1]? = A.heap[p + 1]?
theorem Two.refl (p : Nat) (A : World) : Two p A A := ⟨rfl, rfl⟩
theorem two_t {p : Nat} {A B C : World} (h : Two p A B) (k : Two p B C) : Two p A C := ⟨k.1.trans h.1, k.2.trans h.2⟩
theorem two_b {p : Nat} {w : World} (hp : p + 1 < w.heap.size) (W : World) (l : Nat) (o o' : Obj) (hl : w.heap.size ≤ l) (h : W.heap[l]? = some o) (_ : o.isCells = false) (_ : o.isWalk = false) : Two p W (W.putObj l o') :=
  ⟨World.putObj_heap_other (by omega), World.putObj_heap_other (by omega)⟩
theorem Two.set {p : Nat} (W : World) (q : Addr) (u : Value) (h : q.block ≠ p) (h' : q.block ≠ p + 1) : Two p W (W.setCell q u) :=
  ⟨Below.heap_setCell _ _ _ _ (by omega), Below.heap_setCell _ _ _ _ (by omega)⟩
theorem Two.box {p : Nat} {A C : World} (h : Two p A C) {t : TypeId} {v : Value} (c : Boxed A p t v) : Boxed C p t v := h.1.trans c
theorem Two.box' {p : Nat} {A C : World} (h : Two p A C) {t : TypeId} {v : Value} (c : Boxed A (p + 1) t v) : Boxed C (p + 1) t v := h.2.trans c

/-- A pair of bytes, as values. -/
abbrev prs (x : UInt8 × UInt8) : Array Value := #[.int .u8 (x.1.toNat : Int), .int .u8 (x.2.toNat : Int)]

theorem pairs_in (F : Fence) (n : Nat) (h : F.fn 60) (hro : F.round = none) (a b : ByteArray) (w : World) :
    CallsIn F n Tryz.prog 60 #[.string a, .string b] w fun e w' => e = .returned (.func (.func 91) #[] #[.pointer (some ⟨w.heap.size, 0, none⟩), .pointer (some ⟨w.heap.size + 1, 0, none⟩)]) ∧ w' = (w.alloc (.cells #[.string a] 9)).alloc (.cells #[.string b] 9) := by
  refine callsIn_of_wp Tryz.func60 rfl h ?_ hro
  simp only [Tryz.ntmps60, List.size_toArray, List.length_cons, List.length_nil, Nat.reduceAdd, Nat.reduceSub, Array.replicate_succ, Array.replicate_zero, List.push_toArray, List.append_toArray, List.nil_append, List.cons_append]
  gi_wp2
  go_ret
  exact ⟨rfl, rfl⟩

set_option maxRecDepth 100000 in
set_option maxHeartbeats 2000000 in
theorem pairs1_stops (n : Nat) (hn : 1 ≤ n) (p : Nat) (a b : ByteArray) (ha : a.size ≤ 9223372036854775807) (hb : b.size ≤ 9223372036854775807) (w : World) (hA : Boxed w p 9 (.string a)) (hB : Boxed w (p + 1) 9 (.string b)) :
    SeqStopsK Fence.wide n Tryz.prog 91 #[.pointer (some ⟨p, 0, none⟩), .pointer (some ⟨p + 1, 0, none⟩)] prs (Two p) (fun xs => xs = (lb a).zip (lb b)) (fun pre => pre <+: (lb a).zip (lb b)) ((lb a).zip (lb b)).length w := by
  intro l J Jx W hW hJ hJx hY h0
  have bA : Boxed W p 9 (.string a) := (hW.block p hA.lt).trans hA
  have bB : Boxed W (p + 1) 9 (.string b) := (hW.block (p + 1) hB.lt).trans hB
  clear hA hB hW
  have cA := bA.cell
  have cB := bB.cell
  have hza := list_size a
  have hzb := list_size b
  have hl : ((lb a).zip (lb b)).length = min a.size b.size := by simp [hza, hzb]
  obtain ⟨M, hM⟩ : ∃ M, M = min a.size b.size := ⟨_, rfl⟩
  have hm : (if b.size < a.size then (b.size : Int) else (a.size : Int)) = (M : Int) := by split <;> omega
  have hMa : M ≤ a.size := by omega
  have hMb : M ≤ b.size := by omega
  rw [← hM] at hl
  have HG : Hid (∀ (k : Nat) (h1 : k < a.size) (h2 : k < b.size), ((lb a).zip (lb b))[k]? = some (a[k], b[k])) := Lib.hid (fun k h1 h2 => by
    rw [List.getElem?_eq_getElem (by omega), List.getElem_zip, list_at a k h1 (by omega), list_at b k h2 (by omega)])
  have HL := Lib.hid hl
  generalize hX : (lb a).zip (lb b) = X at *
  clear hX hza hzb hl hM
  refine callsIn_of_wp Tryz.func91 rfl trivial ?_ rfl
  simp only [Tryz.ntmps91, List.size_toArray, List.length_cons, List.length_nil, Nat.reduceAdd, Nat.reduceSub, Array.replicate_succ, Array.replicate_zero, List.push_toArray, List.append_toArray, List.nil_append, List.cons_append]
  gi_wp2
  gi_loopw [10] (fun i wr => ∃ k : Nat, k ≤ M ∧ i = .int .i64 (k : Int) ∧ J (X.take k) wr ∧ Boxed wr p 9 (.string a) ∧ Boxed wr (p + 1) 9 (.string b)) (fun i _ => M - (intOf i).toNat)
  case atStart => exact ⟨0, Nat.zero_le _, rfl, by simpa using h0, bA, bB⟩
  case round =>
    obtain ⟨k, hk, rfl, hJs, b1, b2⟩ := hrel
    have c1 := b1.cell
    have c2 := b2.cell
    by_cases hlt : k < M
    · have hka : k < a.size := by omega
      have hkb : k < b.size := by omega
      obtain ⟨fn, tmps, assign, body, hy, hR⟩ := hY (X.take k) (a[k], b[k]) wr.drew (hJ _ _ _ none hJs ⟨rfl, rfl, rfl, Nat.le_refl _, fun _ _ _ => rfl⟩ (fun _ e => by cases e)) (by rw [List.length_take, HL.out]; omega)
      dsimp only [prs] at hy
      have hnext : X.take k ++ [(a[k], b[k])] = X.take (k + 1) := by rw [List.take_add_one, HG.out k hka hkb]; rfl
      rw [hnext] at hR
      have HR := Lib.hid (hR.mono (R' := fun e W' => ∃ o : Bool, e = .returned (.bool o) ∧ Hid ((o = true ∧ J (X.take (k + 1)) W' ∧ Two p wr.drew W') ∨ (o = false ∧ Jx (X.take (k + 1)) W'))) (by
        rintro e W' (⟨rfl, h1, h2⟩ | ⟨rfl, h1⟩)
        · exact ⟨true, rfl, Lib.hid (.inl ⟨rfl, h1, h2⟩)⟩
        · exact ⟨false, rfl, Lib.hid (.inr ⟨rfl, h1⟩)⟩))
      clear hR hnext hY cA cB
      have hmix : Tryz.prog.follows .mixedOrders = true := by kernel_rfl
      gi_wp2
      gi_region_with_o (refine HR.out.mono ?_; rintro e W3 ⟨o, rfl, h3⟩)
      all_goals
        rcases h3.out with ⟨rfl, hJ3, hk3⟩ | ⟨rfl, hJ3⟩
        · gi_wp2
          go_roundw
          case rel => exact ⟨k + 1, by omega, by go_num, hJ3, hk3.box (show Boxed wr.drew p 9 (.string a) from b1), hk3.box' (show Boxed wr.drew (p + 1) 9 (.string b) from b2)⟩
          case measure => simp [intOf]; omega
        · gi_wp2
          refine bodyPost_ret (results_none rfl _ _ _) rfl ?_
          exact ⟨⟨_, rfl⟩, .inr ⟨_, List.take_prefix _ _, hJ3⟩⟩
    · obtain rfl : k = M := by omega
      gi_wp2
      go_end0
      exact ⟨⟨_, rfl⟩, .inl ⟨X, rfl, by have := hJs; rwa [List.take_of_length_le (by rw [HL.out]; exact Nat.le_refl _)] at this⟩⟩
end Go.Proofs.YtckaiejbgnhgcaaGreatDoor.Wd
namespace Go.Proofs.YtckaiejbgnhgcaaGreatDoor.Wd
open Go.RowKit

theorem U_zero : U 0 := ⟨by omega, by omega⟩

/-- A callee that leaves the world alone, inside a region that draws. -/
theorem still_call {P : Program} {f : FuncId} {args : Array Value} {w : World} {n : Nat} {v : Value} (h : Calls P f args (w.drewN n) fun e w' => e = .returned v ∧ w.drewN n = w') :
    Calls P f args (w.drewN n) fun e w' => e = .returned v ∧ ∃ m, w' = w.drewN m := h.mono fun _ _ k => ⟨k.1, n, k.2.symm⟩

theorem Kept.reads {w w' : World} (h : Kept w w') : (∀ b o, b < w.heap.size → w'.cell? ⟨b, o, none⟩ = w.cell? ⟨b, o, none⟩) ∧ (∀ b o, b < w.heap.size → w'.frozen? ⟨b, o, none⟩ = w.frozen? ⟨b, o, none⟩) :=
  ⟨fun b o hb => h.2.cell (p := ⟨b, o, none⟩) hb, fun b o hb => h.2.frozen (p := ⟨b, o, none⟩) hb⟩

theorem Kept.size {w w' : World} (h : Kept w w') : w.heap.size ≤ w'.heap.size := h.2.size
theorem Kept.setCell {w w' : World} (h : Kept w w') {a : Addr} (ha : w.heap.size ≤ a.block) (v : Value) : Kept w (w'.setCell a v) := ⟨h.1.setCell ha v, h.2.setCell ha v⟩

theorem Kept.cell {w w' : World} (h : Kept w w') {b o : Nat} {v : Value} (c : w.cell? ⟨b, o, none⟩ = some v) : w'.cell? ⟨b, o, none⟩ = some v := by
  have hb : b < w.heap.size := by
    by_cases hb : b < w.heap.size
    · exact hb
    · simp [World.cell?, hb] at c
  exact (h.2.cell (p := ⟨b, o, none⟩) hb).trans c

/-- A state, as a value. -/
abbrev sta (k a b : Int) : Value := .agg #[.int .u8 k, .int .u64 a, .int .u64 b]
end Go.Proofs.YtckaiejbgnhgcaaGreatDoor.Wd
namespace Go.Proofs.YtckaiejbgnhgcaaGreatDoor.Wd
open Go.RowKit
set_option linter.unusedVariables false

theorem Kept.allocMap {a b : World} (h : Kept a b) (es : Array MapEntry) (c : Nat) : Kept a (b.alloc (.map es c)) := ⟨h.1.allocMap es c, h.2.alloc h.2.size _⟩

/-- The three fields of a kernel. -/
abbrev kern (f g h : FuncId) : Value := .agg #[.func (Fn.func f) #[] #[], .func (Fn.func g) #[] #[], .func (Fn.func h) #[] #[]]
abbrev kern1 : Value := kern 130 131 132
abbrev kern2 : Value := kern 133 134 135
abbrev kern3 : Value := kern 136 137 138

theorem setBlock_new (w : World) (o o' : Obj) : ({ (w.alloc o) with heap := (w.alloc o).heap.setIfInBounds w.heap.size o' } : World) = w.alloc o' := by
  have e : (w.heap.push o).setIfInBounds w.heap.size o' = w.heap.push o' := by simp [Array.setIfInBounds, Array.set_push]
  show ({ w with heap := (w.heap.push o).setIfInBounds w.heap.size o' } : World) = { w with heap := w.heap.push o' }
  rw [e]

theorem run_put_new (w : World) (es : Array MapEntry) (c : Nat) (a : Int) (v : Value) (hn : Instr.findNow (.int .u8) (.int .u8 a) es.toList 0 = some none) :
    (Instr.mapUpdate 183 (.map (some w.heap.size)) (.int .u8 a) v).run Tryz.prog (w.alloc (.map es c)) = .ok () (w.alloc (.map (es.push ⟨.int .u8 a, v, c⟩) (c + 1))) := by
  have hb : (w.alloc (.map es c)).heap[w.heap.size]? = some (.map es c) := (MapKept.heap_alloc w _).1
  simp [Instr.mapUpdate, run_underlying Tryz.underlying183, MapKept.run_getObj_map hb, MapKept.run_checkKey Tryz.underlying5 (d := .int .u8) (k := .int .u8 a) rfl, MapKept.run_findKey Tryz.underlying5 hn, MapKept.run_setObj_map _ hb, Result.andThen]
  exact setBlock_new w _ _

def kerMap : Obj := .map #[⟨.int .u8 1, kern1, 0⟩, ⟨.int .u8 2, kern2, 1⟩, ⟨.int .u8 3, kern3, 2⟩] 3

theorem kernels_any (w : World) :
    Calls Tryz.prog 122 #[] w fun e w' => e = .returned (.map (some w.heap.size)) ∧ w' = w.alloc kerMap := by
  have hmm := @run_makeMap Tryz.prog
  have h1 := run_put_new w #[] 0 1 kern1 rfl
  have h2 := run_put_new w #[⟨.int .u8 1, kern1, 0⟩] 1 2 kern2 rfl
  have h3 := run_put_new w #[⟨.int .u8 1, kern1, 0⟩, ⟨.int .u8 2, kern2, 1⟩] 2 3 kern3 rfl
  simp only [List.push_toArray, List.cons_append, List.nil_append] at h1 h2 h3
  go_enter Tryz.func122, Tryz.ntmps122
  go_wp2
  go_ret
  exact ⟨rfl, rfl⟩


theorem run_look (w : World) (b : Nat) (k : Int) (v : Value) (is : Bool) (hb : w.heap[b]? = some kerMap) (h : (k = 1 ∧ v = kern1 ∧ is = true) ∨ (k = 2 ∧ v = kern2 ∧ is = true) ∨ (k = 3 ∧ v = kern3 ∧ is = true) ∨ (¬ (1 ≤ k ∧ k ≤ 3) ∧ v = .agg #[.nilFunc, .nilFunc, .nilFunc] ∧ is = false)) :
    (Instr.lookup 183 (.map (some b)) (.int .u8 k) true).run Tryz.prog w = .ok (.tuple #[v, .bool is]) w := by
  unfold kerMap at hb
  rcases h with ⟨rfl, rfl, rfl⟩ | ⟨rfl, rfl, rfl⟩ | ⟨rfl, rfl, rfl⟩ | ⟨hk, rfl, rfl⟩
  · have hn : Instr.findNow (.int .u8) (.int .u8 1) [⟨.int .u8 1, kern1, 0⟩, ⟨.int .u8 2, kern2, 1⟩, ⟨.int .u8 3, kern3, 2⟩] 0 = some (some (0, kern1)) := rfl
    simp [Instr.lookup, run_underlying Tryz.underlying183, MapKept.run_getObj_map hb, MapKept.run_checkKey Tryz.underlying5 (d := .int .u8) (k := .int .u8 1) rfl, MapKept.run_findKey Tryz.underlying5 hn, Result.andThen]
  · have hn : Instr.findNow (.int .u8) (.int .u8 2) [⟨.int .u8 1, kern1, 0⟩, ⟨.int .u8 2, kern2, 1⟩, ⟨.int .u8 3, kern3, 2⟩] 0 = some (some (1, kern2)) := rfl
    simp [Instr.lookup, run_underlying Tryz.underlying183, MapKept.run_getObj_map hb, MapKept.run_checkKey Tryz.underlying5 (d := .int .u8) (k := .int .u8 2) rfl, MapKept.run_findKey Tryz.underlying5 hn, Result.andThen]
  · have hn : Instr.findNow (.int .u8) (.int .u8 3) [⟨.int .u8 1, kern1, 0⟩, ⟨.int .u8 2, kern2, 1⟩, ⟨.int .u8 3, kern3, 2⟩] 0 = some (some (2, kern3)) := rfl
    simp [Instr.lookup, run_underlying Tryz.underlying183, MapKept.run_getObj_map hb, MapKept.run_checkKey Tryz.underlying5 (d := .int .u8) (k := .int .u8 3) rfl, MapKept.run_findKey Tryz.underlying5 hn, Result.andThen]
  · have hn : Instr.findNow (.int .u8) (.int .u8 k) [⟨.int .u8 1, kern1, 0⟩, ⟨.int .u8 2, kern2, 1⟩, ⟨.int .u8 3, kern3, 2⟩] 0 = some none := by
      have h1 : (k == 1) = false := by simp; omega
      have h2 : (k == 2) = false := by simp; omega
      have h3 : (k == 3) = false := by simp; omega
      simp [Instr.findNow, Instr.sameNow, h1, h2, h3]
    simp [Instr.lookup, run_underlying Tryz.underlying183, MapKept.run_getObj_map hb, MapKept.run_checkKey Tryz.underlying5 (d := .int .u8) (k := .int .u8 k) rfl, MapKept.run_findKey Tryz.underlying5 hn, Result.andThen]
end Go.Proofs.YtckaiejbgnhgcaaGreatDoor.Wd
namespace Go.Proofs.YtckaiejbgnhgcaaGreatDoor.Wd
open Go.Lib

/-- A byte that is a digit. -/
def digB (b : UInt8) : Bool := decide (48 ≤ b.toNat) && decide (b.toNat ≤ 57)
/-- One digit or more, with no 0 ahead of others. -/
def plainB (l : List UInt8) : Bool := decide (l ≠ []) && !(decide (1 < l.length) && decide (l.head? = some 48)) && l.all digB
/-- The number that digits are. -/
def val (l : List UInt8) : Nat := l.foldl (fun n b => n * 10 + (b.toNat - 48)) 0

theorem val_nil : val [] = 0 := rfl
theorem val_snoc (l : List UInt8) (b : UInt8) : val (l ++ [b]) = val l * 10 + (b.toNat - 48) := by simp [val]
theorem foldl_ge (l : List UInt8) : ∀ n : Nat, n ≤ l.foldl (fun n b => n * 10 + (b.toNat - 48)) n := by
  induction l with
  | nil => intro n; exact Nat.le_refl n
  | cons b l ih => intro n; exact Nat.le_trans (by omega) (ih (n * 10 + (b.toNat - 48)))
theorem val_front (l m : List UInt8) : val l ≤ val (l ++ m) := by
  unfold val; rw [List.foldl_append]; exact foldl_ge m _

theorem digB_iff (b : UInt8) : digB b = true ↔ 48 ≤ b.toNat ∧ b.toNat ≤ 57 := by simp [digB]
theorem ch_toNat (d : Nat) (h : d < 10) : (UInt8.ofNat (48 + d)).toNat = 48 + d := by simp; omega
theorem ch_dig (d : Nat) (h : d < 10) : digB (UInt8.ofNat (48 + d)) = true := by rw [digB_iff, ch_toNat d h]; omega
theorem ch_back (b : UInt8) (h : digB b = true) : UInt8.ofNat (48 + (b.toNat - 48)) = b := by
  rw [digB_iff] at h
  rw [show 48 + (b.toNat - 48) = b.toNat by omega]; simp

theorem dec_small {n : Nat} (h : n < 10) : decDigits n = [UInt8.ofNat (48 + n)] := by rw [decDigits, dif_pos h]
theorem dec_big {n : Nat} (h : ¬ n < 10) : decDigits n = decDigits (n / 10) ++ [UInt8.ofNat (48 + n % 10)] := by rw [decDigits, dif_neg h]
theorem dec_ne (n : Nat) : decDigits n ≠ [] := by
  intro h
  have := congrArg List.length h
  rw [decDigits_length] at this
  have := nDigits_pos n
  simp at *; omega

theorem val_dec (n : Nat) : val (decDigits n) = n := by
  induction n using Nat.strongRecOn with
  | _ n ih =>
    by_cases h : n < 10
    · rw [dec_small h]
      show 0 * 10 + ((UInt8.ofNat (48 + n)).toNat - 48) = n
      rw [ch_toNat n h]; omega
    · rw [dec_big h, val_snoc, ih (n / 10) (by omega), ch_toNat _ (by omega)]; omega

theorem all_dec (n : Nat) : (decDigits n).all digB = true := by
  induction n using Nat.strongRecOn with
  | _ n ih =>
    by_cases h : n < 10
    · rw [dec_small h]; simp only [List.all_cons, List.all_nil, Bool.and_true]; exact ch_dig n h
    · rw [dec_big h, List.all_append, ih (n / 10) (by omega)]
      simp only [List.all_cons, List.all_nil, Bool.and_true, Bool.true_and]
      exact ch_dig _ (by omega)

theorem head_dec (n : Nat) (h0 : 1 ≤ n) : (decDigits n).head? ≠ some 48 := by
  induction n using Nat.strongRecOn with
  | _ n ih =>
    by_cases h : n < 10
    · rw [dec_small h]
      intro e
      have e' : UInt8.ofNat (48 + n) = 48 := by simpa using e
      have := congrArg UInt8.toNat e'
      rw [ch_toNat n h] at this
      have : (48 : UInt8).toNat = 48 := rfl
      omega
    · rw [dec_big h, List.head?_append]
      have h1 := ih (n / 10) (by omega) (by omega)
      cases hd : decDigits (n / 10) with
      | nil => exact absurd hd (dec_ne _)
      | cons b r => rw [hd] at h1; simpa using h1

theorem plainB_iff (l : List UInt8) : plainB l = true ↔ l ≠ [] ∧ ¬ (1 < l.length ∧ l.head? = some 48) ∧ l.all digB = true := by
  unfold plainB
  by_cases a : l = [] <;> by_cases b : 1 < l.length <;> by_cases c : l.head? = some 48 <;> simp [a, b, c]

theorem plain_dec (n : Nat) : plainB (decDigits n) = true := by
  rw [plainB_iff]
  refine ⟨dec_ne n, ?_, all_dec n⟩
  rintro ⟨h1, h2⟩
  by_cases h : 1 ≤ n
  · exact head_dec n h h2
  · have : n = 0 := by omega
    subst this
    rw [dec_small (by omega)] at h1
    simp at h1

/-- What is plain is what is printed of its number. -/
theorem dec_val_aux : ∀ (k : Nat) (l : List UInt8), l.length = k → plainB l = true → decDigits (val l) = l
  | 0, l, hk, h => by
    rw [plainB_iff] at h
    exact absurd (List.eq_nil_of_length_eq_zero hk) h.1
  | k + 1, l, hk, h => by
    rw [plainB_iff] at h
    obtain ⟨h1, h2, h3⟩ := h
    obtain ⟨m, b, rfl⟩ : ∃ m b, l = m ++ [b] := ⟨l.dropLast, l.getLast h1, (List.dropLast_concat_getLast h1).symm⟩
    have hb : digB b = true := by simp at h3; exact h3.2
    have hm : m.all digB = true := by simp at h3 ⊢; exact h3.1
    have hb' := (digB_iff b).1 hb
    rw [val_snoc]
    by_cases hn : m = []
    · subst hn
      rw [val_nil, dec_small (by omega)]
      show [UInt8.ofNat (48 + (0 * 10 + (b.toNat - 48)))] = [b]
      rw [Nat.zero_mul, Nat.zero_add, ch_back b hb]
    · have hl : m.length = k := by simpa using hk
      have hpos : 0 < m.length := List.length_pos_iff.2 hn
      have hp : plainB m = true := by
        rw [plainB_iff]
        refine ⟨hn, ?_, hm⟩
        rintro ⟨g1, g2⟩
        refine h2 ⟨by simp; omega, ?_⟩
        rw [List.head?_append, g2]; rfl
      have ih := dec_val_aux k m hl hp
      have hv : 1 ≤ val m := by
        by_cases hz : val m = 0
        · rw [hz, dec_small (by omega)] at ih
          exact absurd ⟨by simp; omega, by rw [← ih]; rfl⟩ h2
        · omega
      rw [dec_big (by omega), show (val m * 10 + (b.toNat - 48)) / 10 = val m by omega, show (val m * 10 + (b.toNat - 48)) % 10 = b.toNat - 48 by omega, ih, ch_back b hb]
theorem dec_val (l : List UInt8) (h : plainB l = true) : decDigits (val l) = l := dec_val_aux _ l rfl h

theorem dec_len20 (n : Nat) (h : n < 18446744073709551616) : (decDigits n).length ≤ 20 := by rw [decDigits_length]; exact nDigits_le20 n h
theorem dec_len1 (n : Nat) : 1 ≤ (decDigits n).length := by rw [decDigits_length]; exact nDigits_pos n
theorem plain_long (l : List UInt8) (h : plainB l = true) (hl : 20 < l.length) : 18446744073709551616 ≤ val l := by
  have e := dec_val l h
  by_cases hv : val l < 18446744073709551616
  · have := dec_len20 (val l) hv; rw [e] at this; omega
  · omega

/-! ### What Parse answers -/
def paN (l : List UInt8) : Int := if plainB l = true ∧ val l < 18446744073709551616 then (val l : Int) else 0
def paE (l : List UInt8) : Int := if plainB l = true then (if val l < 18446744073709551616 then 0 else 11) else 10
theorem paN_U (l : List UInt8) : 0 ≤ paN l ∧ paN l ≤ 18446744073709551615 := by unfold paN; split <;> omega
theorem pa_not {l : List UInt8} (h : plainB l = false) : paN l = 0 ∧ paE l = 10 := by simp [paN, paE, h]
theorem pa_big {l : List UInt8} (h : plainB l = true) (hv : 18446744073709551616 ≤ val l) : paN l = 0 ∧ paE l = 11 := by
  have : ¬ val l < 18446744073709551616 := by omega
  simp [paN, paE, h, this]
theorem pa_yes {l : List UInt8} (h : plainB l = true) (hv : val l < 18446744073709551616) : paN l = (val l : Int) ∧ paE l = 0 := by simp [paN, paE, h, hv]
theorem pa_dec (n : Nat) (h : n < 18446744073709551616) : paN (decDigits n) = n ∧ paE (decDigits n) = 0 := by
  have e := pa_yes (plain_dec n) (by rw [val_dec]; exact h)
  rw [val_dec] at e; exact e
/-- What is read is printed as it was. -/
theorem pa_back (l : List UInt8) (h : paE l = 0) : decDigits (paN l).toNat = l := by
  unfold paE at h
  split at h
  · rename_i hp
    split at h
    · rename_i hv
      rw [(pa_yes hp hv).1]
      exact dec_val l hp
    · omega
  · omega

/-! ### Order: more digits, or greater as texts -/
theorem nDigits_mono (a b : Nat) (h : a ≤ b) : nDigits a ≤ nDigits b := by
  induction b using Nat.strongRecOn generalizing a with
  | _ b ih =>
    by_cases hb : b < 10
    · rw [nDigits_small hb, nDigits_small (by omega)]; exact Nat.le_refl _
    · rw [nDigits_big hb]
      by_cases ha : a < 10
      · rw [nDigits_small ha]; omega
      · rw [nDigits_big ha]
        have := ih (b / 10) (by omega) (a / 10) (by omega)
        omega

theorem bytesLess_append_left (p x y : List UInt8) : Op.bytesLess (p ++ x) (p ++ y) = Op.bytesLess x y := by
  induction p with
  | nil => rfl
  | cons b p ih => simp [Op.bytesLess, ih]
theorem bytesLess_append_same : ∀ (x y p q : List UInt8), x.length = y.length → Op.bytesLess x y = true → Op.bytesLess (x ++ p) (y ++ q) = true
  | [], [], _, _, _, h => by simp [Op.bytesLess] at h
  | a :: x, b :: y, p, q, hl, h => by
    simp only [Op.bytesLess, Bool.or_eq_true, Bool.and_eq_true, List.cons_append] at h ⊢
    rcases h with h | ⟨h1, h2⟩
    · exact Or.inl h
    · exact Or.inr ⟨h1, bytesLess_append_same x y p q (by simpa using hl) h2⟩
  | [], _ :: _, _, _, hl, _ => by simp at hl
  | _ :: _, [], _, _, hl, _ => by simp at hl

theorem dec_less (a b : Nat) (h : a < b) (hl : nDigits a = nDigits b) : Op.bytesLess (decDigits a) (decDigits b) = true := by
  induction b using Nat.strongRecOn generalizing a with
  | _ b ih =>
    by_cases hb : b < 10
    · rw [dec_small hb, dec_small (show a < 10 by omega)]
      simp only [Op.bytesLess, Bool.or_eq_true, Bool.and_eq_true, decide_eq_true_eq]
      refine Or.inl ?_
      rw [UInt8.lt_iff_toNat_lt, ch_toNat a (by omega), ch_toNat b hb]
      omega
    · have ha : ¬ a < 10 := by
        intro ha
        rw [nDigits_small ha, nDigits_big hb] at hl
        have := nDigits_pos (b / 10); omega
      rw [nDigits_big ha, nDigits_big hb] at hl
      rw [dec_big ha, dec_big hb]
      by_cases he : a / 10 = b / 10
      · rw [he, bytesLess_append_left]
        simp only [Op.bytesLess, Bool.or_eq_true, Bool.and_eq_true, decide_eq_true_eq]
        refine Or.inl ?_
        rw [UInt8.lt_iff_toNat_lt, ch_toNat _ (by omega), ch_toNat _ (by omega)]
        omega
      · exact bytesLess_append_same _ _ _ _ (by rw [decDigits_length, decDigits_length]; omega) (ih (b / 10) (by omega) (a / 10) (by omega) (by omega))
end Go.Proofs.YtckaiejbgnhgcaaGreatDoor.Wd
namespace Go.Proofs.YtckaiejbgnhgcaaGreatDoor.Wd
open Go.RowKit Go.Lib

/-- A loop of goto, its body walked once: whoever comes to the label comes as one who jumps there. -/
theorem wp_scope_once {P : Program} {a : Act} {w : World} {Q : Exit → Act → World → Prop} {c rest : Code} (l : Nat) (J : Act → World → Prop) (μ : Act → World → Nat) (hf : findLabel c l = some (Code.skip.seq rest))
    (pass : ∀ a w, J a w → rest.wp P (Exit.jump l (fun a' w' => J a' w' ∧ μ a' w' < μ a w) Q) a w)
    (first : (∀ a w, J a w → rest.wp P (Exit.jump l J Q) a w) → c.wp P (Exit.jump l J Q) a w) : (Code.scope c).wp P Q a w := by
  refine wp_scope_jumps l J μ hf (first fun a w h => Code.wp_mono ?_ (pass a w h)) (fun a w h => wp_seq (wp_skip (pass a w h)))
  intro e a' w' h'
  cases e <;> first | exact h' | exact ⟨h'.1, h'.2.1⟩

/-- The digits that there are, at the end of twenty bytes. -/
def rowOf (l : List UInt8) : Array Value := (List.replicate (20 - l.length) (Value.int .u8 0) ++ l.map fun b => Value.int .u8 (b.toNat : Int)).toArray
theorem rowOf_nil : rowOf [] = #[.int .u8 0, .int .u8 0, .int .u8 0, .int .u8 0, .int .u8 0, .int .u8 0, .int .u8 0, .int .u8 0, .int .u8 0, .int .u8 0, .int .u8 0, .int .u8 0, .int .u8 0, .int .u8 0, .int .u8 0, .int .u8 0, .int .u8 0, .int .u8 0, .int .u8 0, .int .u8 0] := by
  simp [rowOf, List.replicate]
theorem rowOf_size (l : List UInt8) (h : l.length ≤ 20) : (rowOf l).size = 20 := by simp [rowOf]; omega
theorem rowOf_at (l : List UInt8) (j : Nat) (_h : l.length ≤ 20) (hj : j < l.length) : (rowOf l)[20 - l.length + j]? = some (.int .u8 (l[j].toNat : Int)) := by
  unfold rowOf
  rw [List.getElem?_toArray, List.getElem?_append_right (by simp)]
  simp [hj]
theorem rowOf_set (l : List UInt8) (b : UInt8) (i : Nat) (h : l.length < 20) (hi : i = 19 - l.length) : (rowOf l).setIfInBounds i (.int .u8 (b.toNat : Int)) = rowOf (b :: l) := by
  subst hi
  obtain ⟨k, hk⟩ : ∃ k, 20 - l.length = k + 1 := ⟨19 - l.length, by omega⟩
  have hk2 : 19 - l.length = k := by omega
  have hk3 : 20 - (b :: l).length = k := by simp; omega
  unfold rowOf
  rw [hk, hk2, hk3, List.setIfInBounds_toArray, List.set_append_left _ _ (by simp)]
  congr 1
  rw [List.replicate_succ', List.set_append_right _ _ (by simp)]
  simp

theorem setRow_alloc_past (w : World) (o : Obj) (n : Nat) (c : Array Value) (h : n < w.heap.size) : (w.alloc o).setRow n c = (w.setRow n c).alloc o := by
  simp only [World.setRow, World.alloc]
  congr 1
  apply Array.ext_getElem?
  intro i
  rw [Array.getElem?_modify, Array.getElem?_push, Array.getElem?_push, Array.getElem?_modify]
  by_cases e : n = i
  · subst e
    have e' : ¬ n = w.heap.size := by omega
    simp [e']
  · simp [e]
theorem rowOf_info (l : List UInt8) (h : l.length ≤ 20) : (Tryz.prog.info? 93).map (·.size) = some (rowOf l).size := by
  rw [rowOf_size l h]; kernel_rfl
theorem rowOf_one (l : List UInt8) : (rowOf l).all (·.oneCell') = true := by
  rw [Array.all_eq_true_iff_forall_mem]
  intro v hv
  simp only [rowOf, List.mem_toArray, List.mem_append, List.mem_replicate, List.mem_map] at hv
  rcases hv with ⟨_, rfl⟩ | ⟨b, _, rfl⟩ <;> rfl

theorem lay_any (n : Nat) (w : World) (hn : n < 18446744073709551616) :
    Calls Tryz.prog 50 #[.int .u64 n] w fun e w' => e = .returned (.tuple #[.agg (rowOf (decDigits n)), .int .i64 ((20 - (decDigits n).length : Nat) : Int)]) ∧ Kept w w' := by
  have hL := dec_len20 n hn
  go_enter Tryz.func50, Tryz.ntmps50
  go_wp2
  refine wp_scope_once 0 (fun a' w' => ∃ (m : Nat) (suf : List UInt8) (u0 u1 u2 u3 u4 u5 u6 u7 u8 u9 u10 u11 u12 u13 : Value), w' = (w.alloc (.cells (rowOf []) 93)).alloc (.cells (rowOf suf) 93) ∧ decDigits n = decDigits m ++ suf ∧ m ≤ 18446744073709551615 ∧
    a' = { tmps := #[.int .u64 m, undef, .pointer (some { block := w.heap.size, off := 0 }), .int .i64 0, .pointer (some { block := w.heap.size + 1, off := 0 }), .int .i64 ((20 - suf.length : Nat) : Int), u0, u1, u2, u3, u4, u5, u6, u7, u8, u9, u10, u11, u12, u13], defers := [] })
    (fun a' _ => (intOf (a'.tmps.getD 0 undef)).toNat) rfl ?_ ?_
  · rintro a' w' ⟨m, suf, u0, u1, u2, u3, u4, u5, u6, u7, u8, u9, u10, u11, u12, u13, rfl, hd, hm, rfl⟩
    have hl : suf.length < 20 := by
      have := congrArg List.length hd
      have := dec_len1 m
      simp at *; omega
    obtain ⟨k, hk⟩ : ∃ k, 20 - suf.length = k + 1 := ⟨19 - suf.length, by omega⟩
    obtain ⟨B, hB⟩ : ∃ B, B = UInt8.ofNat (48 + m % 10) := ⟨_, rfl⟩
    have hch : (B.toNat : Int) = 48 + (m : Int) % 10 := by rw [hB, ch_toNat (m % 10) (by omega)]; omega
    have hset := rowOf_set suf B k hl (by omega)
    rw [hch] at hset
    have hl2 : (B :: suf).length ≤ 20 := by simp; omega
    have hk2 : 20 - (B :: suf).length = k := by simp; omega
    have hget : (rowOf suf)[k]? = some (.int .u8 0) := by
      unfold rowOf
      rw [List.getElem?_toArray, List.getElem?_append_left (by simp; omega), List.getElem?_replicate, if_pos (by omega)]
    have hk20 : k < 20 := by omega
    rw [hk]
    have hbig := @dec_big m
    have hsm := @dec_small m
    generalize hS : B :: suf = S at *
    have D := Lib.hid hd
    have DB := Lib.hid hB
    have DS := Lib.hid hS
    have DK := Lib.hid hk2
    have DG := Lib.hid hbig
    have DM := Lib.hid hsm
    clear hd hB hch hS hk hl hk2 hbig hsm
    by_cases hm10 : m < 10
    · have hz : (m : Int) / 10 = 0 := by omega
      go_wp2_with (first
        | (refine wpList_load_row rfl 93 _ rfl (w.heap.size + 1) rfl 93 (rowOf S) (0, 0) _ (heap_alloc2_new _ _ _) Tryz.underlying93 rfl (rowOf_info _ hl2) ?_)
        | (refine wpList_store_row rfl 93 _ _ rfl w.heap.size (rowOf S) rfl rfl 93 (rowOf []) (heap_alloc2_old _ _ _) (rowOf_info _ hl2) (by rw [rowOf_size _ hl2]; rfl) (rowOf_one _) ?_))
      simp only [Exit.jump]
      rw [setRow_alloc_past _ _ _ _ (by simp), World.setRow_alloc_new]
      refine bodyPost_ret (v := .tuple #[.agg (rowOf S), .int .i64 k]) ?_ rfl ⟨?_, ?_⟩
      · rw [results_cell_tmp Tryz.results50]
        have e := run_loadVar_row (P := Tryz.prog) ((w.alloc (.cells (rowOf S) 93)).alloc (.cells (rowOf S) 93)) w.heap.size 93 93 (rowOf S) (0, 0) _ (heap_alloc2_old _ _ _) Tryz.underlying93 rfl (rowOf_info _ hl2)
        show (Result.andThen (.ok (⟨w.heap.size, 0, none⟩ : Addr) _) _) = _
        simp only [Result.andThen_ok]
        rw [e]
        rfl
      · have e : decDigits n = S := by rw [D.out, DM.out hm10, ← DS.out, DB.out, Nat.mod_eq_of_lt hm10]; rfl
        rw [e, DK.out]
      · exact (Kept.refl w).alloc _ _ |>.alloc _ _
    · go_wp2
      go_step3
      have e0 : (m : Int) / 10 = ((m / 10 : Nat) : Int) := by omega
      rw [e0]
      refine ⟨rfl, ⟨m / 10, S, _, _, _, _, _, _, _, _, _, _, _, _, _, _, rfl, ?_, by omega, by rw [DK.out]⟩, ?_⟩
      · rw [D.out, DG.out hm10, ← DS.out, DB.out, List.append_assoc]; rfl
      · simp [intOf]; omega
  · intro H
    go_wp2
    rename_i hK
    go_step3
    rw [← rowOf_nil]
    exact hK _ _ (H _ _ ⟨n, [], _, _, _, _, _, _, _, _, _, _, _, _, _, _, rfl, by simp, by omega, rfl⟩)
end Go.Proofs.YtckaiejbgnhgcaaGreatDoor.Wd
