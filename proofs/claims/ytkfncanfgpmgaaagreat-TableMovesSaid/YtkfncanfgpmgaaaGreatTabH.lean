/- Plain facts on trees in rows (the one at place k stands under the one at place (k - 1) / 2): one that is put right by going up or down; no conditions but those that each names. -/
import Derived.Test.YtkfncanfgpmgaaaGreatTabA
namespace Go.Proofs.YtkfncanfgpmgaaaGreat.Wd
set_option linter.unusedVariables false

/-- Over which one it stands. -/
def par (i : Nat) : Nat := (i - 1) / 2
theorem par_lt {k : Nat} (h : 0 < k) : par k < k := by unfold par; omega
theorem par_le (k : Nat) : par k ≤ k := by unfold par; omega
theorem par_left (i : Nat) : par (2 * i + 1) = i := by unfold par; omega
theorem par_right (i : Nat) : par (2 * i + 2) = i := by unfold par; omega
theorem par_kids {k i : Nat} (h : 0 < k) (e : par k = i) : k = 2 * i + 1 ∨ k = 2 * i + 2 := by unfold par at e; omega

/-- All under lo stand as R asks. -/
def Ord (R : Nat → Nat → Prop) (lo n : Nat) (g : Nat → Nat) : Prop := ∀ k, 0 < k → k < n → lo ≤ par k → R (g (par k)) (g k)
/-- .. but for the one at i, and who stand under it. -/
structure Off (R : Nat → Nat → Prop) (lo n i : Nat) (g : Nat → Nat) : Prop where
  far : ∀ k, 0 < k → k < n → lo ≤ par k → k ≠ i → par k ≠ i → R (g (par k)) (g k)
  over : 0 < i → lo ≤ par i → ∀ k, 0 < k → k < n → par k = i → R (g (par i)) (g k)
/-- .. but for the one at i, over which it stands. -/
structure Upw (R : Nat → Nat → Prop) (n i : Nat) (g : Nat → Nat) : Prop where
  far : ∀ k, 0 < k → k < n → k ≠ i → R (g (par k)) (g k)
  over : 0 < i → ∀ k, 0 < k → k < n → par k = i → R (g (par i)) (g k)

theorem Ord.more {R : Nat → Nat → Prop} {n : Nat} {g : Nat → Nat} (h : Ord R 0 n g) : Upw R (n + 1) n g :=
  ⟨fun k h0 hk hn => h k h0 (by omega) (Nat.zero_le _), fun h0 k k0 hk e => by have := par_lt k0; omega⟩
theorem Upw.stop {R : Nat → Nat → Prop} {n i : Nat} {g : Nat → Nat} (h : Upw R n i g) (hi : 0 < i → R (g (par i)) (g i)) : Ord R 0 n g := fun k h0 hk _ => by
  by_cases e : k = i
  · rw [e]; exact hi (by omega)
  · exact h.far k h0 hk e
theorem xch_at (g : Nat → Nat) (i j k : Nat) : xch g i j k = if k = i then g j else if k = j then g i else g k := rfl
theorem xch_l (g : Nat → Nat) (i j : Nat) : xch g i j i = g j := by rw [xch_at, if_pos rfl]
theorem xch_r (g : Nat → Nat) (i j : Nat) : xch g i j j = g i := by
  rw [xch_at]
  by_cases h : j = i
  · rw [if_pos h, h]
  · rw [if_neg h, if_pos rfl]
theorem xch_o (g : Nat → Nat) {i j k : Nat} (h : k ≠ i) (h' : k ≠ j) : xch g i j k = g k := by rw [xch_at, if_neg h, if_neg h']
theorem xch_swap (g : Nat → Nat) (i j : Nat) : xch g i j = xch g j i := by
  funext k
  rw [xch_at, xch_at]
  by_cases h : k = i
  · rw [if_pos h]
    by_cases h2 : k = j
    · rw [if_pos h2, ← h, ← h2]
    · rw [if_neg h2, if_pos h]
  · rw [if_neg h]
    by_cases h2 : k = j
    · rw [if_pos h2, if_pos h2]
    · rw [if_neg h2, if_neg h2, if_neg h]
theorem Upw.step {R : Nat → Nat → Prop} (tr : ∀ x y z, R x y → R y z → R x z) {n j : Nat} {g : Nat → Nat} (h : Upw R n j g) (h0 : 0 < j) (hj : j < n) (hR : R (g j) (g (par j))) : Upw R n (par j) (xch g (par j) j) := by
  have hp := par_lt h0
  constructor
  · intro k k0 hk hne
    by_cases e : k = j
    · subst e; rw [xch_l, xch_r]; exact hR
    · by_cases e2 : par k = j
      · have := par_lt k0
        rw [e2, xch_r, xch_o g hne e]
        exact h.over h0 k k0 hk e2
      · by_cases e3 : par k = par j
        · rw [e3, xch_l, xch_o g hne e]
          exact tr _ _ _ hR (e3 ▸ h.far k k0 hk e)
        · rw [xch_o g e3 e2, xch_o g hne e]
          exact h.far k k0 hk e
  · intro p0 k k0 hk e
    have hpp := par_lt p0
    have f1 := h.far (par j) p0 (by omega) (by omega)
    rw [xch_o g (by omega) (by omega)]
    by_cases e2 : k = j
    · subst e2; rw [xch_r]; exact f1
    · have := par_lt k0
      rw [xch_o g (by omega) e2]
      exact tr _ _ _ f1 (e ▸ h.far k k0 hk e2)

/-- Down: those under i stand right. -/
theorem Off.stop {R : Nat → Nat → Prop} {lo n i : Nat} {g : Nat → Nat} (h : Off R lo n i g) (hk : ∀ k, 0 < k → k < n → par k = i → R (g i) (g k)) (hi : 0 < i → lo ≤ par i → i < n → R (g (par i)) (g i)) : Ord R lo n g := fun k h0 k1 hl => by
  by_cases e : k = i
  · subst e; exact hi h0 hl k1
  · by_cases e2 : par k = i
    · rw [e2]; exact hk k h0 k1 e2
    · exact h.far k h0 k1 hl e e2
theorem Off.upw {R : Nat → Nat → Prop} {n i : Nat} {g : Nat → Nat} (h : Off R 0 n i g) (hk : ∀ k, 0 < k → k < n → par k = i → R (g i) (g k)) : Upw R n i g :=
  ⟨fun k h0 k1 hne => by
    by_cases e2 : par k = i
    · rw [e2]; exact hk k h0 k1 e2
    · exact h.far k h0 k1 (Nat.zero_le _) hne e2, fun h0 k k0 k1 e => h.over h0 (Nat.zero_le _) k k0 k1 e⟩
theorem Off.step {R : Nat → Nat → Prop} {lo n i j : Nat} {g : Nat → Nat} (h : Off R lo n i g) (hlo : lo ≤ i) (j0 : 0 < j) (hj : j < n) (e : par j = i) (hR : ∀ k, 0 < k → k < n → par k = i → k ≠ j → R (g j) (g k)) : Off R lo n j (xch g i j) := by
  have hij := par_lt j0
  rw [e] at hij
  constructor
  · intro k k0 hk hl hne hpn
    by_cases e2 : k = i
    · subst e2
      have := par_lt k0
      rw [xch_l, xch_o g (by omega) (by omega)]
      exact h.over k0 hl j j0 hj e
    · by_cases e3 : par k = i
      · rw [e3, xch_l, xch_o g e2 hne]
        exact hR k k0 hk e3 hne
      · rw [xch_o g e3 hpn, xch_o g e2 hne]
        exact h.far k k0 hk hl e2 e3
  · intro _ _ k k0 hk e2
    have := par_lt k0
    rw [e, xch_l, xch_o g (by omega) (by omega)]
    have := h.far k k0 hk (by omega) (by omega) (by omega)
    rw [e2] at this; exact this
/-- The last one in the place of one that goes. -/
theorem Ord.less {R : Nat → Nat → Prop} {n : Nat} {g : Nat → Nat} (h : Ord R 0 (n + 1) g) : Ord R 0 n g := fun k h0 hk hl => h k h0 (by omega) hl
theorem Ord.gone {R : Nat → Nat → Prop} (tr : ∀ x y z, R x y → R y z → R x z) {n i : Nat} {g : Nat → Nat} (h : Ord R 0 (n + 1) g) (hi : i < n) : Off R 0 n i (xch g i n) := by
  constructor
  · intro k k0 hk _ hne hpn
    have := par_lt k0
    rw [xch_o g hpn (by omega), xch_o g hne (by omega)]
    exact h k k0 (by omega) (Nat.zero_le _)
  · intro i0 _ k k0 hk e
    have := par_lt k0
    have := par_lt i0
    rw [xch_o g (by omega) (by omega), xch_o g (by omega) (by omega)]
    exact tr _ _ _ (h i i0 (by omega) (Nat.zero_le _)) (e ▸ h k k0 (by omega) (Nat.zero_le _))
/-- The first one stands over all. -/
theorem Ord.top {R : Nat → Nat → Prop} (tr : ∀ x y z, R x y → R y z → R x z) (rf : ∀ x, R x x) {n : Nat} {g : Nat → Nat} (h : Ord R 0 n g) : ∀ k, k < n → R (g 0) (g k) := by
  intro k
  induction k using Nat.strongRecOn with
  | _ k ih =>
    intro hk
    by_cases k0 : 0 < k
    · exact tr _ _ _ (ih (par k) (par_lt k0) (by have := par_lt k0; omega)) (h k k0 hk (Nat.zero_le _))
    · obtain rfl : k = 0 := by omega
      exact rf _
end Go.Proofs.YtkfncanfgpmgaaaGreat.Wd
