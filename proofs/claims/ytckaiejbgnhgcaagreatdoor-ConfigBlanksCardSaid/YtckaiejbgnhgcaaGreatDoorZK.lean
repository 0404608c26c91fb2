/- Plain facts on rows that are put in order by exchanges alone: whatever is asked of two places that are far from each other is asked of the elder one behind; no conditions but those that each names. Rules in a block that are put in order: what is exchanged, and the functions of package sort that only exchange (swapRange_func, rotate_func); no conditions but those that each names. Rules in a block that are put in order: rotate_func, insertionSort_func of package sort; no conditions but those that each names. Rules in a block that are put in order: symMerge_func of package sort, where one of the two rows has one rule; no conditions but those that each names. Rules in a block that are put in order: symMerge_func and stable_func of package sort, for any number of rules; no conditions but those that each names. Rules in a block that are put in order: stable_func of package sort, for any number of rules; no conditions but those that each names. Rules by their prefixes: what is less, and sort.SliceStable over it; no conditions but those that each names. -/
import Derived.Test.YtckaiejbgnhgcaaGreatDoorZA
import Derived.Test.YtckaiejbgnhgcaaGreatDoorZC
import Derived.Lib.ReflectliteSwap
import Derived.LoopTactic
import Derived.Deep.CutRange
import Derived.Deep.DeepCutAuto
import Derived.Test.YtckaiejbgnhgcaaGreatDoorZB
import Derived.Deep.RegionHeld3
namespace Go.Proofs.YtckaiejbgnhgcaaGreatDoor.Wd
set_option linter.unusedVariables false

/-! ### Exchanges -/
/-- Two places exchanged. -/
def xch (f : Nat → Nat) (i j : Nat) : Nat → Nat := fun k => if k = i then f j else if k = j then f i else f k
/-- What comes of f by exchanges between a and b. -/
inductive Mv (a b : Nat) (f : Nat → Nat) : (Nat → Nat) → Prop
  | refl : Mv a b f f
  | xch {g : Nat → Nat} (i j : Nat) (h : Mv a b f g) (hi : a ≤ i) (hib : i < b) (hj : a ≤ j) (hjb : j < b) : Mv a b f (xch g i j)
theorem Mv.trans {a b : Nat} {f g h : Nat → Nat} (x : Mv a b f g) (y : Mv a b g h) : Mv a b f h := by
  induction y with
  | refl => exact x
  | xch i j _ hi hib hj hjb ih => exact .xch i j ih hi hib hj hjb
theorem Mv.mono {a b a' b' : Nat} {f g : Nat → Nat} (x : Mv a b f g) (ha : a' ≤ a) (hb : b ≤ b') : Mv a' b' f g := by
  induction x with
  | refl => exact .refl
  | xch i j _ hi hib hj hjb ih => exact .xch i j ih (by omega) (by omega) (by omega) (by omega)
theorem Mv.out {a b : Nat} {f g : Nat → Nat} (x : Mv a b f g) (k : Nat) (hk : k < a ∨ b ≤ k) : g k = f k := by
  induction x with
  | refl => rfl
  | xch i j _ hi hib hj hjb ih => simp only [Wd.xch]; rw [if_neg (by omega), if_neg (by omega)]; exact ih
theorem Mv.back {a b : Nat} {f g : Nat → Nat} (x : Mv a b f g) : ∀ k, a ≤ k → k < b → ∃ j, a ≤ j ∧ j < b ∧ g k = f j := by
  induction x with
  | refl => exact fun k h1 h2 => ⟨k, h1, h2, rfl⟩
  | xch i j _ hi hib hj hjb ih =>
    intro k h1 h2
    simp only [Wd.xch]
    by_cases c : k = i
    · rw [if_pos c]; exact ih j hj hjb
    · rw [if_neg c]
      by_cases d : k = j
      · rw [if_pos d]; exact ih i hi hib
      · rw [if_neg d]; exact ih k h1 h2
def Inj (f : Nat → Nat) : Prop := ∀ i j, f i = f j → i = j
theorem Mv.inj {a b : Nat} {f g : Nat → Nat} (x : Mv a b f g) (hf : Inj f) : Inj g := by
  induction x with
  | refl => exact hf
  | @xch g' i j _ hi hib hj hjb ih =>
    intro p q e
    have tau : ∀ k, Wd.xch g' i j k = g' (if k = i then j else if k = j then i else k) := by
      intro k; unfold Wd.xch
      by_cases c : k = i
      · rw [if_pos c, if_pos c]
      · rw [if_neg c, if_neg c]
        by_cases d : k = j
        · rw [if_pos d, if_pos d]
        · rw [if_neg d, if_neg d]
    rw [tau, tau] at e
    have h := ih _ _ e
    by_cases c : p = i
    · rw [if_pos c] at h
      by_cases d : q = i
      · omega
      · rw [if_neg d] at h
        by_cases d2 : q = j
        · rw [if_pos d2] at h; omega
        · rw [if_neg d2] at h; omega
    · rw [if_neg c] at h
      by_cases c2 : p = j
      · rw [if_pos c2] at h
        by_cases d : q = i
        · rw [if_pos d] at h; omega
        · rw [if_neg d] at h
          by_cases d2 : q = j
          · omega
          · rw [if_neg d2] at h; omega
      · rw [if_neg c2] at h
        by_cases d : q = i
        · rw [if_pos d] at h; omega
        · rw [if_neg d] at h
          by_cases d2 : q = j
          · rw [if_pos d2] at h; omega
          · rw [if_neg d2] at h; exact h
theorem Mv.bound {a b n : Nat} {f g : Nat → Nat} (x : Mv a b f g) (hb : b ≤ n) (hf : ∀ i, i < n → f i < n) : ∀ i, i < n → g i < n := by
  induction x with
  | refl => exact hf
  | xch i j _ hi hib hj hjb ih =>
    intro k hk
    simp only [Wd.xch]
    split
    · exact ih _ (by omega)
    · split
      · exact ih _ (by omega)
      · exact ih _ hk

/-! ### An order, by what is less and by what was ahead -/
structure Swo (lt : Nat → Nat → Bool) : Prop where
  irr : ∀ x, lt x x = false
  tr : ∀ x y z, lt x y = true → lt y z = true → lt x z = true
  inc : ∀ x y z, lt x y = false → lt y z = false → lt x z = false
/-- x comes ahead of y. -/
def Ah (lt : Nat → Nat → Bool) (x y : Nat) : Prop := lt x y = true ∨ (lt y x = false ∧ x < y)
theorem Swo.asy {lt : Nat → Nat → Bool} (O : Swo lt) {x y : Nat} (h : lt x y = true) : lt y x = false := by
  cases e : lt y x with
  | false => rfl
  | true => have := O.tr _ _ _ h e; rw [O.irr] at this; cases this
theorem Ah.trans {lt : Nat → Nat → Bool} (O : Swo lt) {x y z : Nat} (h : Ah lt x y) (k : Ah lt y z) : Ah lt x z := by
  rcases h with h | ⟨h, h2⟩ <;> rcases k with k | ⟨k, k2⟩
  · exact .inl (O.tr _ _ _ h k)
  · cases e : lt x z with
    | true => exact .inl e
    | false =>
      cases e2 : lt z x with
      | true => have := O.tr _ _ _ e2 h; rw [k] at this; cases this
      | false => have := O.inc _ _ _ e k; rw [this] at h; cases h
  · cases e : lt x z with
    | true => exact .inl e
    | false =>
      cases e2 : lt z x with
      | true => have := O.tr _ _ _ k e2; rw [h] at this; cases this
      | false => have := O.inc _ _ _ h e; rw [this] at k; cases k
  · exact .inr ⟨O.inc _ _ _ k h, by omega⟩
theorem Ah.asy {lt : Nat → Nat → Bool} (O : Swo lt) {x y : Nat} (h : Ah lt x y) (k : Ah lt y x) : False := by
  rcases h with h | ⟨h, h2⟩ <;> rcases k with k | ⟨k, k2⟩
  · rw [O.asy h] at k; cases k
  · rw [k] at h; cases h
  · rw [h] at k; cases k
  · omega
/-- Of a younger one y and an elder one x: what is less says which comes ahead. -/
theorem ah_yes {lt : Nat → Nat → Bool} {x y : Nat} (h : lt y x = true) : Ah lt y x := .inl h
theorem ah_no {lt : Nat → Nat → Bool} {x y : Nat} (h : lt y x = false) (hxy : x < y) : Ah lt x y := .inr ⟨h, hxy⟩

/-- In order from a to b. -/
def Srt (lt : Nat → Nat → Bool) (a b : Nat) (f : Nat → Nat) : Prop := ∀ i j, a ≤ i → i < j → j < b → Ah lt (f i) (f j)
theorem Srt.mono {lt : Nat → Nat → Bool} {a b a' b' : Nat} {f : Nat → Nat} (h : Srt lt a b f) (ha : a ≤ a') (hb : b' ≤ b) : Srt lt a' b' f := fun i j h1 h2 h3 => h i j (by omega) h2 (by omega)
theorem Srt.same {lt : Nat → Nat → Bool} {a b : Nat} {f g : Nat → Nat} (h : Srt lt a b f) (e : ∀ k, a ≤ k → k < b → g k = f k) : Srt lt a b g := fun i j h1 h2 h3 => by
  rw [e i h1 (by omega), e j (by omega) h3]; exact h i j h1 h2 h3

/-! ### One that is put among others (an insertion) -/
/-- The one from place i, put at place j ≤ i. -/
def ins (g : Nat → Nat) (i j : Nat) : Nat → Nat := fun k => if k < j then g k else if k = j then g i else if k ≤ i then g (k - 1) else g k
theorem ins_start (g : Nat → Nat) (i : Nat) : ins g i i = g := by
  funext k; unfold ins
  by_cases h : k < i
  · rw [if_pos h]
  · rw [if_neg h]
    by_cases e : k = i
    · rw [if_pos e, e]
    · rw [if_neg e, if_neg (by omega)]
theorem ins_step (g : Nat → Nat) (i j : Nat) (h1 : 0 < j) (h2 : j ≤ i) : xch (ins g i j) j (j - 1) = ins g i (j - 1) := by
  funext k
  unfold xch ins
  by_cases a : k = j
  · rw [if_pos a, if_pos (by omega), if_neg (by omega), if_neg (by omega), if_pos (by omega), a]
  · rw [if_neg a]
    by_cases b : k = j - 1
    · rw [if_pos b, if_neg (by omega), if_pos rfl, if_neg (by omega), if_pos b]
    · rw [if_neg b]
      by_cases c : k < j - 1
      · rw [if_pos (by omega), if_pos c]
      · rw [if_neg (by omega), if_neg a, if_neg (by omega : ¬ k < j - 1), if_neg b]
theorem ins_srt {lt : Nat → Nat → Bool} (O : Swo lt) {g : Nat → Nat} {a i j : Nat} (hs : Srt lt a i g) (ha : a ≤ j) (hj : j ≤ i)
    (hlow : ∀ k, j ≤ k → k < i → lt (g i) (g k) = true) (hup : j ≤ a ∨ (lt (g i) (g (j - 1)) = false ∧ g (j - 1) < g i)) : Srt lt a (i + 1) (ins g i j) := by
  intro p q h1 h2 h3
  have low : ∀ k, j ≤ k → k < i → Ah lt (g i) (g k) := fun k x y => .inl (hlow k x y)
  have up : ∀ k, a ≤ k → k < j → Ah lt (g k) (g i) := by
    intro k x y
    rcases hup with h | ⟨h, h'⟩
    · omega
    · have e : Ah lt (g (j - 1)) (g i) := .inr ⟨h, h'⟩
      by_cases c : k = j - 1
      · rw [c]; exact e
      · exact (hs k (j - 1) x (by omega) (by omega)).trans O e
  unfold ins
  by_cases c1 : p < j
  · rw [if_pos c1]
    by_cases d1 : q < j
    · rw [if_pos d1]; exact hs p q h1 h2 (by omega)
    · rw [if_neg d1]
      by_cases d2 : q = j
      · rw [if_pos d2]; exact up p h1 c1
      · rw [if_neg d2, if_pos (by omega)]
        exact hs p (q - 1) h1 (by omega) (by omega)
  · rw [if_neg c1]
    by_cases c2 : p = j
    · rw [if_pos c2, if_neg (by omega), if_neg (by omega), if_pos (by omega)]
      exact low (q - 1) (by omega) (by omega)
    · rw [if_neg c2, if_pos (by omega), if_neg (by omega), if_neg (by omega), if_pos (by omega)]
      exact hs (p - 1) (q - 1) (by omega) (by omega) (by omega)

/-! ### Ranges exchanged; a rotation -/
/-- n places from a, and n from b, exchanged; k pairs so far. -/
def swr (f : Nat → Nat) (a b k : Nat) : Nat → Nat := fun i => if a ≤ i ∧ i < a + k then f (i - a + b) else if b ≤ i ∧ i < b + k then f (i - b + a) else f i
theorem swr_zero (f : Nat → Nat) (a b : Nat) : swr f a b 0 = f := by funext i; unfold swr; rw [if_neg (by omega), if_neg (by omega)]
theorem swr_step (f : Nat → Nat) (a b k n : Nat) (h : a + n ≤ b) (hk : k < n) : xch (swr f a b k) (a + k) (b + k) = swr f a b (k + 1) := by
  funext i
  unfold xch swr
  by_cases c : i = a + k
  · subst c
    rw [if_pos rfl, if_neg (by omega), if_neg (by omega), if_pos (by omega)]
    congr 1; omega
  · by_cases d : i = b + k
    · subst d
      rw [if_neg c, if_pos rfl, if_neg (by omega), if_neg (by omega), if_neg (by omega), if_pos (by omega)]
      congr 1; omega
    · rw [if_neg c, if_neg d]
      by_cases e : a ≤ i ∧ i < a + k
      · rw [if_pos e, if_pos (by omega)]
      · rw [if_neg e, if_neg (by omega : ¬ (a ≤ i ∧ i < a + (k + 1)))]
        by_cases e2 : b ≤ i ∧ i < b + k
        · rw [if_pos e2, if_pos (by omega)]
        · rw [if_neg e2, if_neg (by omega)]
theorem swr_mv (f : Nat → Nat) (a b lo hi : Nat) : ∀ m, a + m ≤ b → lo ≤ a → b + m ≤ hi → Mv lo hi f (swr f a b m) := by
  intro m
  induction m with
  | zero => intro _ _ _; rw [swr_zero]; exact .refl
  | succ m ih =>
    intro h1 h2 h3
    rw [← swr_step f a b m (m + 1) h1 (by omega)]
    exact .xch _ _ (ih (by omega) h2 (by omega)) (by omega) (by omega) (by omega) (by omega)
/-- What stands from m to q put ahead of what stands from p to m. -/
def rot (f : Nat → Nat) (p m q : Nat) : Nat → Nat := fun i => if i < p ∨ q ≤ i then f i else if i < p + (q - m) then f (i + (m - p)) else f (i - (q - m))
theorem rot_more (f : Nat → Nat) (m i j : Nat) (him : i ≤ m) (h : j < i) (hj : 0 < j) : rot (swr f (m - i) m j) (m - (i - j)) m (m + j) = rot f (m - i) m (m + j) := by
  funext k
  unfold rot
  by_cases c : k < m - i ∨ m + j ≤ k
  · rw [if_pos c, if_pos (by omega)]
    unfold swr; rw [if_neg (by omega), if_neg (by omega)]
  · rw [if_neg c]
    by_cases d : k < m - (i - j)
    · rw [if_pos (by omega), if_pos (by omega)]
      unfold swr; rw [if_pos (by omega)]; congr 1; omega
    · rw [if_neg (by omega : ¬ (k < m - (i - j) ∨ m + j ≤ k)), if_neg (by omega : ¬ k < m - i + (m + j - m))]
      by_cases e : k < m - (i - j) + (m + j - m)
      · rw [if_pos e]
        unfold swr
        by_cases g : k + (m - (m - (i - j))) < m
        · rw [if_neg (by omega), if_neg (by omega)]; congr 1; omega
        · rw [if_neg (by omega), if_pos (by omega)]; congr 1; omega
      · rw [if_neg e]
        unfold swr
        rw [if_neg (by omega), if_neg (by omega)]
theorem rot_less (f : Nat → Nat) (m i j : Nat) (him : i ≤ m) (h : i < j) (hi : 0 < i) : rot (swr f (m - i) (m + j - i) i) (m - i) m (m + (j - i)) = rot f (m - i) m (m + j) := by
  funext k
  unfold rot
  by_cases c : k < m - i ∨ m + j ≤ k
  · rw [if_pos c, if_pos (by omega)]
    unfold swr; rw [if_neg (by omega), if_neg (by omega)]
  · rw [if_neg c]
    by_cases d : m + (j - i) ≤ k
    · rw [if_pos (by omega), if_neg (by omega)]
      unfold swr
      rw [if_neg (by omega), if_pos (by omega)]; congr 1; omega
    · rw [if_neg (by omega : ¬ (k < m - i ∨ m + (j - i) ≤ k))]
      by_cases e : k < m - i + (m + (j - i) - m)
      · rw [if_pos e, if_pos (by omega)]
        unfold swr
        rw [if_neg (by omega), if_neg (by omega)]
      · rw [if_neg e]
        by_cases g : k < m - i + (m + j - m)
        · rw [if_pos g]
          unfold swr
          rw [if_pos (by omega)]; congr 1; omega
        · omega
theorem rot_even (f : Nat → Nat) (m i : Nat) (him : i ≤ m) : swr f (m - i) m i = rot f (m - i) m (m + i) := by
  funext k
  unfold rot swr
  by_cases c : k < m - i ∨ m + i ≤ k
  · rw [if_pos c, if_neg (by omega), if_neg (by omega)]
  · rw [if_neg c]
    by_cases d : k < m
    · rw [if_pos (by omega), if_pos (by omega)]; congr 1; omega
    · rw [if_neg (by omega), if_pos (by omega), if_neg (by omega)]; congr 1; omega

/-! ### Two rows in order, merged -/
/-- What is handed to a merge: two rows in order, all of the first elder than all of the second. -/
structure Mrg (lt : Nat → Nat → Bool) (a m b : Nat) (f : Nat → Nat) : Prop where
  am : a < m
  mb : m < b
  left : Srt lt a m f
  right : Srt lt m b f
  old : ∀ i j, a ≤ i → i < m → m ≤ j → j < b → f i < f j
theorem two_one_left {lt : Nat → Nat → Bool} (O : Swo lt) {a b i : Nat} {f : Nat → Nat} (h : Mrg lt a (a + 1) b f) (h1 : a + 1 ≤ i) (h2 : i ≤ b)
    (hlow : ∀ k, a + 1 ≤ k → k < i → lt (f k) (f a) = true) (hup : ∀ k, i ≤ k → k < b → lt (f k) (f a) = false) {g : Nat → Nat}
    (e1 : ∀ k, a ≤ k → k < i - 1 → g k = f (k + 1)) (e2 : g (i - 1) = f a) (e3 : ∀ k, i ≤ k → k < b → g k = f k) : Srt lt a b g := by
  intro p q x y z
  by_cases c : q < i - 1
  · rw [e1 p x (by omega), e1 q (by omega) c]; exact h.right _ _ (by omega) (by omega) (by omega)
  · by_cases c2 : q = i - 1
    · subst c2
      rw [e1 p x (by omega), e2]
      exact .inl (hlow _ (by omega) (by omega))
    · by_cases d : p < i - 1
      · rw [e1 p x d, e3 q (by omega) z]; exact h.right _ _ (by omega) (by omega) (by omega)
      · by_cases d2 : p = i - 1
        · subst d2
          rw [e2, e3 q (by omega) z]
          exact .inr ⟨hup q (by omega) z, h.old a q (by omega) (by omega) (by omega) z⟩
        · rw [e3 p (by omega) (by omega), e3 q (by omega) z]; exact h.right _ _ (by omega) (by omega) (by omega)
theorem two_one_right {lt : Nat → Nat → Bool} (O : Swo lt) {a m i : Nat} {f : Nat → Nat} (h : Mrg lt a m (m + 1) f) (h1 : a ≤ i) (h2 : i ≤ m)
    (hlow : ∀ k, a ≤ k → k < i → lt (f m) (f k) = false) (hup : ∀ k, i ≤ k → k < m → lt (f m) (f k) = true) {g : Nat → Nat}
    (e1 : ∀ k, a ≤ k → k < i → g k = f k) (e2 : g i = f m) (e3 : ∀ k, i < k → k ≤ m → g k = f (k - 1)) : Srt lt a (m + 1) g := by
  intro p q x y z
  by_cases c : q < i
  · rw [e1 p x (by omega), e1 q (by omega) c]; exact h.left _ _ x y (by omega)
  · by_cases c2 : q = i
    · subst c2
      rw [e1 p x (by omega), e2]
      exact .inr ⟨hlow p x (by omega), h.old p m x (by omega) (by omega) (by omega)⟩
    · by_cases d : p < i
      · rw [e1 p x d, e3 q (by omega) (by omega)]; exact h.left _ _ x (by omega) (by omega)
      · by_cases d2 : p = i
        · subst d2
          rw [e2, e3 q (by omega) (by omega)]
          exact .inl (hup _ (by omega) (by omega))
        · rw [e3 p (by omega) (by omega), e3 q (by omega) (by omega)]; exact h.left _ _ (by omega) (by omega) (by omega)

theorem lt_of_ah {lt : Nat → Nat → Bool} {x y : Nat} (h : Ah lt x y) (g : y < x) : lt x y = true := by
  rcases h with h | ⟨_, h⟩
  · exact h
  · omega
theorem no_of_ah {lt : Nat → Nat → Bool} (O : Swo lt) {x y : Nat} (h : Ah lt x y) : lt y x = false := by
  rcases h with h | ⟨h, _⟩
  · exact O.asy h
  · exact h
theorem mrg_low {lt : Nat → Nat → Bool} (O : Swo lt) {a m b : Nat} {f : Nat → Nat} (h : Mrg lt a m b f) {i k q : Nat} (i1 : a ≤ i) (i2 : i < m) (k1 : m ≤ k) (kq : k ≤ q) (q1 : q < b) (hl : lt (f q) (f i) = true) : lt (f k) (f i) = true := by
  by_cases e : k = q
  · rw [e]; exact hl
  · exact lt_of_ah ((h.right k q k1 (by omega) q1).trans O (.inl hl)) (h.old i k i1 i2 k1 (by omega))
theorem mrg_up {lt : Nat → Nat → Bool} (O : Swo lt) {a m b : Nat} {f : Nat → Nat} (h : Mrg lt a m b f) {i k q : Nat} (i1 : a ≤ i) (i2 : i < m) (q1 : m ≤ q) (kq : q ≤ k) (k1 : k < b) (hl : lt (f q) (f i) = false) : lt (f k) (f i) = false := by
  by_cases e : k = q
  · rw [e]; exact hl
  · exact no_of_ah O (Ah.trans O (.inr ⟨hl, h.old i q i1 i2 q1 (by omega)⟩) (h.right q k q1 (by omega) k1))
theorem mrg_lefno {lt : Nat → Nat → Bool} (O : Swo lt) {a m b : Nat} {f : Nat → Nat} (h : Mrg lt a m b f) {i k q : Nat} (i1 : a ≤ k) (ki : k ≤ i) (i2 : i < m) (q1 : m ≤ q) (q2 : q < b) (hl : lt (f q) (f i) = false) : lt (f q) (f k) = false := by
  by_cases e : k = i
  · rw [e]; exact hl
  · exact no_of_ah O (Ah.trans O (h.left k i i1 (by omega) i2) (.inr ⟨hl, h.old i q (by omega) i2 q1 q2⟩))
theorem mrg_lefyes {lt : Nat → Nat → Bool} (O : Swo lt) {a m b : Nat} {f : Nat → Nat} (h : Mrg lt a m b f) {i k q : Nat} (i1 : a ≤ i) (ik : i ≤ k) (i2 : k < m) (q1 : m ≤ q) (q2 : q < b) (hl : lt (f q) (f i) = true) : lt (f q) (f k) = true := by
  by_cases e : k = i
  · rw [e]; exact hl
  · exact lt_of_ah (Ah.trans O (.inl hl) (h.left i k i1 (by omega) i2)) (h.old k q (by omega) i2 q1 q2)
/-- The one from place a, put at place k. -/
def mvr (f : Nat → Nat) (a k : Nat) : Nat → Nat := fun j => if j < a then f j else if j < k then f (j + 1) else if j = k then f a else f j
theorem mvr_start (f : Nat → Nat) (a : Nat) : mvr f a a = f := by
  funext j; unfold mvr
  by_cases h : j < a
  · rw [if_pos h]
  · rw [if_neg h, if_neg h]
    by_cases e : j = a
    · rw [if_pos e, e]
    · rw [if_neg e]
theorem mvr_step (f : Nat → Nat) (a k : Nat) (h : a ≤ k) : xch (mvr f a k) k (k + 1) = mvr f a (k + 1) := by
  funext j
  unfold xch mvr
  by_cases c : j = k
  · rw [if_pos c, if_neg (by omega), if_neg (by omega), if_neg (by omega), if_neg (by omega), if_pos (by omega), c]
  · rw [if_neg c]
    by_cases d : j = k + 1
    · rw [if_pos d, if_neg (by omega), if_neg (by omega), if_pos rfl, if_neg (by omega), if_neg (by omega), if_pos d]
    · rw [if_neg d]
      by_cases e : j < a
      · rw [if_pos e, if_pos e]
      · rw [if_neg e, if_neg e]
        by_cases g : j < k
        · rw [if_pos g, if_pos (by omega)]
        · rw [if_neg g, if_neg c, if_neg (by omega), if_neg d]

/-- What a bound splits: from lo to hi the places at which the second row's one is no less, then those at which it is. -/
structure Cut (lt : Nat → Nat → Bool) (a m b mid s e : Nat) (f : Nat → Nat) : Prop where
  se : s + e = mid + m
  as_ : a ≤ s
  sm : s ≤ m
  me : m ≤ e
  eb : e ≤ b
  smid : s ≤ mid
  mide : mid ≤ e
  one : s = a ∨ e = b ∨ lt (f e) (f (s - 1)) = false
  two : s = m ∨ e = m ∨ lt (f (e - 1)) (f s) = true
/-- Behind the rotation: all of the first half come ahead of all of the second, and each half is two rows again, or one. -/
theorem cut_cross {lt : Nat → Nat → Bool} (O : Swo lt) {a m b mid s e : Nat} {f : Nat → Nat} (h : Mrg lt a m b f) (c : Cut lt a m b mid s e f) :
    ∀ p q, ((a ≤ p ∧ p < s) ∨ (m ≤ p ∧ p < e)) → ((s ≤ q ∧ q < m) ∨ (e ≤ q ∧ q < b)) → Ah lt (f p) (f q) := by
  have k1 : ∀ p q, a ≤ p → p < s → e ≤ q → q < b → Ah lt (f p) (f q) := by
    intro p q h1 h2 h3 h4
    rcases c.one with x | x | x
    · omega
    · omega
    · have y : Ah lt (f (s - 1)) (f e) := .inr ⟨x, h.old _ _ (by omega) (by have := c.sm; omega) c.me (by omega)⟩
      have y1 : Ah lt (f p) (f e) := by
        by_cases z : p = s - 1
        · rw [z]; exact y
        · exact (h.left p (s - 1) h1 (by omega) (by have := c.sm; omega)).trans O y
      by_cases z : q = e
      · rw [z]; exact y1
      · exact y1.trans O (h.right e q c.me (by omega) h4)
  have k2 : ∀ p q, m ≤ p → p < e → s ≤ q → q < m → Ah lt (f p) (f q) := by
    intro p q h1 h2 h3 h4
    rcases c.two with x | x | x
    · omega
    · omega
    · have y : Ah lt (f (e - 1)) (f s) := .inl x
      have y1 : Ah lt (f p) (f s) := by
        by_cases z : p = e - 1
        · rw [z]; exact y
        · exact (h.right p (e - 1) h1 (by omega) (by have := c.eb; omega)).trans O y
      by_cases z : q = s
      · rw [z]; exact y1
      · exact y1.trans O (h.left s q c.as_ (by omega) h4)
  intro p q hp hq
  have := c.as_; have := c.sm; have := c.me; have := c.eb
  rcases hp with ⟨p1, p2⟩ | ⟨p1, p2⟩ <;> rcases hq with ⟨q1, q2⟩ | ⟨q1, q2⟩
  · exact h.left p q p1 (by omega) q2
  · exact k1 p q p1 p2 q1 q2
  · exact k2 p q p1 p2 q1 q2
  · exact h.right p q p1 (by omega) q2
/-- What stands behind the rotation (or where there is none to be made). -/
def Rotd (f g : Nat → Nat) (s m e : Nat) : Prop := ∀ k, g k = rot f s m e k
theorem rotd_left {f g : Nat → Nat} {s m e : Nat} (h : Rotd f g s m e) (k : Nat) (hk : k < s) : g k = f k := by rw [h k]; unfold rot; rw [if_pos (by omega)]
theorem rotd_right {f g : Nat → Nat} {s m e : Nat} (h : Rotd f g s m e) (k : Nat) (hk : e ≤ k) : g k = f k := by rw [h k]; unfold rot; rw [if_pos (by omega)]
theorem rotd_first {f g : Nat → Nat} {s m e : Nat} (h : Rotd f g s m e) (k : Nat) (h1 : s ≤ k) (h2 : k < s + (e - m)) (h3 : k < e) : g k = f (k + (m - s)) := by rw [h k]; unfold rot; rw [if_neg (by omega), if_pos h2]
theorem rotd_second {f g : Nat → Nat} {s m e : Nat} (h : Rotd f g s m e) (k : Nat) (h1 : s + (e - m) ≤ k) (h2 : s ≤ k) (h3 : k < e) : g k = f (k - (e - m)) := by rw [h k]; unfold rot; rw [if_neg (by omega), if_neg (by omega)]
theorem rotd_none {f : Nat → Nat} {s m e : Nat} (h : s = m ∨ e = m) (h1 : s ≤ m) (h2 : m ≤ e) : Rotd f f s m e := by
  intro k
  unfold rot
  by_cases c : k < s ∨ e ≤ k
  · rw [if_pos c]
  · rw [if_neg c]
    rcases h with h | h
    · rw [if_pos (by omega)]; congr 1; omega
    · rw [if_neg (by omega)]; congr 1; omega
/-- The first half behind it: two rows, or one in order. -/
theorem half_one {lt : Nat → Nat → Bool} {a m b mid s e : Nat} {f g : Nat → Nat} (h : Mrg lt a m b f) (c : Cut lt a m b mid s e f) (r : Rotd f g s m e) :
    (a < s → s < mid → Mrg lt a s mid g) ∧ (s ≤ a ∨ mid ≤ s → Srt lt a mid g) := by
  have := c.as_; have := c.sm; have := c.me; have := c.eb; have := c.se; have := c.smid; have := c.mide; have := h.am; have := h.mb
  have L : Srt lt a s g := fun i j h1 h2 h3 => by
    rw [rotd_left r i (by omega), rotd_left r j h3]; exact h.left i j h1 h2 (by omega)
  have R : Srt lt s mid g := fun i j h1 h2 h3 => by
    rw [rotd_first r i h1 (by omega) (by omega), rotd_first r j (by omega) (by omega) (by omega)]; exact h.right _ _ (by omega) (by omega) (by omega)
  refine ⟨fun h1 h2 => ⟨h1, h2, L, R, fun i j p q x y => ?_⟩, fun d => ?_⟩
  · rw [rotd_left r i q, rotd_first r j x (by omega) (by omega)]; exact h.old _ _ p (by omega) (by omega) (by omega)
  · rcases d with d | d
    · exact R.mono (by omega) (Nat.le_refl _)
    · exact L.mono (Nat.le_refl _) (by omega)
theorem half_two {lt : Nat → Nat → Bool} {a m b mid s e : Nat} {f g : Nat → Nat} (h : Mrg lt a m b f) (c : Cut lt a m b mid s e f) (r : Rotd f g s m e) :
    (mid < e → e < b → Mrg lt mid e b g) ∧ (e ≤ mid ∨ b ≤ e → Srt lt mid b g) := by
  have := c.as_; have := c.sm; have := c.me; have := c.eb; have := c.se; have := c.smid; have := c.mide; have := h.am; have := h.mb
  have L : Srt lt mid e g := fun i j h1 h2 h3 => by
    rw [rotd_second r i (by omega) (by omega) (by omega), rotd_second r j (by omega) (by omega) (by omega)]; exact h.left _ _ (by omega) (by omega) (by omega)
  have R : Srt lt e b g := fun i j h1 h2 h3 => by
    rw [rotd_right r i h1, rotd_right r j (by omega)]; exact h.right i j (by omega) h2 h3
  refine ⟨fun h1 h2 => ⟨h1, h2, L, R, fun i j p q x y => ?_⟩, fun d => ?_⟩
  · rw [rotd_second r i (by omega) (by omega) q, rotd_right r j x]; exact h.old _ _ (by omega) (by omega) (by omega) (by omega)
  · rcases d with d | d
    · exact R.mono (by omega) (Nat.le_refl _)
    · exact L.mono (Nat.le_refl _) (by omega)
/-- The halves in order, each by itself: all of it is. -/
theorem halves {lt : Nat → Nat → Bool} (O : Swo lt) {a m b mid s e : Nat} {f g g1 g2 : Nat → Nat} (h : Mrg lt a m b f) (c : Cut lt a m b mid s e f) (r : Rotd f g s m e)
    (m1 : Mv a mid g g1) (s1 : Srt lt a mid g1) (m2 : Mv mid b g1 g2) (s2 : Srt lt mid b g2) : Srt lt a b g2 := by
  have := c.as_; have := c.sm; have := c.me; have := c.eb; have := c.se; have := c.smid; have := c.mide; have := h.am; have := h.mb
  intro p q h1 h2 h3
  by_cases cp : mid ≤ p
  · exact s2 p q cp h2 h3
  · rw [m2.out p (by omega)]
    by_cases cq : mid ≤ q
    · obtain ⟨p', x1, x2, x3⟩ := m1.back p h1 (by omega)
      obtain ⟨q', y1, y2, y3⟩ := m2.back q cq h3
      rw [x3, y3, m1.out q' (by omega)]
      have ep : ∃ u, g p' = f u ∧ ((a ≤ u ∧ u < s) ∨ (m ≤ u ∧ u < e)) := by
        by_cases z : p' < s
        · exact ⟨p', rotd_left r p' z, .inl ⟨x1, z⟩⟩
        · exact ⟨_, rotd_first r p' (by omega) (by omega) (by omega), .inr ⟨by omega, by omega⟩⟩
      have eq : ∃ u, g q' = f u ∧ ((s ≤ u ∧ u < m) ∨ (e ≤ u ∧ u < b)) := by
        by_cases z : e ≤ q'
        · exact ⟨q', rotd_right r q' z, .inr ⟨z, y2⟩⟩
        · exact ⟨_, rotd_second r q' (by omega) (by omega) (by omega), .inl ⟨by omega, by omega⟩⟩
      obtain ⟨u, eu, hu⟩ := ep
      obtain ⟨v, ev, hv⟩ := eq
      rw [eu, ev]
      exact cut_cross O h c u v hu hv
    · rw [m2.out q (by omega)]
      exact s1 p q h1 h2 (by omega)

/-! ### Blocks -/
/-- Rows between bounds: within one all is in order, and all of an elder one is elder than all of a younger one. -/
def Blk (lt : Nat → Nat → Bool) (B : Nat → Prop) (n : Nat) (f : Nat → Nat) : Prop :=
  ∀ i j, i < j → j < n → ((∀ p, i < p → p ≤ j → ¬ B p) → Ah lt (f i) (f j)) ∧ ((∃ p, i < p ∧ p ≤ j ∧ B p) → f i < f j)
theorem Blk.iff {lt : Nat → Nat → Bool} {B C : Nat → Prop} {n : Nat} {f : Nat → Nat} (h : Blk lt B n f) (e : ∀ p, 0 < p → p < n → (B p ↔ C p)) : Blk lt C n f := fun i j h1 h2 =>
  ⟨fun k => (h i j h1 h2).1 fun p x y z => k p x y ((e p (by omega) (by omega)).1 z), fun ⟨p, x, y, z⟩ => (h i j h1 h2).2 ⟨p, x, y, (e p (by omega) (by omega)).2 z⟩⟩
theorem Blk.start {lt : Nat → Nat → Bool} {B : Nat → Prop} {n : Nat} {f : Nat → Nat} (hB : ∀ p, 0 < p → p < n → B p) (hf : ∀ i j, i < j → j < n → f i < f j) : Blk lt B n f := fun i j h1 h2 =>
  ⟨fun k => absurd (hB j (by omega) h2) (k j h1 (Nat.le_refl _)), fun _ => hf i j h1 h2⟩
theorem Blk.done {lt : Nat → Nat → Bool} {B : Nat → Prop} {n : Nat} {f : Nat → Nat} (h : Blk lt B n f) (hB : ∀ p, 0 < p → p < n → ¬ B p) : Srt lt 0 n f := fun i j h1 h2 h3 =>
  (h i j h2 h3).1 fun p x y => hB p (by omega) (by omega)
theorem Blk.join {lt : Nat → Nat → Bool} {B : Nat → Prop} {n a b : Nat} {f g : Nat → Nat} (h : Blk lt B n f) (ha : a = 0 ∨ B a) (hb : b = n ∨ B b) (hbn : b ≤ n) (m : Mv a b f g) (s : Srt lt a b g) : Blk lt (fun p => B p ∧ ¬ (a < p ∧ p < b)) n g := by
  have elder : ∀ i j, i < n → j < n → (i < a ∨ b ≤ i) → a ≤ j → j < b → (i < j → f i < g j) ∧ (j < i → g j < f i) := by
    intro i j hi hj x y z
    obtain ⟨j', y1, y2, y3⟩ := m.back j y z
    refine ⟨fun l => ?_, fun l => ?_⟩
    · rw [y3]
      refine (h i j' (by omega) (by omega)).2 ?_
      rcases ha with ha | ha
      · omega
      · exact ⟨a, by omega, by omega, ha⟩
    · rw [y3]
      refine (h j' i (by omega) (by omega)).2 ?_
      rcases hb with hb | hb
      · omega
      · exact ⟨b, by omega, by omega, hb⟩
  intro i j h1 h2
  by_cases ci : a ≤ i ∧ i < b
  · by_cases cj : a ≤ j ∧ j < b
    · exact ⟨fun _ => s i j ci.1 h1 cj.2, fun ⟨p, x, y, z⟩ => absurd ⟨by omega, by omega⟩ z.2⟩
    · have lt1 : g i < g j := by rw [m.out j (by omega)]; exact (elder j i h2 (by omega) (by omega) ci.1 ci.2).2 h1
      refine ⟨fun k => ?_, fun _ => lt1⟩
      rcases hb with hb | hb
      · omega
      · exact absurd ⟨hb, by omega⟩ (k b (by omega) (by omega))
  · by_cases cj : a ≤ j ∧ j < b
    · have lt1 : g i < g j := by rw [m.out i (by omega)]; exact (elder i j (by omega) h2 (by omega) cj.1 cj.2).1 h1
      refine ⟨fun k => ?_, fun _ => lt1⟩
      rcases ha with ha | ha
      · omega
      · exact absurd ⟨ha, by omega⟩ (k a (by omega) (by omega))
    · rw [m.out i (by omega), m.out j (by omega)]
      refine ⟨fun k => (h i j h1 h2).1 fun p x y z => k p x y ⟨z, fun w => ?_⟩, fun ⟨p, x, y, z⟩ => (h i j h1 h2).2 ⟨p, x, y, z.1⟩⟩
      · rcases (by omega : j < a ∨ b ≤ i ∨ (i < a ∧ b ≤ j)) with l | l | ⟨l1, l2⟩
        · omega
        · omega
        · rcases ha with ha | ha
          · omega
          · exact k a (by omega) (by omega) ⟨ha, by omega⟩
theorem Blk.pair {lt : Nat → Nat → Bool} {B : Nat → Prop} {n a m b : Nat} {f : Nat → Nat} (h : Blk lt B n f) (am : a < m) (mb : m < b) (hbn : b ≤ n) (hm : B m) (hn : ∀ p, a < p → p < b → p ≠ m → ¬ B p) : Mrg lt a m b f :=
  ⟨am, mb, fun i j h1 h2 h3 => (h i j h2 (by omega)).1 fun p x y => hn p (by omega) (by omega) (by omega), fun i j h1 h2 h3 => (h i j h2 (by omega)).1 fun p x y => hn p (by omega) (by omega) (by omega),
   fun i j h1 h2 h3 h4 => (h i j (by omega) (by omega)).2 ⟨m, by omega, by omega, hm⟩⟩
end Go.Proofs.YtckaiejbgnhgcaaGreatDoor.Wd
namespace Go.Proofs.YtckaiejbgnhgcaaGreatDoor.Wd
open Go Go.RowKit
set_option linter.unusedVariables false
set_option maxRecDepth 100000

/-- A rule, as data. -/
structure Rl where
  p : ByteArray
  e : Int
  b : Int
  k : Int
abbrev Rl.v (r : Rl) : Value := rul r.p r.e r.b r.k
abbrev Rl.cs (r : Rl) : List Value := [.string r.p, .int .u64 r.e, .int .u64 r.b, .int .u8 r.k]
/-- A rule lies in four cells. -/
def R4 (w : World) (B o : Nat) (r : Rl) : Prop := w.cell? ⟨B, o, none⟩ = some (.string r.p) ∧ w.cell? ⟨B, o + 1, none⟩ = some (.int .u64 r.e) ∧ w.cell? ⟨B, o + 2, none⟩ = some (.int .u64 r.b) ∧ w.cell? ⟨B, o + 3, none⟩ = some (.int .u8 r.k)
/-- Four cells may be written. -/
def S4 (w : World) (B o : Nat) : Prop := w.frozen? ⟨B, o, none⟩ = false ∧ w.frozen? ⟨B, o + 1, none⟩ = false ∧ w.frozen? ⟨B, o + 2, none⟩ = false ∧ w.frozen? ⟨B, o + 3, none⟩ = false
theorem R4.of_block {w w' : World} {B o : Nat} {r : Rl} (h : R4 w B o r) (e : w'.heap[B]? = w.heap[B]?) : R4 w' B o r :=
  ⟨(World.cell?_of_block (w := w) e).trans h.1, (World.cell?_of_block (w := w) e).trans h.2.1, (World.cell?_of_block (w := w) e).trans h.2.2.1, (World.cell?_of_block (w := w) e).trans h.2.2.2⟩
theorem S4.of_block {w w' : World} {B o : Nat} (h : S4 w B o) (e : w'.heap[B]? = w.heap[B]?) : S4 w' B o :=
  ⟨(World.frozen?_of_block (w := w) e).trans h.1, (World.frozen?_of_block (w := w) e).trans h.2.1, (World.frozen?_of_block (w := w) e).trans h.2.2.1, (World.frozen?_of_block (w := w) e).trans h.2.2.2⟩

/-! ### All but one block as it was -/
theorem gb_of {w W : World} {B : Nat} (h : Below w.heap.size w W) : w.grownBy W (some B) := ⟨h.os, h.tape, h.output, h.size, fun k hk _ => h.block k hk⟩
theorem gb_refl (w : World) (B : Nat) : w.grownBy w (some B) := ⟨rfl, rfl, rfl, Nat.le_refl _, fun _ _ _ => rfl⟩
theorem gb_trans {a b c : World} {B : Nat} (h : a.grownBy b (some B)) (g : b.grownBy c (some B)) : a.grownBy c (some B) :=
  ⟨g.os.trans h.os, g.tape.trans h.tape, g.output.trans h.output, Nat.le_trans h.size g.size, fun k hk hn => (g.block k (Nat.lt_of_lt_of_le hk h.size) hn).trans (h.block k hk hn)⟩
theorem cell_lt {w : World} {b o : Nat} {v : Value} (h : w.cell? ⟨b, o, none⟩ = some v) : b < w.heap.size := by
  by_cases hb : b < w.heap.size
  · exact hb
  · simp [World.cell?, hb] at h
theorem gb_cell {w W : World} {B : Nat} (h : w.grownBy W (some B)) {b o : Nat} {v : Value} (hb : b ≠ B) (c : w.cell? ⟨b, o, none⟩ = some v) : W.cell? ⟨b, o, none⟩ = some v :=
  (World.cell?_of_block (w := w) (h.block b (cell_lt c) (fun e => hb (by injection e)))).trans c
theorem gb_below {w W : World} {B n : Nat} (h : w.grownBy W (some B)) (h1 : n ≤ B) (h2 : B < w.heap.size) : Below n w W := ⟨h.os, h.tape, h.output, h.size, fun k hk => h.block k (by omega) (fun e => by injection e; omega)⟩
theorem gb_alloc (w : World) (o : Obj) (B : Nat) : w.grownBy (w.alloc o) (some B) := gb_of ((Below.refl _ w).alloc (Nat.le_refl _) o)

/-! ### What is sorted -/
/-- n rules in block RB, of which the k-th is r (f k); the variable in block RX holds them. -/
structure SoW (W : World) (RB RX n : Nat) (r : Nat → Rl) (f : Nat → Nat) : Prop where
  lt : RB < W.heap.size
  ne : RX ≠ RB
  var : W.cell? ⟨RX, 0, none⟩ = some (.slice (some ⟨RB, 0, none⟩) n n)
  rows : ∀ k, k < n → R4 W RB (k * 4) (r (f k)) ∧ S4 W RB (k * 4)
theorem SoW.below {W W' : World} {RB RX n : Nat} {r : Nat → Rl} {f : Nat → Nat} (h : SoW W RB RX n r f) (g : Below W.heap.size W W') : SoW W' RB RX n r f :=
  ⟨Nat.lt_of_lt_of_le h.lt g.size, h.ne, celln g h.var, fun k hk => ⟨(h.rows k hk).1.of_block (g.block _ h.lt), (h.rows k hk).2.of_block (g.block _ h.lt)⟩⟩
theorem SoW.alloc {W : World} {RB RX n : Nat} {r : Nat → Rl} {f : Nat → Nat} (h : SoW W RB RX n r f) (o : Obj) : SoW (W.alloc o) RB RX n r f := h.below ((Below.refl _ W).alloc (Nat.le_refl _) o)
theorem SoW.same {W : World} {RB RX n : Nat} {r : Nat → Rl} {f g : Nat → Nat} (h : SoW W RB RX n r f) (e : ∀ k, k < n → g k = f k) : SoW W RB RX n r g :=
  ⟨h.lt, h.ne, h.var, fun k hk => by rw [e k hk]; exact h.rows k hk⟩

theorem sets_cell (W : World) (B o : Nat) (r : Rl) : W.setCells B o r.cs = (((W.setCell ⟨B, o, none⟩ (.string r.p)).setCell ⟨B, o + 1, none⟩ (.int .u64 r.e)).setCell ⟨B, o + 2, none⟩ (.int .u64 r.b)).setCell ⟨B, o + 3, none⟩ (.int .u8 r.k) := rfl
theorem cs_other (W : World) (B o : Nat) (v : Value) (B2 o2 : Nat) (h : B2 ≠ B ∨ o2 ≠ o) : (W.setCell ⟨B, o, none⟩ v).cell? ⟨B2, o2, none⟩ = W.cell? ⟨B2, o2, none⟩ :=
  World.cell?_setCell_other _ _ _ _ (fun e => by injection e with e1 e2; omega)
theorem r4_put {W : World} {B o : Nat} {s : Rl} (h : R4 W B o s) (r : Rl) : R4 (W.setCells B o r.cs) B o r := by
  obtain ⟨h0, h1, h2, h3⟩ := h
  rw [sets_cell]
  refine ⟨?_, ?_, ?_, ?_⟩
  · rw [cs_other _ _ _ _ _ _ (.inr (by omega)), cs_other _ _ _ _ _ _ (.inr (by omega)), cs_other _ _ _ _ _ _ (.inr (by omega))]
    exact World.cell?_setCell_same _ _ _ h0
  · rw [cs_other _ _ _ _ _ _ (.inr (by omega)), cs_other _ _ _ _ _ _ (.inr (by omega))]
    exact World.cell?_setCell_same _ _ _ ((cs_other _ _ _ _ _ _ (.inr (by omega))).trans h1)
  · rw [cs_other _ _ _ _ _ _ (.inr (by omega))]
    exact World.cell?_setCell_same _ _ _ ((cs_other _ _ _ _ _ _ (.inr (by omega))).trans ((cs_other _ _ _ _ _ _ (.inr (by omega))).trans h2))
  · exact World.cell?_setCell_same _ _ _ ((cs_other _ _ _ _ _ _ (.inr (by omega))).trans ((cs_other _ _ _ _ _ _ (.inr (by omega))).trans ((cs_other _ _ _ _ _ _ (.inr (by omega))).trans h3)))
theorem r4_far {W : World} {B o o2 : Nat} {s r : Rl} (h : R4 W B o s) (hf : o + 4 ≤ o2 ∨ o2 + 4 ≤ o) : R4 (W.setCells B o2 r.cs) B o s := by
  obtain ⟨h0, h1, h2, h3⟩ := h
  rw [sets_cell]
  refine ⟨?_, ?_, ?_, ?_⟩ <;> (rw [cs_other _ _ _ _ _ _ (.inr (by omega)), cs_other _ _ _ _ _ _ (.inr (by omega)), cs_other _ _ _ _ _ _ (.inr (by omega)), cs_other _ _ _ _ _ _ (.inr (by omega))]; assumption)
theorem s4_put {W : World} {B o o2 : Nat} {r : Rl} (h : S4 W B o) : S4 (W.setCells B o2 r.cs) B o := by
  obtain ⟨h0, h1, h2, h3⟩ := h
  rw [sets_cell]
  refine ⟨?_, ?_, ?_, ?_⟩ <;> (simp only [World.frozen?_setCell]; assumption)
theorem gb_sets (W : World) (B o : Nat) (r : Rl) : W.grownBy (W.setCells B o r.cs) (some B) := by
  rw [sets_cell]
  refine ⟨rfl, rfl, rfl, by simp, fun k hk hn => ?_⟩
  have hk' : k ≠ B := fun e => hn (by rw [e])
  rw [Below.heap_setCell _ _ _ _ (fun e => hk' e), Below.heap_setCell _ _ _ _ (fun e => hk' e), Below.heap_setCell _ _ _ _ (fun e => hk' e), Below.heap_setCell _ _ _ _ (fun e => hk' e)]
theorem SoW.swap {W : World} {RB RX n : Nat} {r : Nat → Rl} {f : Nat → Nat} (h : SoW W RB RX n r f) (i j : Nat) (hi : i < n) (hj : j < n) (hij : i ≠ j) :
    SoW ((W.setCells RB (i * 4) (r (f j)).cs).setCells RB (j * 4) (r (f i)).cs) RB RX n r (xch f i j) ∧ W.grownBy ((W.setCells RB (i * 4) (r (f j)).cs).setCells RB (j * 4) (r (f i)).cs) (some RB) := by
  have g := gb_trans (gb_sets W RB (i * 4) (r (f j))) (gb_sets (W.setCells RB (i * 4) (r (f j)).cs) RB (j * 4) (r (f i)))
  refine ⟨⟨Nat.lt_of_lt_of_le h.lt g.size, h.ne, gb_cell g h.ne h.var, fun k hk => ⟨?_, s4_put (s4_put (h.rows k hk).2)⟩⟩, g⟩
  unfold xch
  by_cases c : k = i
  · rw [if_pos c, c]
    exact r4_far (r4_put (h.rows i hi).1 _) (by omega)
  · rw [if_neg c]
    by_cases d : k = j
    · rw [if_pos d, d]
      exact r4_put (r4_far (h.rows j hj).1 (by omega)) _
    · rw [if_neg d]
      exact r4_far (r4_far (h.rows k hk).1 (by omega)) (by omega)

/-- What is asked of the function that exchanges. -/
def SwapC (sf : Nat) (sb : Array Value) (RB RX n : Nat) (r : Nat → Rl) : Prop :=
  ∀ (W : World) (f : Nat → Nat) (i j : Nat), SoW W RB RX n r f → i < n → j < n → i ≠ j →
    ∃ W', (callFunc sf (#[.int .i64 (i : Int), .int .i64 (j : Int)] ++ sb)).run Tryz.prog W = .ok (.value (.tuple #[])) W' ∧ SoW W' RB RX n r (xch f i j) ∧ W.grownBy W' (some RB)

abbrev datV (RX sf : Nat) (sb : Array Value) : Value := .agg #[.func (Fn.func 36) #[] #[.pointer (some ⟨RX, 0, none⟩)], .func (Fn.func sf) #[] sb]
section
variable {RB RX n sf : Nat} {sb : Array Value} {r : Nat → Rl}

theorem swr_any (hsw : SwapC sf sb RB RX n r) (hn : n ≤ 1099511627776) (a b m : Nat) (hab : a + m ≤ b) (hbn : b + m ≤ n) (W : World) (f : Nat → Nat) (hS : SoW W RB RX n r f) :
    Calls Tryz.prog 119 #[datV RX sf sb, .int .i64 (a : Int), .int .i64 (b : Int), .int .i64 (m : Int)] W fun e w' => e = .returned (.tuple #[]) ∧ SoW w' RB RX n r (swr f a b m) ∧ W.grownBy w' (some RB) := by
  have HW := Lib.hid hsw
  have hlt := hS.lt
  have S0 := fun o => hS.alloc o
  clear hsw hS
  go_enter Tryz.func119, Tryz.ntmps119
  go_wp2
  have b0 : (W.alloc (.cells #[.func (Fn.func 36) #[] #[.pointer (some ⟨RX, 0, none⟩)], .func (Fn.func sf) #[] sb] 110)).cell? ⟨W.heap.size, 1, none⟩ = some (.func (Fn.func sf) #[] sb) := by simp
  have g0 : W.grownBy (W.alloc (.cells #[.func (Fn.func 36) #[] #[.pointer (some ⟨RX, 0, none⟩)], .func (Fn.func sf) #[] sb] 110)) (some RB) := gb_alloc _ _ _
  replace S0 := S0 (.cells #[.func (Fn.func 36) #[] #[.pointer (some ⟨RX, 0, none⟩)], .func (Fn.func sf) #[] sb] 110)
  generalize hW : World.alloc _ _ = W1 at *
  clear hW
  go_loopw [8] (fun i wr => ∃ k : Nat, i = .int .i64 (k : Int) ∧ k ≤ m ∧ SoW wr RB RX n r (swr f a b k) ∧ W1.grownBy wr (some RB)) (fun i _ => m - (intOf i).toNat)
  case atStart => exact ⟨0, rfl, Nat.zero_le _, by rw [swr_zero]; exact S0, gb_refl _ _⟩
  case round =>
    obtain ⟨k, rfl, hk, hS, hg⟩ := hrel
    by_cases hlt2 : k < m
    · obtain ⟨W', hrun, hS', hg'⟩ := HW.out wr _ (a + k) (b + k) hS (by omega) (by omega) (by omega)
      rw [swr_step f a b k m hab hlt2] at hS'
      have c1 := gb_cell hg (by omega) b0
      have e1 : ((a + k : Nat) : Int) = (a : Int) + (k : Int) := by omega
      have e2 : ((b + k : Nat) : Int) = (b : Int) + (k : Int) := by omega
      rw [e1, e2] at hrun
      have G := gb_trans hg hg'
      clear e1 e2 b0 S0 hg hg' hS g0
      go_wp2
      go_roundw
      case rel => exact ⟨k + 1, by go_num, hlt2, hS', G⟩
      case measure => simp [intOf]; omega
    · obtain rfl : k = m := by omega
      go_wp2
      go_end0
      exact ⟨rfl, hS, gb_trans g0 hg⟩
end
end Go.Proofs.YtckaiejbgnhgcaaGreatDoor.Wd
namespace Go.Proofs.YtckaiejbgnhgcaaGreatDoor.Wd
open Go Go.RowKit
set_option linter.unusedVariables false
set_option maxRecDepth 100000

/-- What is asked of the function that says what is less. -/
def LessC (lt : Nat → Nat → Bool) (RB RX n : Nat) (r : Nat → Rl) : Prop :=
  ∀ (W : World) (f : Nat → Nat) (i j : Nat), SoW W RB RX n r f → i < n → j < n →
    Calls Tryz.prog 36 #[.int .i64 (i : Int), .int .i64 (j : Int), .pointer (some ⟨RX, 0, none⟩)] W fun e w' => e = .returned (.bool (lt (f i) (f j))) ∧ Below W.heap.size W w'
abbrev boxO (RX sf : Nat) (sb : Array Value) : Obj := .cells #[.func (Fn.func 36) #[] #[.pointer (some ⟨RX, 0, none⟩)], .func (Fn.func sf) #[] sb] 110
section
variable {RB RX n sf : Nat} {sb : Array Value} {r : Nat → Rl} {lt : Nat → Nat → Bool}

theorem rot_any (hsw : SwapC sf sb RB RX n r) (hn : n ≤ 1099511627776) (a m b : Nat) (ham : a < m) (hmb : m < b) (hbn : b ≤ n) (W : World) (f : Nat → Nat) (hS : SoW W RB RX n r f) :
    Calls Tryz.prog 105 #[datV RX sf sb, .int .i64 (a : Int), .int .i64 (m : Int), .int .i64 (b : Int)] W fun e w' => e = .returned (.tuple #[]) ∧ SoW w' RB RX n r (rot f a m b) ∧ Mv a b f (rot f a m b) ∧ W.grownBy w' (some RB) := by
  have HC := Lib.hid (fun (i j k : Nat) (W : World) (g : Nat → Nat) (h1 : i + k ≤ j) (h2 : j + k ≤ n) (hS : SoW W RB RX n r g) => swr_any hsw hn i j k h1 h2 W g hS)
  have hlt := hS.lt
  have S0 := hS.alloc (boxO RX sf sb)
  clear hsw hS
  go_enter Tryz.func105, Tryz.ntmps105
  go_wp2
  have b0 : (W.alloc (boxO RX sf sb)).cell? ⟨W.heap.size, 0, none⟩ = some (.func (Fn.func 36) #[] #[.pointer (some ⟨RX, 0, none⟩)]) := by simp
  have b1 : (W.alloc (boxO RX sf sb)).cell? ⟨W.heap.size, 1, none⟩ = some (.func (Fn.func sf) #[] sb) := by simp
  have g0 : W.grownBy (W.alloc (boxO RX sf sb)) (some RB) := gb_alloc _ _ _
  generalize hW : World.alloc _ _ = W1 at *
  clear hW
  go_loopw [8, 9] (fun i j wr => ∃ (p q : Nat) (h : Nat → Nat), i = .int .i64 (p : Int) ∧ j = .int .i64 (q : Int) ∧ (0 < p ∧ 0 < q ∧ a + p ≤ m ∧ m + q ≤ b) ∧ SoW wr RB RX n r h ∧ Hid (rot h (m - p) m (m + q) = rot f a m b) ∧ Mv a b f h ∧ W1.grownBy wr (some RB)) (fun i j _ => (intOf i).toNat + (intOf j).toNat)
  case atStart =>
    refine ⟨m - a, b - m, f, by simp; omega, by simp; omega, by omega, S0, Lib.hid ?_, .refl, gb_refl _ _⟩
    rw [show m - (m - a) = a by omega, show m + (b - m) = b by omega]
  case round =>
    obtain ⟨p, q, h, rfl, rfl, ⟨p0, q0, pm, qb⟩, hS, hr, hm, hg⟩ := hrel
    have c0 := gb_cell hg (by omega) b0
    have c1 := gb_cell hg (by omega) b1
    rcases Nat.lt_trichotomy p q with hpq | hpq | hpq
    · have C := HC.out (m - p) (m + q - p) p wr h (by omega) (by omega) hS
      have e1 : ((m - p : Nat) : Int) = (m : Int) - (p : Int) := by omega
      have e2 : ((m + q - p : Nat) : Int) = (m : Int) + (q : Int) - (p : Int) := by omega
      rw [e1, e2] at C
      have M1 : Mv a b h (swr h (m - p) (m + q - p) p) := swr_mv _ _ _ _ _ _ (by omega) (by omega) (by omega)
      have R1 := Lib.hid (rot_less h m p q (by omega) hpq p0)
      have e3 : ((p : Int) != (q : Int)) = true := by simp; omega
      have e4 : ¬ (q : Int) < (p : Int) := by omega
      clear e1 e2 S0 b0 b1
      go_wp2_with (go_at_call 119; refine C.mono ?_; rintro e w2 ⟨rfl, hS2, hg2⟩)
      go_roundw
      case rel =>
        have G := gb_trans hg hg2
        clear C c0 c1 hg hg2 e3 e4 HC hS
        refine ⟨p, q - p, _, rfl, ?_, ⟨p0, by omega, pm, by omega⟩, hS2, Lib.hid (R1.out.trans hr.out), hm.trans M1, G⟩
        simp; omega
      case measure => simp [intOf]; omega
    · subst hpq
      have C := HC.out (m - p) m p wr h (by omega) (by omega) hS
      have e1 : ((m - p : Nat) : Int) = (m : Int) - (p : Int) := by omega
      rw [e1] at C
      have M1 : Mv a b h (swr h (m - p) m p) := swr_mv _ _ _ _ _ _ (by omega) (by omega) (by omega)
      have R1 := Lib.hid (rot_even h m p (by omega))
      have e3 : ((p : Int) != (p : Int)) = false := by simp
      clear e1 S0 b0 b1
      go_wp2_with (go_at_call 119; refine C.mono ?_; rintro e w2 ⟨rfl, hS2, hg2⟩)
      go_end0
      rw [R1.out, hr.out] at hS2 M1
      exact ⟨rfl, hS2, hm.trans M1, gb_trans g0 (gb_trans hg hg2)⟩
    · have C := HC.out (m - p) m q wr h (by omega) (by omega) hS
      have e1 : ((m - p : Nat) : Int) = (m : Int) - (p : Int) := by omega
      rw [e1] at C
      have M1 : Mv a b h (swr h (m - p) m q) := swr_mv _ _ _ _ _ _ (by omega) (by omega) (by omega)
      have R1 := Lib.hid (rot_more h m p q (by omega) hpq q0)
      have e3 : ((p : Int) != (q : Int)) = true := by simp; omega
      have e4 : (q : Int) < (p : Int) := by omega
      clear e1 S0 b0 b1
      go_wp2_with (go_at_call 119; refine C.mono ?_; rintro e w2 ⟨rfl, hS2, hg2⟩)
      go_roundw
      case rel =>
        have G := gb_trans hg hg2
        clear C c0 c1 hg hg2 e3 e4 HC hS
        refine ⟨p - q, q, _, ?_, rfl, ⟨by omega, q0, by omega, qb⟩, hS2, Lib.hid (R1.out.trans hr.out), hm.trans M1, G⟩
        simp; omega
      case measure => simp [intOf]; omega

theorem ins_any (O : Swo lt) (hsw : SwapC sf sb RB RX n r) (hls : LessC lt RB RX n r) (hn : n ≤ 1099511627776) (a b : Nat) (hab : a ≤ b) (hbn : b ≤ n) (W : World) (f : Nat → Nat) (hS : SoW W RB RX n r f) (hf : ∀ i j, a ≤ i → i < j → j < b → f i < f j) :
    Calls Tryz.prog 89 #[datV RX sf sb, .int .i64 (a : Int), .int .i64 (b : Int)] W fun e w' => e = .returned (.tuple #[]) ∧ (∃ g, SoW w' RB RX n r g ∧ Mv a b f g ∧ Srt lt a b g) ∧ W.grownBy w' (some RB) := by
  have HS := Lib.hid hsw
  have HL := Lib.hid hls
  have HF := Lib.hid hf
  have hlt := hS.lt
  have S0 := hS.alloc (boxO RX sf sb)
  clear hsw hls hf hS
  go_enter Tryz.func89, Tryz.ntmps89
  go_wp2
  have b0 : (W.alloc (boxO RX sf sb)).cell? ⟨W.heap.size, 0, none⟩ = some (.func (Fn.func 36) #[] #[.pointer (some ⟨RX, 0, none⟩)]) := by simp
  have b1 : (W.alloc (boxO RX sf sb)).cell? ⟨W.heap.size, 1, none⟩ = some (.func (Fn.func sf) #[] sb) := by simp
  have g0 : W.grownBy (W.alloc (boxO RX sf sb)) (some RB) := gb_alloc _ _ _
  generalize hW : World.alloc _ _ = W1 at *
  clear hW
  go_loopw [6] (fun i wr => ∃ (k : Nat) (g : Nat → Nat), i = .int .i64 (k : Int) ∧ (a + 1 ≤ k ∧ (k ≤ b ∨ k = a + 1)) ∧ SoW wr RB RX n r g ∧ Mv a (min k b) f g ∧ Srt lt a (min k b) g ∧ W1.grownBy wr (some RB)) (fun i _ => b - (intOf i).toNat)
  case atStart =>
    refine ⟨a + 1, f, by simp, by omega, S0, .refl, fun i j h1 h2 h3 => ?_, gb_refl _ _⟩
    omega
  case round =>
    obtain ⟨k, g, rfl, ⟨hk1, hk2⟩, hS, hm, hs, hg⟩ := hrel
    by_cases hkb : k < b
    · rw [show min k b = k by omega] at hm hs
      clear hk2 S0
      go_wp2
      go_loopw [7] (fun j wr => ∃ (q : Nat), j = .int .i64 (q : Int) ∧ (a ≤ q ∧ q ≤ k) ∧ SoW wr RB RX n r (ins g k q) ∧ Mv a (k + 1) g (ins g k q) ∧ Hid (∀ p, q ≤ p → p < k → lt (g k) (g p) = true) ∧ W1.grownBy wr (some RB)) (fun j _ => (intOf j).toNat)
      case atStart => exact ⟨k, rfl, by omega, by rw [ins_start]; exact hS, by rw [ins_start]; exact .refl, Lib.hid (fun p h1 h2 => by omega), hg⟩
      case round =>
        obtain ⟨q, rfl, ⟨hq1, hq2⟩, hS2, hm2, hlow, hg2⟩ := hrel
        have c0 := gb_cell hg2 (by omega) b0
        have c1 := gb_cell hg2 (by omega) b1
        have old : Hid (∀ p, a ≤ p → p < k → g p < g k) := Lib.hid (fun p h1 h2 => by
          obtain ⟨j, y1, y2, y3⟩ := hm.back p h1 h2
          rw [y3, hm.out k (by omega)]
          exact HF.out j k y1 y2 hkb)
        by_cases hqa : a < q
        · have e0 : (a : Int) < (q : Int) := by omega
          have C := HL.out wr (ins g k q) q (q - 1) hS2 (by omega) (by omega)
          have e1 : ((q - 1 : Nat) : Int) = (q : Int) - 1 := by omega
          have v1 : ins g k q q = g k := by unfold ins; rw [if_neg (by omega), if_pos rfl]
          have v2 : ins g k q (q - 1) = g (q - 1) := by unfold ins; rw [if_pos (by omega)]
          rw [e1, v1, v2] at C
          cases hl : lt (g k) (g (q - 1)) with
          | true =>
            rw [hl] at C
            have HLl := Lib.hid hl
            clear hl v1 v2
            have M2 := ins_step g k q (by omega) hq2 ▸ (Mv.xch q (q - 1) hm2 (by omega) (by omega) (by omega) (by omega))
            go_wp2_with (go_at_call 36; refine C.mono ?_; rintro e w2 ⟨rfl, kb⟩; obtain ⟨W', hrun, hS', hg'⟩ := HS.out w2 _ q (q - 1) (hS2.below kb) (by omega) (by omega) (by omega); rw [ins_step g k q (by omega) hq2] at hS'; rw [e1] at hrun; have d1 := celln kb c1; have d0 := celln kb c0; have G := gb_trans (gb_trans hg2 (gb_of kb)) hg'; clear c0 c1 C hS2 kb hg2 hm2 e1)
            go_roundw
            case rel =>
              refine ⟨q - 1, by simp; omega, by omega, hS', M2, Lib.hid (fun p h1 h2 => ?_), G⟩
              by_cases z : p = q - 1
              · rw [z]; exact HLl.out
              · exact hlow.out p (by omega) h2
            case measure => simp [intOf]; omega
          | false =>
            rw [hl] at C
            have HLl := Lib.hid hl
            clear hl v1 v2
            go_wp2_with (go_at_call 36; refine C.mono ?_; rintro e w2 ⟨rfl, kb⟩)
            go_roundw
            case rel =>
              refine ⟨k + 1, _, by go_num, by omega, hS2.below kb, ?_, ?_, gb_trans hg2 (gb_of kb)⟩
              · rw [show min (k + 1) b = k + 1 by omega]; exact (hm.mono (Nat.le_refl _) (by omega)).trans hm2
              · rw [show min (k + 1) b = k + 1 by omega]; exact ins_srt O hs (by omega) hq2 hlow.out (.inr ⟨HLl.out, old.out _ (by omega) (by omega)⟩)
            case measure => simp [intOf]; omega
        · have e0 : ¬ (a : Int) < (q : Int) := by omega
          go_wp2
          go_roundw
          case rel =>
            refine ⟨k + 1, _, by go_num, by omega, hS2, ?_, ?_, hg2⟩
            · rw [show min (k + 1) b = k + 1 by omega]; exact (hm.mono (Nat.le_refl _) (by omega)).trans hm2
            · rw [show min (k + 1) b = k + 1 by omega]; exact ins_srt O hs (by omega) hq2 hlow.out (.inl (by omega))
          case measure => simp [intOf]; omega
    · go_wp2
      go_end0
      rw [show min k b = b by omega] at hm hs
      exact ⟨rfl, ⟨g, hS, hm, hs⟩, gb_trans g0 hg⟩
end
end Go.Proofs.YtckaiejbgnhgcaaGreatDoor.Wd
namespace Go.Proofs.YtckaiejbgnhgcaaGreatDoor.Wd
open Go Go.RowKit
set_option linter.unusedVariables false
set_option maxRecDepth 100000

section
variable {RB RX n sf : Nat} {sb : Array Value} {r : Nat → Rl} {lt : Nat → Nat → Bool}

theorem sym_left (O : Swo lt) (hsw : SwapC sf sb RB RX n r) (hls : LessC lt RB RX n r) (hn : n ≤ 1099511627776) (a b : Nat) (hbn : b ≤ n) (W : World) (f : Nat → Nat) (hS : SoW W RB RX n r f) (hM : Mrg lt a (a + 1) b f) :
    Calls Tryz.prog 90 #[datV RX sf sb, .int .i64 (a : Int), .int .i64 ((a + 1 : Nat) : Int), .int .i64 (b : Int)] W fun e w' => e = .returned (.tuple #[]) ∧ (∃ g, SoW w' RB RX n r g ∧ Mv a b f g ∧ Srt lt a b g) ∧ W.grownBy w' (some RB) := by
  have HS := Lib.hid hsw
  have HL := Lib.hid hls
  have HM := Lib.hid hM
  have hmb := hM.mb
  have hlt := hS.lt
  have S0 := hS.alloc (boxO RX sf sb)
  clear hsw hls hM hS
  have e0 : ((a + 1 : Nat) : Int) = (a : Int) + 1 := by omega
  rw [e0]
  have ht : ((a : Int) + 1 - (a : Int) == 1) = true := by simp; omega
  go_enter Tryz.func90, Tryz.ntmps90
  go_wp2
  have b0 : (W.alloc (boxO RX sf sb)).cell? ⟨W.heap.size, 0, none⟩ = some (.func (Fn.func 36) #[] #[.pointer (some ⟨RX, 0, none⟩)]) := by simp
  have b1 : (W.alloc (boxO RX sf sb)).cell? ⟨W.heap.size, 1, none⟩ = some (.func (Fn.func sf) #[] sb) := by simp
  have g0 : W.grownBy (W.alloc (boxO RX sf sb)) (some RB) := gb_alloc _ _ _
  generalize hW : World.alloc _ _ = W1 at *
  clear hW
  go_loopw [8, 9] (fun i j wr => ∃ (p q : Nat), i = .int .i64 (p : Int) ∧ j = .int .i64 (q : Int) ∧ (a + 1 ≤ p ∧ p ≤ q ∧ q ≤ b) ∧ SoW wr RB RX n r f ∧ Hid (∀ k, a + 1 ≤ k → k < p → lt (f k) (f a) = true) ∧ Hid (∀ k, q ≤ k → k < b → lt (f k) (f a) = false) ∧ W1.grownBy wr (some RB)) (fun i j _ => (intOf j).toNat - (intOf i).toNat)
  case atStart => exact ⟨a + 1, b, by simp, rfl, by omega, S0, Lib.hid (fun k h1 h2 => by omega), Lib.hid (fun k h1 h2 => by omega), gb_refl _ _⟩
  case round =>
    obtain ⟨p, q, rfl, rfl, ⟨hp, hpq, hq⟩, hS, hlow, hup, hg⟩ := hrel
    have c0 := gb_cell hg (by omega) b0
    have c1 := gb_cell hg (by omega) b1
    clear S0
    by_cases hlt2 : p < q
    · have e1 : (p : Int) < (q : Int) := by omega
      have C := HL.out wr f ((p + q) / 2) a hS (by omega) (by omega)
      have e2 : (((p + q) / 2 : Nat) : Int) = ((p : Int) + (q : Int)) / 2 := by omega
      rw [e2] at C
      cases hl : lt (f ((p + q) / 2)) (f a) with
      | true =>
        rw [hl] at C
        have HLl := Lib.hid hl
        clear hl
        go_wp2_with (go_at_call 36; refine C.mono ?_; rintro e w2 ⟨rfl, kb⟩)
        go_roundw
        case rel =>
          refine ⟨(p + q) / 2 + 1, q, by go_num, rfl, by omega, hS.below kb, Lib.hid (fun k h1 h2 => ?_), hup, gb_trans hg (gb_of kb)⟩
          exact mrg_low O HM.out (Nat.le_refl _) (by omega) h1 (by omega) (by omega) HLl.out
        case measure => simp [intOf]; omega
      | false =>
        rw [hl] at C
        have HLl := Lib.hid hl
        clear hl
        go_wp2_with (go_at_call 36; refine C.mono ?_; rintro e w2 ⟨rfl, kb⟩)
        go_roundw
        case rel =>
          refine ⟨p, (p + q) / 2, rfl, by go_num, by omega, hS.below kb, hlow, Lib.hid (fun k h1 h2 => ?_), gb_trans hg (gb_of kb)⟩
          exact mrg_up O HM.out (Nat.le_refl _) (by omega) (by omega) h1 h2 HLl.out
        case measure => simp [intOf]; omega
    · obtain rfl : p = q := by omega
      clear c0 c1
      go_wp2
      go_loopw [11] (fun i wr => ∃ (k : Nat), i = .int .i64 (k : Int) ∧ (a ≤ k ∧ k + 1 ≤ p) ∧ SoW wr RB RX n r (mvr f a k) ∧ Mv a b f (mvr f a k) ∧ W1.grownBy wr (some RB)) (fun i _ => p - (intOf i).toNat)
      case atStart => exact ⟨a, rfl, by omega, by rw [mvr_start]; exact hS, by rw [mvr_start]; exact .refl, hg⟩
      case round =>
        obtain ⟨k, rfl, ⟨hk1, hk2⟩, hS2, hm2, hg2⟩ := hrel
        have c1 := gb_cell hg2 (by omega) b1
        by_cases hkp : k + 1 < p
        · obtain ⟨W', hrun, hS', hg'⟩ := HS.out wr _ k (k + 1) hS2 (by omega) (by omega) (by omega)
          rw [mvr_step f a k hk1] at hS'
          have e3 : ((k + 1 : Nat) : Int) = (k : Int) + 1 := by omega
          rw [e3] at hrun
          have M2 := mvr_step f a k hk1 ▸ (Mv.xch k (k + 1) hm2 (by omega) (by omega) (by omega) (by omega))
          have G := gb_trans hg2 hg'
          have e4 : (k : Int) < (p : Int) - 1 := by omega
          clear hS2 hg2 hm2 e3
          go_wp2
          go_roundw
          case rel => exact ⟨k + 1, by go_num, by omega, hS', M2, G⟩
          case measure => simp [intOf]; omega
        · have e4 : ¬ (k : Int) < (p : Int) - 1 := by omega
          go_wp2
          refine bodyPost_ret (results_none rfl _ _ _) rfl ?_
          refine ⟨rfl, ⟨_, hS2, hm2, two_one_left O HM.out (i := p) hp hq hlow.out hup.out ?_ ?_ ?_⟩, gb_trans g0 hg2⟩
          · intro j h1 h2; unfold mvr; rw [if_neg (by omega), if_pos (by omega)]
          · unfold mvr; rw [if_neg (by omega), if_neg (by omega), if_pos (by omega)]
          · intro j h1 h2; unfold mvr; rw [if_neg (by omega), if_neg (by omega), if_neg (by omega)]
theorem sym_right (O : Swo lt) (hsw : SwapC sf sb RB RX n r) (hls : LessC lt RB RX n r) (hn : n ≤ 1099511627776) (a m : Nat) (ham : a + 1 < m) (hbn : m + 1 ≤ n) (W : World) (f : Nat → Nat) (hS : SoW W RB RX n r f) (hM : Mrg lt a m (m + 1) f) :
    Calls Tryz.prog 90 #[datV RX sf sb, .int .i64 (a : Int), .int .i64 (m : Int), .int .i64 ((m + 1 : Nat) : Int)] W fun e w' => e = .returned (.tuple #[]) ∧ (∃ g, SoW w' RB RX n r g ∧ Mv a (m + 1) f g ∧ Srt lt a (m + 1) g) ∧ W.grownBy w' (some RB) := by
  have HS := Lib.hid hsw
  have HL := Lib.hid hls
  have HM := Lib.hid hM
  have hlt := hS.lt
  have S0 := hS.alloc (boxO RX sf sb)
  clear hsw hls hM hS
  have e0 : ((m + 1 : Nat) : Int) = (m : Int) + 1 := by omega
  rw [e0]
  have ht : ((m : Int) + 1 - (m : Int) == 1) = true := by simp; omega
  have hd : ((m : Int) - (a : Int) == 1) = false := by simp; omega
  go_enter Tryz.func90, Tryz.ntmps90
  go_wp2
  have b0 : (W.alloc (boxO RX sf sb)).cell? ⟨W.heap.size, 0, none⟩ = some (.func (Fn.func 36) #[] #[.pointer (some ⟨RX, 0, none⟩)]) := by simp
  have b1 : (W.alloc (boxO RX sf sb)).cell? ⟨W.heap.size, 1, none⟩ = some (.func (Fn.func sf) #[] sb) := by simp
  have g0 : W.grownBy (W.alloc (boxO RX sf sb)) (some RB) := gb_alloc _ _ _
  generalize hW : World.alloc _ _ = W1 at *
  clear hW
  go_loopw [12, 13] (fun i j wr => ∃ (p q : Nat), i = .int .i64 (p : Int) ∧ j = .int .i64 (q : Int) ∧ (a ≤ p ∧ p ≤ q ∧ q ≤ m) ∧ SoW wr RB RX n r f ∧ Hid (∀ k, a ≤ k → k < p → lt (f m) (f k) = false) ∧ Hid (∀ k, q ≤ k → k < m → lt (f m) (f k) = true) ∧ W1.grownBy wr (some RB)) (fun i j _ => (intOf j).toNat - (intOf i).toNat)
  case atStart => exact ⟨a, m, rfl, rfl, by omega, S0, Lib.hid (fun k h1 h2 => by omega), Lib.hid (fun k h1 h2 => by omega), gb_refl _ _⟩
  case round =>
    obtain ⟨p, q, rfl, rfl, ⟨hp, hpq, hq⟩, hS, hlow, hup, hg⟩ := hrel
    have c0 := gb_cell hg (by omega) b0
    have c1 := gb_cell hg (by omega) b1
    clear S0
    by_cases hlt2 : p < q
    · have e1 : (p : Int) < (q : Int) := by omega
      have C := HL.out wr f m ((p + q) / 2) hS (by omega) (by omega)
      have e2 : (((p + q) / 2 : Nat) : Int) = ((p : Int) + (q : Int)) / 2 := by omega
      rw [e2] at C
      cases hl : lt (f m) (f ((p + q) / 2)) with
      | true =>
        rw [hl] at C
        have HLl := Lib.hid hl
        clear hl
        go_wp2_with (go_at_call 36; refine C.mono ?_; rintro e w2 ⟨rfl, kb⟩)
        go_roundw
        case rel =>
          refine ⟨p, (p + q) / 2, rfl, by go_num, by omega, hS.below kb, hlow, Lib.hid (fun k h1 h2 => ?_), gb_trans hg (gb_of kb)⟩
          exact mrg_lefyes O HM.out (by omega) h1 h2 (Nat.le_refl _) (Nat.lt_succ_self m) HLl.out
        case measure => simp [intOf]; omega
      | false =>
        rw [hl] at C
        have HLl := Lib.hid hl
        clear hl
        go_wp2_with (go_at_call 36; refine C.mono ?_; rintro e w2 ⟨rfl, kb⟩)
        go_roundw
        case rel =>
          refine ⟨(p + q) / 2 + 1, q, by go_num, rfl, by omega, hS.below kb, Lib.hid (fun k h1 h2 => ?_), hup, gb_trans hg (gb_of kb)⟩
          exact mrg_lefno O HM.out h1 (by omega) (by omega) (Nat.le_refl _) (Nat.lt_succ_self m) HLl.out
        case measure => simp [intOf]; omega
    · obtain rfl : p = q := by omega
      clear c0 c1
      go_wp2
      go_loopw [15] (fun i wr => ∃ (k : Nat), i = .int .i64 (k : Int) ∧ (p ≤ k ∧ k ≤ m) ∧ SoW wr RB RX n r (ins f m k) ∧ Mv a (m + 1) f (ins f m k) ∧ W1.grownBy wr (some RB)) (fun i _ => (intOf i).toNat)
      case atStart => exact ⟨m, rfl, by omega, by rw [ins_start]; exact hS, by rw [ins_start]; exact .refl, hg⟩
      case round =>
        obtain ⟨k, rfl, ⟨hk1, hk2⟩, hS2, hm2, hg2⟩ := hrel
        have c1 := gb_cell hg2 (by omega) b1
        by_cases hkp : p < k
        · obtain ⟨W', hrun, hS', hg'⟩ := HS.out wr _ k (k - 1) hS2 (by omega) (by omega) (by omega)
          rw [ins_step f m k (by omega) hk2] at hS'
          have e3 : ((k - 1 : Nat) : Int) = (k : Int) - 1 := by omega
          rw [e3] at hrun
          have M2 := ins_step f m k (by omega) hk2 ▸ (Mv.xch k (k - 1) hm2 (by omega) (by omega) (by omega) (by omega))
          have G := gb_trans hg2 hg'
          have e4 : (p : Int) < (k : Int) := by omega
          clear hS2 hg2 hm2 e3
          go_wp2
          go_roundw
          case rel => exact ⟨k - 1, by simp; omega, by omega, hS', M2, G⟩
          case measure => simp [intOf]; omega
        · obtain rfl : p = k := by omega
          have e4 : ¬ (p : Int) < (p : Int) := by omega
          go_wp2
          refine bodyPost_ret (results_none rfl _ _ _) rfl ?_
          refine ⟨rfl, ⟨_, hS2, hm2, two_one_right O HM.out (i := p) hp hq hlow.out hup.out ?_ ?_ ?_⟩, gb_trans g0 hg2⟩
          · intro j h1 h2; unfold ins; rw [if_pos h2]
          · unfold ins; rw [if_neg (by omega), if_pos rfl]
          · intro j h1 h2; unfold ins; rw [if_neg (by omega), if_neg (by omega), if_pos h2]
end
end Go.Proofs.YtckaiejbgnhgcaaGreatDoor.Wd
namespace Go.Proofs.YtckaiejbgnhgcaaGreatDoor.Wd
open Go Go.RowKit
set_option linter.unusedVariables false
set_option maxRecDepth 100000

section
variable {RB RX n sf : Nat} {sb : Array Value} {r : Nat → Rl} {lt : Nat → Nat → Bool}

abbrev SymP (lt : Nat → Nat → Bool) (RB RX n sf : Nat) (sb : Array Value) (r : Nat → Rl) (a m b : Nat) (W : World) (f : Nat → Nat) : Prop :=
  Calls Tryz.prog 90 #[datV RX sf sb, .int .i64 (a : Int), .int .i64 (m : Int), .int .i64 (b : Int)] W fun e w' => e = .returned (.tuple #[]) ∧ (∃ g, SoW w' RB RX n r g ∧ Mv a b f g ∧ Srt lt a b g) ∧ W.grownBy w' (some RB)

set_option maxHeartbeats 1000000 in
/-- Both rows have more than one rule: the bounds lo and hi of the search, as they stand by then. -/
theorem sym_both (O : Swo lt) (hsw : SwapC sf sb RB RX n r) (hls : LessC lt RB RX n r) (hn : n ≤ 1099511627776) (a m b mid : Nat) (ham : a + 1 < m) (hmb : m + 1 < b) (hbn : b ≤ n) (hmid : (a + b) / 2 = mid)
    (ih : ∀ (a' m' b' : Nat) (W : World) (f : Nat → Nat), b' - a' < b - a → b' ≤ n → SoW W RB RX n r f → Mrg lt a' m' b' f → SymP lt RB RX n sf sb r a' m' b' W f)
    (W : World) (f : Nat → Nat) (hS : SoW W RB RX n r f) (hM : Mrg lt a m b f) : SymP lt RB RX n sf sb r a m b W f := by
  have HR := Lib.hid (fun (s e : Nat) (W : World) (g : Nat → Nat) (h1 : s < m) (h2 : m < e) (h3 : e ≤ n) (hS : SoW W RB RX n r g) => rot_any hsw hn s m e h1 h2 h3 W g hS)
  have HL := Lib.hid hls
  have HI := Lib.hid ih
  have HM := Lib.hid hM
  have hlt := hS.lt
  have S0 := hS.alloc (boxO RX sf sb)
  clear hsw hls hM hS ih
  have hd1 : ((m : Int) - (a : Int) == 1) = false := by simp; omega
  have hd2 : ((b : Int) - (m : Int) == 1) = false := by simp; omega
  have em : ((a : Int) + (b : Int)) / 2 = (mid : Int) := by omega
  obtain ⟨lo, hi, hb, hcase⟩ : ∃ lo hi : Nat, Hid (lo ≤ hi ∧ hi ≤ m ∧ hi ≤ mid ∧ a ≤ lo ∧ mid + m ≤ b + lo ∧ (lo = a ∨ mid + m = b + lo) ∧ (hi = m ∨ hi = mid)) ∧ ((mid < m ∧ (lo : Int) = (mid : Int) + (m : Int) - (b : Int) ∧ hi = mid) ∨ (¬ mid < m ∧ lo = a ∧ hi = m)) := by
    by_cases h : mid < m
    · exact ⟨mid + m - b, mid, Lib.hid (by omega), .inl ⟨h, by omega, rfl⟩⟩
    · exact ⟨a, m, Lib.hid (by omega), .inr ⟨h, rfl, rfl⟩⟩
  rcases hcase with ⟨hc, hlo, hhi⟩ | ⟨hc, hlo, hhi⟩
  · have hc1 : (mid : Int) < (m : Int) := by omega
    go_enter Tryz.func90, Tryz.ntmps90
    go_wp2_with fail
    have b0 : (W.alloc (boxO RX sf sb)).cell? ⟨W.heap.size, 0, none⟩ = some (.func (Fn.func 36) #[] #[.pointer (some ⟨RX, 0, none⟩)]) := by simp
    have b1 : (W.alloc (boxO RX sf sb)).cell? ⟨W.heap.size, 1, none⟩ = some (.func (Fn.func sf) #[] sb) := by simp
    have g0 : W.grownBy (W.alloc (boxO RX sf sb)) (some RB) := gb_alloc _ _ _
    generalize hW : World.alloc _ _ = W1 at *
    clear hW
    go_loopw [18, 19] (fun i j wr => ∃ (s q : Nat), i = .int .i64 (s : Int) ∧ j = .int .i64 (q : Int) ∧ (lo ≤ s ∧ s ≤ q ∧ q ≤ hi) ∧ SoW wr RB RX n r f ∧ Hid (s = lo ∨ lt (f (mid + m - s)) (f (s - 1)) = false) ∧ Hid (q = hi ∨ lt (f (mid + m - q - 1)) (f q) = true) ∧ W1.grownBy wr (some RB)) (fun i j _ => (intOf j).toNat - (intOf i).toNat)
    case atStart => exact ⟨lo, hi, by simp; omega, by simp; omega, by have := hb.out; omega, S0, Lib.hid (.inl rfl), Lib.hid (.inl rfl), gb_refl _ _⟩
    case round =>
      obtain ⟨s, q, rfl, rfl, ⟨hs, hsq, hq⟩, hS, hone, htwo, hg⟩ := hrel
      have c0 := gb_cell hg (by omega) b0
      have c1 := gb_cell hg (by omega) b1
      clear S0
      by_cases hlt2 : s < q
      · have e1 : (s : Int) < (q : Int) := by omega
        have hb2 := hb.out
        have C := HL.out wr f (mid + m - 1 - (s + q) / 2) ((s + q) / 2) hS (by omega) (by omega)
        have e2 : (((s + q) / 2 : Nat) : Int) = ((s : Int) + (q : Int)) / 2 := by omega
        have e3 : ((mid + m - 1 - (s + q) / 2 : Nat) : Int) = (mid : Int) + (m : Int) - 1 - ((s : Int) + (q : Int)) / 2 := by omega
        rw [e3, e2] at C
        clear hb2
        cases hl : lt (f (mid + m - 1 - (s + q) / 2)) (f ((s + q) / 2)) with
        | true =>
          rw [hl] at C
          have HLl := Lib.hid hl
          clear hl
          go_wp2_with (go_at_call 36; refine C.mono ?_; rintro e w2 ⟨rfl, kb⟩)
          go_roundw
          case rel =>
            refine ⟨s, (s + q) / 2, rfl, by go_num, by omega, hS.below kb, hone, Lib.hid (.inr ?_), gb_trans hg (gb_of kb)⟩
            have h := HLl.out
            rw [show mid + m - 1 - (s + q) / 2 = mid + m - (s + q) / 2 - 1 by omega] at h; exact h
          case measure => simp [intOf]; omega
        | false =>
          rw [hl] at C
          have HLl := Lib.hid hl
          clear hl
          go_wp2_with (go_at_call 36; refine C.mono ?_; rintro e w2 ⟨rfl, kb⟩)
          go_roundw
          case rel =>
            refine ⟨(s + q) / 2 + 1, q, by go_num, rfl, by omega, hS.below kb, Lib.hid (.inr ?_), htwo, gb_trans hg (gb_of kb)⟩
            have h := HLl.out
            rw [show mid + m - 1 - (s + q) / 2 = mid + m - ((s + q) / 2 + 1) by omega] at h; exact h
          case measure => simp [intOf]; omega
      · obtain rfl : s = q := by omega
        obtain ⟨e, he⟩ : ∃ e : Nat, e = mid + m - s := ⟨_, rfl⟩
        have CUT : Hid (Cut lt a m b mid s e f) := Lib.hid (by
          have hb2 := hb.out
          refine ⟨by omega, by omega, by omega, by omega, by omega, by omega, by omega, ?_, ?_⟩
          · rcases hone.out with h | h
            · omega
            · exact .inr (.inr (by rw [he]; exact h))
          · rcases htwo.out with h | h
            · omega
            · exact .inr (.inr (by rw [he]; exact h)))
        have hcs : a ≤ s ∧ s ≤ m ∧ m ≤ e ∧ e ≤ b ∧ s ≤ mid ∧ mid ≤ e := ⟨CUT.out.as_, CUT.out.sm, CUT.out.me, CUT.out.eb, CUT.out.smid, CUT.out.mide⟩
        have ee : (e : Int) = (mid : Int) + (m : Int) - (s : Int) := by omega
        have B0 := b0
        have B1 := b1
        clear c0 c1 hone htwo hb hlo hhi hs hq he b0 b1
        go_upto_region 40 with fail
        go_cut [145] from 138 to 145 (fun c wx => ∃ t : Bool, c = .bool t ∧ Hid (t = decide (s < m ∧ m < e)) ∧ wx = wr)
        case first =>
          rcases (by omega : (s < m ∧ m < e) ∨ ¬ s < m ∨ (s < m ∧ ¬ m < e)) with ⟨x, y⟩ | x | ⟨x, y⟩
          · have x1 : (s : Int) < (m : Int) := by omega
            have y1 : (m : Int) < (mid : Int) + (m : Int) - (s : Int) := by omega
            go_wp2
            go_meet
            case rel => exact ⟨true, rfl, Lib.hid (decide_eq_true ⟨x, y⟩).symm, rfl⟩
          · have x1 : ¬ (s : Int) < (m : Int) := by omega
            go_wp2
            go_meet
            case rel => exact ⟨false, rfl, Lib.hid (decide_eq_false (fun z => x z.1)).symm, rfl⟩
          · have x1 : (s : Int) < (m : Int) := by omega
            have y1 : ¬ (m : Int) < (mid : Int) + (m : Int) - (s : Int) := by omega
            go_wp2
            go_meet
            case rel => exact ⟨false, rfl, Lib.hid (decide_eq_false (fun z => y z.2)).symm, rfl⟩
        case rest =>
        obtain ⟨t, rfl, ht, rfl⟩ := hcut
        go_upto_if 145 with fail
        go_cut [] from 146 to 150 (fun wx => ∃ g, Hid (Rotd f g s m e) ∧ SoW wx RB RX n r g ∧ Mv a b f g ∧ W1.grownBy wx (some RB))
        case first =>
          have c0 := gb_cell hg (by omega) B0
          have c1 := gb_cell hg (by omega) B1
          cases t
          · have x : ¬ (s < m ∧ m < e) := of_decide_eq_false ht.out.symm
            go_wp2
            go_meet
            case rel => exact ⟨f, Lib.hid (rotd_none (by omega) (by omega) (by omega)), hS, .refl, hg⟩
          · have x : s < m ∧ m < e := of_decide_eq_true ht.out.symm
            have C := HR.out s e _ f x.1 x.2 (by omega) hS
            rw [ee] at C
            go_wp2_with (go_at_call 105; refine C.mono ?_; rintro e' w2 ⟨rfl, hS2, hm2, hg2⟩)
            go_meet
            case rel => exact ⟨_, Lib.hid (fun k => rfl), hS2, hm2.mono (by omega) (by omega), gb_trans hg hg2⟩
        case rest =>
        obtain ⟨g, hrot, hS1, hm1, hg1⟩ := hcut
        clear hS hg
        go_upto_region 42 with fail
        go_cut [158] from 151 to 158 (fun c wx => ∃ t : Bool, c = .bool t ∧ Hid (t = decide (a < s ∧ s < mid)) ∧ wx = wc)
        case first =>
          rcases (by omega : (a < s ∧ s < mid) ∨ ¬ a < s ∨ (a < s ∧ ¬ s < mid)) with ⟨x, y⟩ | x | ⟨x, y⟩
          · have x1 : (a : Int) < (s : Int) := by omega
            have y1 : (s : Int) < (mid : Int) := by omega
            go_wp2
            go_meet
            case rel => exact ⟨true, rfl, Lib.hid (decide_eq_true ⟨x, y⟩).symm, rfl⟩
          · have x1 : ¬ (a : Int) < (s : Int) := by omega
            go_wp2
            go_meet
            case rel => exact ⟨false, rfl, Lib.hid (decide_eq_false (fun z => x z.1)).symm, rfl⟩
          · have x1 : (a : Int) < (s : Int) := by omega
            have y1 : ¬ (s : Int) < (mid : Int) := by omega
            go_wp2
            go_meet
            case rel => exact ⟨false, rfl, Lib.hid (decide_eq_false (fun z => y z.2)).symm, rfl⟩
        case rest =>
        obtain ⟨t, rfl, ht, rfl⟩ := hcut
        go_upto_if 158 with fail
        go_cut [] from 159 to 163 (fun wx => ∃ g1, SoW wx RB RX n r g1 ∧ Mv a mid g g1 ∧ Srt lt a mid g1 ∧ W1.grownBy wx (some RB))
        case first =>
          have c0 := gb_cell hg1 (by omega) B0
          have c1 := gb_cell hg1 (by omega) B1
          have H1 := Lib.hid (half_one HM.out CUT.out hrot.out)
          cases t
          · have x : ¬ (a < s ∧ s < mid) := of_decide_eq_false ht.out.symm
            go_wp2
            go_meet
            case rel => exact ⟨g, hS1, .refl, H1.out.2 (by omega), hg1⟩
          · have x : a < s ∧ s < mid := of_decide_eq_true ht.out.symm
            have C := HI.out a s mid _ g (by omega) (by omega) hS1 (H1.out.1 x.1 x.2)
            go_wp2_with (go_at_call 90; refine C.mono ?_; rintro e' w2 ⟨rfl, ⟨g1, hS2, hm2, hs2⟩, hg2⟩)
            go_meet
            case rel => exact ⟨g1, hS2, hm2, hs2, gb_trans hg1 hg2⟩
        case rest =>
        obtain ⟨g1, hS2, hm2, hs2, hg2⟩ := hcut
        clear hS1 hg1
        have same : Hid (∀ k, mid ≤ k → k < b → g1 k = g k) := Lib.hid (fun k h1 h2 => hm2.out k (by omega))
        have END : Hid (∀ g2, Mv mid b g1 g2 → Srt lt mid b g2 → Mv a b f g2 ∧ Srt lt a b g2) := Lib.hid (fun g2 h1 h2 => ⟨(hm1.trans (hm2.mono (by omega) (by omega))).trans (h1.mono (by omega) (by omega)), halves O HM.out CUT.out hrot.out hm2 hs2 h1 h2⟩)
        go_upto_region 44 with fail
        go_cut [171] from 164 to 171 (fun c wx => ∃ t : Bool, c = .bool t ∧ Hid (t = decide (mid < e ∧ e < b)) ∧ wx = wc)
        case first =>
          rcases (by omega : (mid < e ∧ e < b) ∨ ¬ mid < e ∨ (mid < e ∧ ¬ e < b)) with ⟨x, y⟩ | x | ⟨x, y⟩
          · have x1 : (mid : Int) < (mid : Int) + (m : Int) - (s : Int) := by omega
            have y1 : (mid : Int) + (m : Int) - (s : Int) < (b : Int) := by omega
            go_wp2
            go_meet
            case rel => exact ⟨true, rfl, Lib.hid (decide_eq_true ⟨x, y⟩).symm, rfl⟩
          · have x1 : ¬ (mid : Int) < (mid : Int) + (m : Int) - (s : Int) := by omega
            go_wp2
            go_meet
            case rel => exact ⟨false, rfl, Lib.hid (decide_eq_false (fun z => x z.1)).symm, rfl⟩
          · have x1 : (mid : Int) < (mid : Int) + (m : Int) - (s : Int) := by omega
            have y1 : ¬ (mid : Int) + (m : Int) - (s : Int) < (b : Int) := by omega
            go_wp2
            go_meet
            case rel => exact ⟨false, rfl, Lib.hid (decide_eq_false (fun z => y z.2)).symm, rfl⟩
        case rest =>
        obtain ⟨t, rfl, ht, rfl⟩ := hcut
        have c0 := gb_cell hg2 (by omega) B0
        have c1 := gb_cell hg2 (by omega) B1
        have H2 := Lib.hid (half_two HM.out CUT.out hrot.out)
        cases t
        · have x : ¬ (mid < e ∧ e < b) := of_decide_eq_false ht.out.symm
          go_wp2
          go_end0
          exact ⟨rfl, ⟨g1, hS2, END.out g1 .refl ((H2.out.2 (by omega)).same same.out)⟩, gb_trans g0 hg2⟩
        · have x : mid < e ∧ e < b := of_decide_eq_true ht.out.symm
          have M2 := H2.out.1 x.1 x.2
          have C := HI.out mid e b _ g1 (by omega) (by omega) hS2 ⟨M2.am, M2.mb, M2.left.same (fun k h1 h2 => same.out k h1 (by omega)), M2.right.same (fun k h1 h2 => same.out k (by omega) h2), fun i j h1 h2 h3 h4 => by rw [same.out i h1 (by omega), same.out j (by omega) h4]; exact M2.old i j h1 h2 h3 h4⟩
          rw [SymP, ee] at C
          clear M2
          go_wp2_with (go_at_call 90; refine C.mono ?_; rintro e' w2 ⟨rfl, ⟨g2, hS3, hm3, hs3⟩, hg3⟩)
          go_end0
          exact ⟨rfl, ⟨g2, hS3, END.out g2 hm3 hs3⟩, gb_trans g0 (gb_trans hg2 hg3)⟩
  · have hc1 : ¬ (mid : Int) < (m : Int) := by omega
    go_enter Tryz.func90, Tryz.ntmps90
    go_wp2_with fail
    have b0 : (W.alloc (boxO RX sf sb)).cell? ⟨W.heap.size, 0, none⟩ = some (.func (Fn.func 36) #[] #[.pointer (some ⟨RX, 0, none⟩)]) := by simp
    have b1 : (W.alloc (boxO RX sf sb)).cell? ⟨W.heap.size, 1, none⟩ = some (.func (Fn.func sf) #[] sb) := by simp
    have g0 : W.grownBy (W.alloc (boxO RX sf sb)) (some RB) := gb_alloc _ _ _
    generalize hW : World.alloc _ _ = W1 at *
    clear hW
    go_loopw [18, 19] (fun i j wr => ∃ (s q : Nat), i = .int .i64 (s : Int) ∧ j = .int .i64 (q : Int) ∧ (lo ≤ s ∧ s ≤ q ∧ q ≤ hi) ∧ SoW wr RB RX n r f ∧ Hid (s = lo ∨ lt (f (mid + m - s)) (f (s - 1)) = false) ∧ Hid (q = hi ∨ lt (f (mid + m - q - 1)) (f q) = true) ∧ W1.grownBy wr (some RB)) (fun i j _ => (intOf j).toNat - (intOf i).toNat)
    case atStart => exact ⟨lo, hi, by simp; omega, by simp; omega, by have := hb.out; omega, S0, Lib.hid (.inl rfl), Lib.hid (.inl rfl), gb_refl _ _⟩
    case round =>
      obtain ⟨s, q, rfl, rfl, ⟨hs, hsq, hq⟩, hS, hone, htwo, hg⟩ := hrel
      have c0 := gb_cell hg (by omega) b0
      have c1 := gb_cell hg (by omega) b1
      clear S0
      by_cases hlt2 : s < q
      · have e1 : (s : Int) < (q : Int) := by omega
        have hb2 := hb.out
        have C := HL.out wr f (mid + m - 1 - (s + q) / 2) ((s + q) / 2) hS (by omega) (by omega)
        have e2 : (((s + q) / 2 : Nat) : Int) = ((s : Int) + (q : Int)) / 2 := by omega
        have e3 : ((mid + m - 1 - (s + q) / 2 : Nat) : Int) = (mid : Int) + (m : Int) - 1 - ((s : Int) + (q : Int)) / 2 := by omega
        rw [e3, e2] at C
        clear hb2
        cases hl : lt (f (mid + m - 1 - (s + q) / 2)) (f ((s + q) / 2)) with
        | true =>
          rw [hl] at C
          have HLl := Lib.hid hl
          clear hl
          go_wp2_with (go_at_call 36; refine C.mono ?_; rintro e w2 ⟨rfl, kb⟩)
          go_roundw
          case rel =>
            refine ⟨s, (s + q) / 2, rfl, by go_num, by omega, hS.below kb, hone, Lib.hid (.inr ?_), gb_trans hg (gb_of kb)⟩
            have h := HLl.out
            rw [show mid + m - 1 - (s + q) / 2 = mid + m - (s + q) / 2 - 1 by omega] at h; exact h
          case measure => simp [intOf]; omega
        | false =>
          rw [hl] at C
          have HLl := Lib.hid hl
          clear hl
          go_wp2_with (go_at_call 36; refine C.mono ?_; rintro e w2 ⟨rfl, kb⟩)
          go_roundw
          case rel =>
            refine ⟨(s + q) / 2 + 1, q, by go_num, rfl, by omega, hS.below kb, Lib.hid (.inr ?_), htwo, gb_trans hg (gb_of kb)⟩
            have h := HLl.out
            rw [show mid + m - 1 - (s + q) / 2 = mid + m - ((s + q) / 2 + 1) by omega] at h; exact h
          case measure => simp [intOf]; omega
      · obtain rfl : s = q := by omega
        obtain ⟨e, he⟩ : ∃ e : Nat, e = mid + m - s := ⟨_, rfl⟩
        have CUT : Hid (Cut lt a m b mid s e f) := Lib.hid (by
          have hb2 := hb.out
          refine ⟨by omega, by omega, by omega, by omega, by omega, by omega, by omega, ?_, ?_⟩
          · rcases hone.out with h | h
            · omega
            · exact .inr (.inr (by rw [he]; exact h))
          · rcases htwo.out with h | h
            · omega
            · exact .inr (.inr (by rw [he]; exact h)))
        have hcs : a ≤ s ∧ s ≤ m ∧ m ≤ e ∧ e ≤ b ∧ s ≤ mid ∧ mid ≤ e := ⟨CUT.out.as_, CUT.out.sm, CUT.out.me, CUT.out.eb, CUT.out.smid, CUT.out.mide⟩
        have ee : (e : Int) = (mid : Int) + (m : Int) - (s : Int) := by omega
        have B0 := b0
        have B1 := b1
        clear c0 c1 hone htwo hb hlo hhi hs hq he b0 b1
        go_upto_region 40 with fail
        go_cut [145] from 138 to 145 (fun c wx => ∃ t : Bool, c = .bool t ∧ Hid (t = decide (s < m ∧ m < e)) ∧ wx = wr)
        case first =>
          rcases (by omega : (s < m ∧ m < e) ∨ ¬ s < m ∨ (s < m ∧ ¬ m < e)) with ⟨x, y⟩ | x | ⟨x, y⟩
          · have x1 : (s : Int) < (m : Int) := by omega
            have y1 : (m : Int) < (mid : Int) + (m : Int) - (s : Int) := by omega
            go_wp2
            go_meet
            case rel => exact ⟨true, rfl, Lib.hid (decide_eq_true ⟨x, y⟩).symm, rfl⟩
          · have x1 : ¬ (s : Int) < (m : Int) := by omega
            go_wp2
            go_meet
            case rel => exact ⟨false, rfl, Lib.hid (decide_eq_false (fun z => x z.1)).symm, rfl⟩
          · have x1 : (s : Int) < (m : Int) := by omega
            have y1 : ¬ (m : Int) < (mid : Int) + (m : Int) - (s : Int) := by omega
            go_wp2
            go_meet
            case rel => exact ⟨false, rfl, Lib.hid (decide_eq_false (fun z => y z.2)).symm, rfl⟩
        case rest =>
        obtain ⟨t, rfl, ht, rfl⟩ := hcut
        go_upto_if 145 with fail
        go_cut [] from 146 to 150 (fun wx => ∃ g, Hid (Rotd f g s m e) ∧ SoW wx RB RX n r g ∧ Mv a b f g ∧ W1.grownBy wx (some RB))
        case first =>
          have c0 := gb_cell hg (by omega) B0
          have c1 := gb_cell hg (by omega) B1
          cases t
          · have x : ¬ (s < m ∧ m < e) := of_decide_eq_false ht.out.symm
            go_wp2
            go_meet
            case rel => exact ⟨f, Lib.hid (rotd_none (by omega) (by omega) (by omega)), hS, .refl, hg⟩
          · have x : s < m ∧ m < e := of_decide_eq_true ht.out.symm
            have C := HR.out s e _ f x.1 x.2 (by omega) hS
            rw [ee] at C
            go_wp2_with (go_at_call 105; refine C.mono ?_; rintro e' w2 ⟨rfl, hS2, hm2, hg2⟩)
            go_meet
            case rel => exact ⟨_, Lib.hid (fun k => rfl), hS2, hm2.mono (by omega) (by omega), gb_trans hg hg2⟩
        case rest =>
        obtain ⟨g, hrot, hS1, hm1, hg1⟩ := hcut
        clear hS hg
        go_upto_region 42 with fail
        go_cut [158] from 151 to 158 (fun c wx => ∃ t : Bool, c = .bool t ∧ Hid (t = decide (a < s ∧ s < mid)) ∧ wx = wc)
        case first =>
          rcases (by omega : (a < s ∧ s < mid) ∨ ¬ a < s ∨ (a < s ∧ ¬ s < mid)) with ⟨x, y⟩ | x | ⟨x, y⟩
          · have x1 : (a : Int) < (s : Int) := by omega
            have y1 : (s : Int) < (mid : Int) := by omega
            go_wp2
            go_meet
            case rel => exact ⟨true, rfl, Lib.hid (decide_eq_true ⟨x, y⟩).symm, rfl⟩
          · have x1 : ¬ (a : Int) < (s : Int) := by omega
            go_wp2
            go_meet
            case rel => exact ⟨false, rfl, Lib.hid (decide_eq_false (fun z => x z.1)).symm, rfl⟩
          · have x1 : (a : Int) < (s : Int) := by omega
            have y1 : ¬ (s : Int) < (mid : Int) := by omega
            go_wp2
            go_meet
            case rel => exact ⟨false, rfl, Lib.hid (decide_eq_false (fun z => y z.2)).symm, rfl⟩
        case rest =>
        obtain ⟨t, rfl, ht, rfl⟩ := hcut
        go_upto_if 158 with fail
        go_cut [] from 159 to 163 (fun wx => ∃ g1, SoW wx RB RX n r g1 ∧ Mv a mid g g1 ∧ Srt lt a mid g1 ∧ W1.grownBy wx (some RB))
        case first =>
          have c0 := gb_cell hg1 (by omega) B0
          have c1 := gb_cell hg1 (by omega) B1
          have H1 := Lib.hid (half_one HM.out CUT.out hrot.out)
          cases t
          · have x : ¬ (a < s ∧ s < mid) := of_decide_eq_false ht.out.symm
            go_wp2
            go_meet
            case rel => exact ⟨g, hS1, .refl, H1.out.2 (by omega), hg1⟩
          · have x : a < s ∧ s < mid := of_decide_eq_true ht.out.symm
            have C := HI.out a s mid _ g (by omega) (by omega) hS1 (H1.out.1 x.1 x.2)
            go_wp2_with (go_at_call 90; refine C.mono ?_; rintro e' w2 ⟨rfl, ⟨g1, hS2, hm2, hs2⟩, hg2⟩)
            go_meet
            case rel => exact ⟨g1, hS2, hm2, hs2, gb_trans hg1 hg2⟩
        case rest =>
        obtain ⟨g1, hS2, hm2, hs2, hg2⟩ := hcut
        clear hS1 hg1
        have same : Hid (∀ k, mid ≤ k → k < b → g1 k = g k) := Lib.hid (fun k h1 h2 => hm2.out k (by omega))
        have END : Hid (∀ g2, Mv mid b g1 g2 → Srt lt mid b g2 → Mv a b f g2 ∧ Srt lt a b g2) := Lib.hid (fun g2 h1 h2 => ⟨(hm1.trans (hm2.mono (by omega) (by omega))).trans (h1.mono (by omega) (by omega)), halves O HM.out CUT.out hrot.out hm2 hs2 h1 h2⟩)
        go_upto_region 44 with fail
        go_cut [171] from 164 to 171 (fun c wx => ∃ t : Bool, c = .bool t ∧ Hid (t = decide (mid < e ∧ e < b)) ∧ wx = wc)
        case first =>
          rcases (by omega : (mid < e ∧ e < b) ∨ ¬ mid < e ∨ (mid < e ∧ ¬ e < b)) with ⟨x, y⟩ | x | ⟨x, y⟩
          · have x1 : (mid : Int) < (mid : Int) + (m : Int) - (s : Int) := by omega
            have y1 : (mid : Int) + (m : Int) - (s : Int) < (b : Int) := by omega
            go_wp2
            go_meet
            case rel => exact ⟨true, rfl, Lib.hid (decide_eq_true ⟨x, y⟩).symm, rfl⟩
          · have x1 : ¬ (mid : Int) < (mid : Int) + (m : Int) - (s : Int) := by omega
            go_wp2
            go_meet
            case rel => exact ⟨false, rfl, Lib.hid (decide_eq_false (fun z => x z.1)).symm, rfl⟩
          · have x1 : (mid : Int) < (mid : Int) + (m : Int) - (s : Int) := by omega
            have y1 : ¬ (mid : Int) + (m : Int) - (s : Int) < (b : Int) := by omega
            go_wp2
            go_meet
            case rel => exact ⟨false, rfl, Lib.hid (decide_eq_false (fun z => y z.2)).symm, rfl⟩
        case rest =>
        obtain ⟨t, rfl, ht, rfl⟩ := hcut
        have c0 := gb_cell hg2 (by omega) B0
        have c1 := gb_cell hg2 (by omega) B1
        have H2 := Lib.hid (half_two HM.out CUT.out hrot.out)
        cases t
        · have x : ¬ (mid < e ∧ e < b) := of_decide_eq_false ht.out.symm
          go_wp2
          go_end0
          exact ⟨rfl, ⟨g1, hS2, END.out g1 .refl ((H2.out.2 (by omega)).same same.out)⟩, gb_trans g0 hg2⟩
        · have x : mid < e ∧ e < b := of_decide_eq_true ht.out.symm
          have M2 := H2.out.1 x.1 x.2
          have C := HI.out mid e b _ g1 (by omega) (by omega) hS2 ⟨M2.am, M2.mb, M2.left.same (fun k h1 h2 => same.out k h1 (by omega)), M2.right.same (fun k h1 h2 => same.out k (by omega) h2), fun i j h1 h2 h3 h4 => by rw [same.out i h1 (by omega), same.out j (by omega) h4]; exact M2.old i j h1 h2 h3 h4⟩
          rw [SymP, ee] at C
          clear M2
          go_wp2_with (go_at_call 90; refine C.mono ?_; rintro e' w2 ⟨rfl, ⟨g2, hS3, hm3, hs3⟩, hg3⟩)
          go_end0
          exact ⟨rfl, ⟨g2, hS3, END.out g2 hm3 hs3⟩, gb_trans g0 (gb_trans hg2 hg3)⟩
end
end Go.Proofs.YtckaiejbgnhgcaaGreatDoor.Wd
namespace Go.Proofs.YtckaiejbgnhgcaaGreatDoor.Wd
open Go Go.RowKit
set_option linter.unusedVariables false
set_option maxRecDepth 100000

theorem mul_gap {s p q : Nat} (hp : s ∣ p) (hq : s ∣ q) (h1 : p < q) : p + s ≤ q := by
  obtain ⟨x, rfl⟩ := hp
  obtain ⟨y, rfl⟩ := hq
  have hxy : x + 1 ≤ y := by
    by_cases h : x + 1 ≤ y
    · exact h
    · have := Nat.mul_le_mul_left s (show y ≤ x by omega); omega
  have := Nat.mul_le_mul_left s hxy
  rw [Nat.mul_add, Nat.mul_one] at this
  exact this
theorem two_dvd {s q : Nat} (h : 2 * s ∣ q) : s ∣ q := Nat.dvd_trans (Nat.dvd_mul_left s 2) h
theorem dvd_more {s p : Nat} (h : s ∣ p) : s ∣ p + s := Nat.dvd_add h (Nat.dvd_refl s)
theorem dvd_more2 {s p : Nat} (h : 2 * s ∣ p) : 2 * s ∣ p + 2 * s := Nat.dvd_add h (Nat.dvd_refl _)
/-- The bounds of blocks of s, those up to p merged by twos. -/
abbrev Bd (s p q : Nat) : Prop := s ∣ q ∧ (q ≤ p → 2 * s ∣ q)
theorem bd_start (s q : Nat) (h : 0 < q) : s ∣ q ↔ Bd s 0 q := ⟨fun x => ⟨x, fun y => by omega⟩, fun x => x.1⟩
theorem bd_step {s p q : Nat} (h0 : 0 < s) (hp : 2 * s ∣ p) : (Bd s p q ∧ ¬ (p < q ∧ q < p + 2 * s)) ↔ Bd s (p + 2 * s) q := by
  constructor
  · rintro ⟨⟨h1, h2⟩, h3⟩
    refine ⟨h1, fun h => ?_⟩
    by_cases c : q ≤ p
    · exact h2 c
    · rw [show q = p + 2 * s by omega]; exact dvd_more2 hp
  · rintro ⟨h1, h2⟩
    refine ⟨⟨h1, fun h => h2 (by omega)⟩, fun ⟨x, y⟩ => ?_⟩
    have := mul_gap hp (h2 (by omega)) x
    omega
theorem bd_pair {s p q : Nat} (h0 : 0 < s) (hp : 2 * s ∣ p) (h1 : p < q) (h2 : q < p + 2 * s) (h3 : q ≠ p + s) : ¬ Bd s p q := by
  rintro ⟨x, _⟩
  have g1 := mul_gap (two_dvd hp) x h1
  have g2 := mul_gap (dvd_more (two_dvd hp)) x (by omega)
  omega
theorem bd_end {s p q n : Nat} (h0 : 0 < s) (hp : 2 * s ∣ p) (hn : n < p + 2 * s) (hq : q < n) : (Bd s p q ∧ ¬ (p < q ∧ q < n)) ↔ 2 * s ∣ q := by
  constructor
  · rintro ⟨⟨h1, h2⟩, h3⟩
    exact h2 (by omega)
  · intro h
    refine ⟨⟨two_dvd h, fun _ => h⟩, fun ⟨x, y⟩ => ?_⟩
    have := mul_gap hp h x
    omega
theorem bd_last {s p q n : Nat} (h0 : 0 < s) (hp : 2 * s ∣ p) (hn : n ≤ p + s) (hq : q < n) : Bd s p q ↔ 2 * s ∣ q := by
  constructor
  · rintro ⟨h1, h2⟩
    by_cases c : q ≤ p
    · exact h2 c
    · have := mul_gap (two_dvd hp) h1 (by omega); omega
  · exact fun h => ⟨two_dvd h, fun _ => h⟩

section
variable {RB RX n sf : Nat} {sb : Array Value} {r : Nat → Rl} {lt : Nat → Nat → Bool}

theorem sym_any (O : Swo lt) (hsw : SwapC sf sb RB RX n r) (hls : LessC lt RB RX n r) (hn : n ≤ 1099511627776) : ∀ (N a m b : Nat) (W : World) (f : Nat → Nat), b - a ≤ N → b ≤ n → SoW W RB RX n r f → Mrg lt a m b f → SymP lt RB RX n sf sb r a m b W f := by
  intro N
  induction N with
  | zero => intro a m b W f h _ _ hM; have := hM.am; have := hM.mb; omega
  | succ N ih =>
    intro a m b W f h hb hS hM
    have := hM.am; have := hM.mb
    by_cases c : m = a + 1
    · subst c; exact sym_left O hsw hls hn a b hb W f hS hM
    · by_cases d : b = m + 1
      · subst d; exact sym_right O hsw hls hn a m (by omega) hb W f hS hM
      · exact sym_both O hsw hls hn a m b _ (by omega) (by omega) hb rfl (fun a' m' b' W f h' h'' => ih a' m' b' W f (by omega) h'') W f hS hM

set_option maxHeartbeats 1000000 in
theorem stable_any (O : Swo lt) (hsw : SwapC sf sb RB RX n r) (hls : LessC lt RB RX n r) (hn : n ≤ 1099511627776) (W : World) (f : Nat → Nat) (hS : SoW W RB RX n r f) (hf : ∀ i j, i < j → j < n → f i < f j) :
    Calls Tryz.prog 58 #[datV RX sf sb, .int .i64 (n : Int)] W fun e w' => e = .returned (.tuple #[]) ∧ (∃ g, SoW w' RB RX n r g ∧ Mv 0 n f g ∧ Srt lt 0 n g) ∧ W.grownBy w' (some RB) := by
  have HI := Lib.hid (fun (a b : Nat) (W : World) (f : Nat → Nat) (hab : a ≤ b) (hbn : b ≤ n) (hS : SoW W RB RX n r f) (hf : ∀ i j, a ≤ i → i < j → j < b → f i < f j) => ins_any O hsw hls hn a b hab hbn W f hS hf)
  have HM := Lib.hid (fun (a m b : Nat) (W : World) (f : Nat → Nat) (hbn : b ≤ n) (hS : SoW W RB RX n r f) (hM : Mrg lt a m b f) => sym_any O hsw hls hn (b - a) a m b W f (Nat.le_refl _) hbn hS hM)
  have HF := Lib.hid hf
  have hlt := hS.lt
  have S0 := hS.alloc (boxO RX sf sb)
  clear hsw hls hf hS
  go_enter Tryz.func58, Tryz.ntmps58
  go_wp2
  have b0 : (W.alloc (boxO RX sf sb)).cell? ⟨W.heap.size, 0, none⟩ = some (.func (Fn.func 36) #[] #[.pointer (some ⟨RX, 0, none⟩)]) := by simp
  have b1 : (W.alloc (boxO RX sf sb)).cell? ⟨W.heap.size, 1, none⟩ = some (.func (Fn.func sf) #[] sb) := by simp
  have g0 : W.grownBy (W.alloc (boxO RX sf sb)) (some RB) := gb_alloc _ _ _
  generalize hW : World.alloc _ _ = W1 at *
  clear hW
  go_loopw [5, 6] (fun i j wr => ∃ (p : Nat) (g : Nat → Nat), i = .int .i64 (p : Int) ∧ j = .int .i64 ((p : Int) + 20) ∧ (p % 20 = 0 ∧ p ≤ n) ∧ SoW wr RB RX n r g ∧ Mv 0 n f g ∧ Blk lt (fun q => q ≤ p → q % 20 = 0) n g ∧ W1.grownBy wr (some RB)) (fun i _ _ => n - (intOf i).toNat)
  case atStart => exact ⟨0, f, rfl, rfl, by omega, S0, .refl, Blk.start (fun q h1 h2 h3 => by omega) HF.out, gb_refl _ _⟩
  case round =>
    obtain ⟨p, g, rfl, rfl, ⟨hp1, hp2⟩, hS, hm, hB, hg⟩ := hrel
    have c0 := gb_cell hg (by omega) b0
    have c1 := gb_cell hg (by omega) b1
    have inc : Hid (∀ i j, p ≤ i → i < j → j < n → g i < g j) := Lib.hid (fun i j h1 h2 h3 => (hB i j h2 h3).2 ⟨j, h2, Nat.le_refl _, fun x => by omega⟩)
    by_cases hpn : p + 20 ≤ n
    · have C := HI.out p (p + 20) wr g (by omega) hpn hS (fun i j h1 h2 h3 => inc.out i j h1 h2 (by omega))
      have e1 : ((p + 20 : Nat) : Int) = (p : Int) + 20 := by omega
      rw [e1] at C
      have x1 : (p : Int) + 20 ≤ (n : Int) := by omega
      have J := Lib.hid (fun (g2 : Nat → Nat) (h1 : Mv p (p + 20) g g2) (h2 : Srt lt p (p + 20) g2) => (hB.join (.inr (fun _ => hp1)) (.inr (fun x => by omega)) hpn h1 h2).iff (C := fun q => q ≤ p + 20 → q % 20 = 0) (fun q _ _ => by omega))
      clear S0 e1
      go_wp2_with (go_at_call 89; refine C.mono ?_; rintro e w2 ⟨rfl, ⟨g2, hS2, hm2, hs2⟩, hg2⟩)
      go_roundw
      case rel =>
        refine ⟨p + 20, g2, by go_num, by go_num, by omega, hS2, hm.trans (hm2.mono (by omega) (by omega)), J.out g2 hm2 hs2, gb_trans hg hg2⟩
      case measure => simp [intOf]; omega
    · have C := HI.out p n wr g hp2 (Nat.le_refl _) hS (fun i j h1 h2 h3 => inc.out i j h1 h2 h3)
      have x1 : ¬ (p : Int) + 20 ≤ (n : Int) := by omega
      have J := Lib.hid (fun (g2 : Nat → Nat) (h1 : Mv p n g g2) (h2 : Srt lt p n g2) => (hB.join (.inr (fun _ => hp1)) (.inl rfl) (Nat.le_refl _) h1 h2).iff (C := fun q => 20 ∣ q) (fun q _ _ => by omega))
      have B0 := b0
      have B1 := b1
      have G0 := g0
      clear S0
      go_wp2_with (go_at_call 89; refine C.mono ?_; rintro e w2 ⟨rfl, ⟨g2, hS2, hm2, hs2⟩, hg2⟩)
      have J2 := J.out g2 hm2 hs2
      have M2 := hm.trans (hm2.mono (by omega) (Nat.le_refl _))
      have G2 := gb_trans hg hg2
      clear J C c0 c1 hg hg2 hm2 hs2 hS hm hB inc b0 b1 g0 x1
      go_loopw [4] (fun i wr => ∃ (s : Nat) (g : Nat → Nat), i = .int .i64 (s : Int) ∧ (20 ≤ s ∧ s ≤ 2199023255552) ∧ SoW wr RB RX n r g ∧ Mv 0 n f g ∧ Hid (Blk lt (fun q => s ∣ q) n g) ∧ W1.grownBy wr (some RB)) (fun i _ => n - (intOf i).toNat)
      case atStart => exact ⟨20, g2, rfl, by omega, hS2, M2, Lib.hid J2, G2⟩
      case round =>
        clear hS2 M2 J2 G2 hp1 hp2 hpn
        obtain ⟨s, g, rfl, ⟨hs1, hs2⟩, hS, hm, hB, hg⟩ := hrel
        by_cases hsn : s < n
        · have x1 : (s : Int) < (n : Int) := by omega
          go_wp2
          go_loopw [5, 6] (fun i j wr => ∃ (p : Nat) (g : Nat → Nat), i = .int .i64 (p : Int) ∧ j = .int .i64 ((p : Int) + 2 * (s : Int)) ∧ p ≤ n ∧ Hid (2 * s ∣ p) ∧ SoW wr RB RX n r g ∧ Mv 0 n f g ∧ Hid (Blk lt (Bd s p) n g) ∧ W1.grownBy wr (some RB)) (fun i _ _ => n - (intOf i).toNat)
          case atStart => exact ⟨0, g, rfl, by simp, Nat.zero_le _, Lib.hid (Nat.dvd_zero _), hS, hm, Lib.hid (hB.out.iff (fun q h _ => bd_start s q h)), hg⟩
          case round =>
            clear hS hm hB hg
            obtain ⟨p, g, rfl, rfl, hpn, hp, hS, hm, hB, hg⟩ := hrel
            have c0 := gb_cell hg (by omega) B0
            have c1 := gb_cell hg (by omega) B1
            by_cases hb : p + 2 * s ≤ n
            · have C := HM.out p (p + s) (p + 2 * s) wr g hb hS (hB.out.pair (by omega) (by omega) hb ⟨dvd_more (two_dvd hp.out), fun h => by omega⟩ (fun q h1 h2 h3 => bd_pair (by omega) hp.out h1 h2 h3))
              have e1 : ((p + s : Nat) : Int) = (p : Int) + (s : Int) := by omega
              have e2 : ((p + 2 * s : Nat) : Int) = (p : Int) + 2 * (s : Int) := by omega
              rw [SymP, e1, e2] at C
              have x2 : (p : Int) + 2 * (s : Int) ≤ (n : Int) := by omega
              have J := Lib.hid (fun (g2 : Nat → Nat) (h1 : Mv p (p + 2 * s) g g2) (h2 : Srt lt p (p + 2 * s) g2) => (hB.out.join (.inr ⟨two_dvd hp.out, fun _ => hp.out⟩) (.inr ⟨two_dvd (dvd_more2 hp.out), fun h => by omega⟩) hb h1 h2).iff (C := Bd s (p + 2 * s)) (fun q _ _ => bd_step (by omega) hp.out))
              clear e1 e2
              go_wp2_with (go_at_call 90; refine C.mono ?_; rintro e w2 ⟨rfl, ⟨g2, hS2, hm2, hs2⟩, hg2⟩)
              go_roundw
              case rel =>
                refine ⟨p + 2 * s, g2, by go_num, by go_num, by omega, Lib.hid (dvd_more2 hp.out), hS2, hm.trans (hm2.mono (by omega) (by omega)), Lib.hid (J.out g2 hm2 hs2), gb_trans hg hg2⟩
              case measure => simp [intOf]; omega
            · have x2 : ¬ (p : Int) + 2 * (s : Int) ≤ (n : Int) := by omega
              by_cases hms : p + s < n
              · have C := HM.out p (p + s) n wr g (Nat.le_refl _) hS (hB.out.pair (by omega) hms (Nat.le_refl _) ⟨dvd_more (two_dvd hp.out), fun h => by omega⟩ (fun q h1 h2 h3 => bd_pair (by omega) hp.out h1 (by omega) h3))
                have e1 : ((p + s : Nat) : Int) = (p : Int) + (s : Int) := by omega
                rw [SymP, e1] at C
                have x3 : (p : Int) + (s : Int) < (n : Int) := by omega
                have J := Lib.hid (fun (g2 : Nat → Nat) (h1 : Mv p n g g2) (h2 : Srt lt p n g2) => (hB.out.join (.inr ⟨two_dvd hp.out, fun _ => hp.out⟩) (.inl rfl) (Nat.le_refl _) h1 h2).iff (C := fun q => 2 * s ∣ q) (fun q _ h => bd_end (by omega) hp.out (by omega) h))
                clear e1
                go_wp2_with (go_at_call 90; refine C.mono ?_; rintro e w2 ⟨rfl, ⟨g2, hS2, hm2, hs2⟩, hg2⟩)
                go_roundw
                case rel =>
                  refine ⟨2 * s, g2, by go_num, by omega, hS2, hm.trans (hm2.mono (by omega) (Nat.le_refl _)), Lib.hid (J.out g2 hm2 hs2), gb_trans hg hg2⟩
                case measure => simp [intOf]; omega
              · have x3 : ¬ (p : Int) + (s : Int) < (n : Int) := by omega
                go_wp2
                go_roundw
                case rel =>
                  refine ⟨2 * s, g, by go_num, by omega, hS, hm, Lib.hid (hB.out.iff (fun q _ h => bd_last (by omega) hp.out (by omega) h)), hg⟩
                case measure => simp [intOf]; omega
        · have x1 : ¬ (s : Int) < (n : Int) := by omega
          go_wp2
          go_end0
          exact ⟨rfl, ⟨g, hS, hm, hB.out.done (fun q h1 h2 h3 => by have := Nat.le_of_dvd h1 h3; omega)⟩, gb_trans G0 hg⟩
end
end Go.Proofs.YtckaiejbgnhgcaaGreatDoor.Wd
namespace Go.Proofs.YtckaiejbgnhgcaaGreatDoor.Wd
open Go Go.RowKit
set_option linter.unusedVariables false
set_option maxRecDepth 100000

/-- Which of two rules is less, by their numbers. -/
abbrev lessR (r : Nat → Rl) : Nat → Nat → Bool := fun x y => ls (lb (r x).p) (lb (r y).p)
theorem lessR_swo (r : Nat → Rl) : Swo (lessR r) where
  irr x := ls_irrefl _
  tr x y z h1 h2 := ls_trans _ _ _ h1 h2
  inc x y z h1 h2 := by
    cases h : ls (lb (r x).p) (lb (r z).p) with
    | false => exact h
    | true =>
      have h1 : ls (lb (r x).p) (lb (r y).p) = false := h1
      have h2 : ls (lb (r y).p) (lb (r z).p) = false := h2
      have t1 := ls_total (lb (r x).p) (lb (r y).p)
      have t2 := ls_total (lb (r y).p) (lb (r z).p)
      rw [h1] at t1
      rw [h2] at t2
      cases e1 : (lb (r x).p == lb (r y).p) with
      | true => rw [eq_of_beq e1] at h; rw [h] at h2; cases h2
      | false =>
        rw [e1] at t1
        simp at t1
        cases e2 : (lb (r y).p == lb (r z).p) with
        | true => rw [← eq_of_beq e2] at h; rw [h] at h1; cases h1
        | false =>
          rw [e2] at t2
          simp at t2
          have := ls_trans _ _ _ t2 t1
          rw [ls_asymm _ _ h] at this
          cases this

theorem less1_any (RB RX n : Nat) (r : Nat → Rl) (hn : n ≤ 1099511627776) (hr : ∀ x, (r x).p.size ≤ 9223372036854775807) : LessC (lessR r) RB RX n r := by
  intro W f i j hS hi hj
  have C := fun W => kless_any (r (f i)).p (r (f j)).p W (hr _) (hr _)
  have a1 := (hS.rows i hi).1.1
  have a2 := (hS.rows j hj).1.1
  have a3 := hS.var
  have i1 : (i : Int) < (n : Int) := by omega
  have j1 : (j : Int) < (n : Int) := by omega
  have i0 : (0 : Int) ≤ (i : Int) := by omega
  have j0 : (0 : Int) ≤ (j : Int) := by omega
  show Calls Tryz.prog 36 _ W fun e w' => e = .returned (.bool (ls (lb (r (f i)).p) (lb (r (f j)).p))) ∧ Below W.heap.size W w'
  generalize (r (f i)).p = x at *
  generalize (r (f j)).p = y at *
  clear hr hS
  go_enter Tryz.func36, Tryz.ntmps36
  go_wp2_with fail
  go_region_held3 (fun w' => w'.cell? ⟨RX, 0, none⟩ = some (.slice (some ⟨RB, 0, none⟩) n n) ∧ w'.cell? ⟨RB, i * 4, none⟩ = some (.string x) ∧ w'.cell? ⟨RB, j * 4, none⟩ = some (.string y) ∧ Below W.heap.size W w')
    (first | with_reducible exact ⟨dcell a3, dcell a1, dcell a2, (Below.refl _ W).drew⟩ | with_reducible exact ⟨a3, a1, a2, kb⟩)
    (first | (go_at_call 37; refine (C _).mono ?_; rintro e w2 ⟨rfl, kb⟩; replace a3 := celln kb (dcell a3); replace a1 := celln kb (dcell a1); replace a2 := celln kb (dcell a2); replace kb := kbq (Below.refl _ W).drew kb))
  go_wp2
  go_ret
  exact ⟨rfl, kb⟩

/-! ### The library's Swapper -/
def swK (n : Nat) : Nat := if n = 0 then 80 else if n = 1 then 81 else 88
noncomputable def swB (RB n : Nat) : Array Value := if n ≤ 1 then #[] else #[.slice (some ⟨RB, 0, none⟩) n n, typeHandle Tryz.prog 37]
theorem infoRule : (Tryz.prog.info? 37).map (fun i => (i.size, i.hasPointers, i.bytes)) = some (4, true, 40) := by kernel_rfl
theorem infoRules : (Tryz.prog.info? 26).map (fun i => i.desc) = some (.slice 37) := by kernel_rfl
theorem kindRule (w : World) : (Extern.Rtype.kind 37).run Tryz.prog w = .ok 25 w := by kernel_rfl
theorem aggRule (w : World) : (isAgg 37).run Tryz.prog w = .ok true w := by kernel_rfl
theorem info_rule : ∃ ie, Tryz.prog.info? 37 = some ie ∧ ie.size = 4 ∧ ie.hasPointers = true ∧ ie.bytes = 40 := by
  have h := infoRule
  cases e : Tryz.prog.info? 37 with
  | none => rw [e] at h; cases h
  | some ie => rw [e] at h; simp at h; exact ⟨ie, rfl, h.1, h.2.1, h.2.2⟩
theorem info_rules : ∃ i, Tryz.prog.info? 26 = some i ∧ i.desc = .slice 37 := by
  have h := infoRules
  cases e : Tryz.prog.info? 26 with
  | none => rw [e] at h; cases h
  | some i => rw [e] at h; simp at h; exact ⟨i, rfl, h⟩
theorem sw_enters (args : Array Value) (W : World) : (callFunc 88 args).run Tryz.prog W = ((Extern.ReflectliteSwapper.swap false args).run Tryz.prog W).andThen fun v w' => .ok (.value v) w' :=
  run_callFunc_extern Tryz.func88 (by kernel_rfl) (by kernel_rfl) (by kernel_rfl) (e := Extern.ReflectliteSwapper.swap false) (by kernel_rfl) args W
theorem swapC_any (RB RX n : Nat) (r : Nat → Rl) : SwapC (swK n) (swB RB n) RB RX n r := by
  intro W f i j hS hi hj hij
  obtain ⟨ie, hie, z1, z2, z3⟩ := info_rule
  have e1 : swK n = 88 := by unfold swK; rw [if_neg (by omega), if_neg (by omega)]
  have e2 : swB RB n = #[.slice (some ⟨RB, 0, none⟩) n n, typeHandle Tryz.prog 37] := by unfold swB; rw [if_neg (by omega)]
  obtain ⟨s1, s2⟩ := hS.swap i j hi hj hij
  refine ⟨_, ?_, s1, s2⟩
  rw [e1, e2, sw_enters]
  have one : ∀ x : Rl, ∀ v ∈ x.cs, v.oneCell' = true := by
    intro x v hv
    simp only [List.mem_cons, List.not_mem_nil, or_false] at hv
    rcases hv with rfl | rfl | rfl | rfl <;> rfl
  have cel : ∀ k, k < n → ∀ (q : Nat) (v : Value), (r (f k)).cs[q]? = some v → W.cell? ⟨RB, 0 + k * ie.size + q, none⟩ = some v := by
    intro k hk q v hq
    obtain ⟨h0, h1, h2, h3⟩ := (hS.rows k hk).1
    rw [z1, Nat.zero_add]
    match q, hq with
    | 0, hq => simp at hq; subst hq; exact h0
    | 1, hq => simp at hq; subst hq; exact h1
    | 2, hq => simp at hq; subst hq; exact h2
    | 3, hq => simp at hq; subst hq; exact h3
    | q + 4, hq => simp at hq
  have fro : ∀ k, k < n → ∀ q, q < ie.size → W.frozen? ⟨RB, 0 + k * ie.size + q, none⟩ = false := by
    intro k hk q hq
    obtain ⟨h0, h1, h2, h3⟩ := (hS.rows k hk).2
    rw [z1] at hq
    rw [z1, Nat.zero_add]
    match q, hq with
    | 0, _ => exact h0
    | 1, _ => exact h1
    | 2, _ => exact h2
    | 3, _ => exact h3
  have R := Lib.run_swap_cells (P := Tryz.prog) false 37 ie hie aggRule RB 0 n n i j hi hj (r (f i)).cs (r (f j)).cs (by rw [z1]; rfl) (by rw [z1]; rfl) (one _) (one _) W (cel i hi) (cel j hj) (fro i hi) (fro j hj)
  rw [z1, Nat.zero_add, Nat.zero_add] at R
  rw [show (#[Value.int .i64 (i : Int), .int .i64 (j : Int)] ++ #[.slice (some ⟨RB, 0, none⟩) n n, typeHandle Tryz.prog 37] : Array Value) = #[.int .i64 i, .int .i64 j, .slice (some ⟨RB, 0, none⟩) n n, typeHandle Tryz.prog 37] from rfl, R]
  rfl
theorem swk_is (ie : TypeInfo) (h : ie.hasPointers = true) (hb : ie.bytes = 40) (n : Nat) : Lib.swapperK n ie 25 = if n = 0 then 1 else if n = 1 then 2 else 9 := by
  unfold Lib.swapperK
  simp [h, hb]
theorem lit1 : Tryz.prog.funcs.findIdx? (·.name == "internal/reflectlite" ++ ".Swapper$" ++ toString 1) = some 80 := by kernel_rfl
theorem lit2 : Tryz.prog.funcs.findIdx? (·.name == "internal/reflectlite" ++ ".Swapper$" ++ toString 2) = some 81 := by kernel_rfl
theorem lit9 : Tryz.prog.funcs.findIdx? (·.name == "internal/reflectlite" ++ ".Swapper$" ++ toString 9) = some 88 := by kernel_rfl
theorem swapper_run (RB n : Nat) (w : World) : (Extern.ReflectliteSwapper.swapper "internal/reflectlite" (Extern.ReflectliteValue.valueError "Swapper") #[.iface 26 (.slice (some ⟨RB, 0, none⟩) n n)]).run Tryz.prog w
      = .ok (.func (.func (swK n)) #[] (swB RB n)) w := by
  obtain ⟨ie, hie, z1, z2, z3⟩ := info_rule
  obtain ⟨i, hi, hd⟩ := info_rules
  have hk := swk_is ie z2 z3 n
  have R := fun f hf => Lib.run_swapper_slice (P := Tryz.prog) 26 37 i ie hi hd hie 25 kindRule (some ⟨RB, 0, none⟩) n n f hf w
  rw [hk] at R
  unfold swK swB
  by_cases h0 : n = 0
  · rw [if_pos h0] at R ⊢
    rw [R _ lit1, if_pos (by omega), if_pos (by omega)]
  · by_cases h1 : n = 1
    · rw [if_neg h0, if_pos h1] at R
      rw [if_neg h0, if_pos h1, R _ lit2, if_pos (by omega), if_pos (by omega)]
    · rw [if_neg h0, if_neg h1] at R
      rw [if_neg h0, if_neg h1, R _ lit9, if_neg (by omega), if_neg (by omega)]

set_option maxHeartbeats 1000000 in
theorem ssl_any (RB RX n : Nat) (r : Nat → Rl) (hn : n ≤ 1099511627776) (hr : ∀ x, (r x).p.size ≤ 9223372036854775807) (W : World) (f : Nat → Nat) (hS : SoW W RB RX n r f) (hf : ∀ i j, i < j → j < n → f i < f j) :
    Calls Tryz.prog 35 #[.iface 26 (.slice (some ⟨RB, 0, none⟩) n n), .func (Fn.func 36) #[] #[.pointer (some ⟨RX, 0, none⟩)]] W fun e w' => e = .returned (.tuple #[]) ∧ (∃ g, SoW w' RB RX n r g ∧ Mv 0 n f g ∧ Srt (lessR r) 0 n g) ∧ W.grownBy w' (some RB) := by
  obtain ⟨i, hi, hd⟩ := info_rules
  have C := fun W' (h : SoW W' RB RX n r f) => stable_any (lessR_swo r) (swapC_any RB RX n r) (less1_any RB RX n r hn hr) hn W' f h hf
  have S1 := fun o o2 => (hS.alloc o).alloc o2
  have hv := Lib.run_valueOf_slice (P := Tryz.prog) 26 37 i hi hd (some ⟨RB, 0, none⟩) n n W
  have hs := fun w => swapper_run RB n w
  have hl := fun a w ha => Lib.run_valueLen_slice (P := Tryz.prog) 26 37 i hi hd (by kernel_rfl) a (some ⟨RB, 0, none⟩) n n w ha
  unfold datV at C
  generalize swK n = sf at *
  generalize swB RB n = sb at *
  clear hS hi hd hf hr
  have hgs : Tryz.prog.globals.size = 1 := by kernel_rfl
  simp only [typeHandle, hgs] at hv hl
  go_enter Tryz.func35, Tryz.ntmps35
  go_wp2
  rw [run_callFunc_extern Tryz.func56 (by kernel_rfl) (by kernel_rfl) (by kernel_rfl) (e := fun args => Extern.ReflectliteValue.unpack (args.getD 0 (.tuple #[]))) (by kernel_rfl),
    show Sem.run Tryz.prog ((fun args : Array Value => Extern.ReflectliteValue.unpack (args.getD 0 (.tuple #[]))) #[.iface 26 (.slice (some ⟨RB, 0, none⟩) n n)]) W = _ from hv]
  simp only [Result.andThen]
  rw [Oper.upon_value]
  go_wp2
  rw [run_callFunc_extern Tryz.func57 (by kernel_rfl) (by kernel_rfl) (by kernel_rfl) (e := Extern.ReflectliteSwapper.swapper "internal/reflectlite" (Extern.ReflectliteValue.valueError "Swapper")) (by kernel_rfl), hs]
  simp only [Result.andThen]
  rw [Oper.upon_value]
  go_wp2
  rw [run_callFunc_extern Tryz.func59 (by kernel_rfl) (by kernel_rfl) (by kernel_rfl) (e := Extern.ReflectliteValue.method (Extern.ReflectliteValue.valueError "reflectlite.Value.Len" 0) Extern.ReflectliteValue.len) (by kernel_rfl),
    hl _ _ (by simp)]
  simp only [Result.andThen]
  rw [Oper.upon_value]
  go_wp2_with (go_at_call 58; refine (C _ (S1 _ _)).mono ?_; rintro e w' ⟨rfl, hR, hg⟩)
  go_end0
  exact ⟨rfl, hR, gb_trans (gb_trans (gb_alloc _ _ _) (gb_alloc _ _ _)) hg⟩
end Go.Proofs.YtckaiejbgnhgcaaGreatDoor.Wd
