/- Plain facts on rows of bytes for keys: how many two begin with alike, which is less, which begins with which; no conditions but those that each names. -/
import Derived.Test.YtpkpmbigljkneaaDoorMath
import Derived.Test.YtpkpmbigljkneaaDoorRows
namespace Go.Proofs.YtpkpmbigljkneaaDoor.Wd
open Go.RowKit

theorem list_size (s : ByteArray) : s.data.toList.length = s.size := by cases s; rfl
theorem list_at (s : ByteArray) (i : Nat) (h : i < s.size) (h' : i < s.data.toList.length) : s.data.toList[i] = s[i] := by cases s; rfl
/-- The bytes of a text. -/
abbrev lb (s : ByteArray) : List UInt8 := s.data.toList

/-- How many bytes two begin with alike. -/
def cm : List UInt8 → List UInt8 → Nat
  | a :: x, b :: y => if a = b then cm x y + 1 else 0
  | _, _ => 0
/-- Which is less. -/
abbrev ls (x y : List UInt8) : Bool := Op.bytesLess x y

theorem cm_nil_left (y : List UInt8) : cm [] y = 0 := by cases y <;> rfl
theorem cm_nil_right (x : List UInt8) : cm x [] = 0 := by cases x <;> rfl
theorem cm_cons (a b : UInt8) (x y : List UInt8) : cm (a :: x) (b :: y) = if a = b then cm x y + 1 else 0 := by rw [cm]
theorem ls_cons (a b : UInt8) (x y : List UInt8) : ls (a :: x) (b :: y) = (decide (a < b) || (a == b && ls x y)) := by
  show Op.bytesLess (a :: x) (b :: y) = _
  rw [Op.bytesLess]
theorem ls_nil_right (x : List UInt8) : ls x [] = false := by show Op.bytesLess x [] = false; cases x <;> rfl
theorem ls_nil_left (b : UInt8) (y : List UInt8) : ls [] (b :: y) = true := rfl

theorem cm_le_left : ∀ x y, cm x y ≤ x.length
  | [], y => by rw [cm_nil_left]; exact Nat.zero_le _
  | a :: x, [] => by rw [cm_nil_right]; exact Nat.zero_le _
  | a :: x, b :: y => by rw [cm_cons]; have := cm_le_left x y; split <;> simp <;> omega
theorem cm_comm : ∀ x y, cm x y = cm y x
  | [], y => by rw [cm_nil_left, cm_nil_right]
  | a :: x, [] => by rw [cm_nil_left, cm_nil_right]
  | a :: x, b :: y => by
    rw [cm_cons, cm_cons, cm_comm x y]
    by_cases h : a = b
    · rw [if_pos h, if_pos h.symm]
    · rw [if_neg h, if_neg (fun e => h e.symm)]
theorem cm_le_right (x y : List UInt8) : cm x y ≤ y.length := by rw [cm_comm]; exact cm_le_left y x
theorem cm_take : ∀ x y : List UInt8, x.take (cm x y) = y.take (cm x y)
  | [], y => by rw [cm_nil_left]; simp
  | a :: x, [] => by rw [cm_nil_right]; simp
  | a :: x, b :: y => by
    rw [cm_cons]
    by_cases h : a = b
    · rw [if_pos h, h]; simp [cm_take x y]
    · rw [if_neg h]; simp
theorem cm_unlike : ∀ x y (h : cm x y < x.length) (h' : cm x y < y.length), x[cm x y] ≠ y[cm x y]
  | [], y, h, _ => by simp at h
  | a :: x, [], _, h' => by simp at h'
  | a :: x, b :: y, h, h' => by
    by_cases e : a = b
    · have hc : cm (a :: x) (b :: y) = cm x y + 1 := by rw [cm_cons, if_pos e]
      have h1 : cm x y < x.length := by rw [hc] at h; simpa using h
      have h2 : cm x y < y.length := by rw [hc] at h'; simpa using h'
      have := cm_unlike x y h1 h2
      simp only [hc, List.getElem_cons_succ]
      exact this
    · have hc : cm (a :: x) (b :: y) = 0 := by rw [cm_cons, if_neg e]
      simp only [hc, List.getElem_cons_zero]
      exact e
/-- What is alike so far, and no further, is what is common. -/
theorem cm_is : ∀ (n : Nat) (x y : List UInt8), n ≤ x.length → n ≤ y.length → x.take n = y.take n → (∀ (h : n < x.length) (h' : n < y.length), x[n] ≠ y[n]) → cm x y = n
  | 0, [], y, _, _, _, _ => cm_nil_left y
  | 0, a :: x, [], _, _, _, _ => cm_nil_right _
  | 0, a :: x, b :: y, _, _, _, h => by rw [cm_cons, if_neg]; exact h (by simp) (by simp)
  | n + 1, [], y, h, _, _, _ => by simp at h
  | n + 1, a :: x, [], _, h, _, _ => by simp at h
  | n + 1, a :: x, b :: y, h1, h2, h3, h4 => by
    simp only [List.take_succ_cons, List.cons.injEq] at h3
    rw [cm_cons, if_pos h3.1, cm_is n x y (by simpa using h1) (by simpa using h2) h3.2 (fun g g' => by
      have := h4 (by simpa using g) (by simpa using g')
      simpa using this)]

theorem cm_self (x : List UInt8) : cm x x = x.length := cm_is _ _ _ (Nat.le_refl _) (Nat.le_refl _) rfl (fun h => absurd h (Nat.lt_irrefl _))

/-- One begins with the other one, just if all of that is common. -/
theorem cm_has (k p : List UInt8) : cm k p = p.length ↔ p <+: k := by
  constructor
  · intro h
    have := cm_take k p
    rw [h, List.take_length] at this
    rw [← this]; exact List.take_prefix _ _
  · rintro ⟨t, rfl⟩
    exact cm_is _ _ _ (by simp) (Nat.le_refl _) (by simp) (fun _ h => absurd h (Nat.lt_irrefl _))

/-! ### Less by what is common -/
theorem u8_lt (a b : UInt8) : decide (a < b) = decide (a.toNat < b.toNat) := by
  rw [Bool.eq_iff_iff]; simp only [decide_eq_true_eq]; rw [UInt8.lt_iff_toNat_lt]
theorem u8_eq (a b : UInt8) : (a == b) = decide ((a.toNat : Int) = (b.toNat : Int)) := by
  rw [Bool.eq_iff_iff, beq_iff_eq, decide_eq_true_eq, ← UInt8.toNat_inj]; omega
theorem u8_ne {a b : UInt8} (h : a ≠ b) : ((a.toNat : Int) == (b.toNat : Int)) = false := by
  rw [beq_eq_false_iff_ne]; intro e; exact h (UInt8.toNat_inj.1 (by omega))
theorem u8_same {a b : UInt8} (h : ((a.toNat : Int) == (b.toNat : Int)) = true) : a = b := UInt8.toNat_inj.1 (by have := eq_of_beq h; omega)

theorem ls_cm : ∀ x y, ls x y = if h : cm x y < x.length ∧ cm x y < y.length then decide (x[cm x y] < y[cm x y]) else decide (x.length < y.length)
  | [], [] => by rw [dif_neg (by simp)]; rfl
  | [], b :: y => by rw [dif_neg (by simp)]; rw [ls_nil_left]; simp
  | a :: x, [] => by rw [dif_neg (by simp)]; rw [ls_nil_right]; simp
  | a :: x, b :: y => by
    rw [ls_cons]
    by_cases e : a = b
    · subst e
      rw [ls_cm x y]
      have hc : cm (a :: x) (a :: y) = cm x y + 1 := by rw [cm_cons, if_pos rfl]
      simp only [hc, List.length_cons, Nat.add_lt_add_iff_right, List.getElem_cons_succ, BEq.rfl, Bool.true_and]
      simp
    · have hc : cm (a :: x) (b :: y) = 0 := by rw [cm_cons, if_neg e]
      rw [dif_pos (by rw [hc]; simp)]
      simp only [hc, List.getElem_cons_zero]
      rw [beq_eq_false_iff_ne.2 e]
      simp

theorem ls_irrefl : ∀ x, ls x x = false
  | [] => rfl
  | a :: x => by rw [ls_cons, ls_irrefl x]; simp
theorem ls_trans : ∀ x y z, ls x y = true → ls y z = true → ls x z = true
  | x, [], z, h, _ => by rw [ls_nil_right] at h; cases h
  | x, b :: y, [], _, h => by rw [ls_nil_right] at h; cases h
  | [], b :: y, c :: z, _, _ => ls_nil_left _ _
  | a :: x, b :: y, c :: z, h, g => by
    rw [ls_cons] at h g ⊢
    simp only [Bool.or_eq_true, Bool.and_eq_true, decide_eq_true_eq, beq_iff_eq] at h g ⊢
    rw [UInt8.lt_iff_toNat_lt] at h g ⊢
    rcases h with h | ⟨rfl, h⟩
    · rcases g with g | ⟨rfl, g⟩
      · exact .inl (by omega)
      · exact .inl h
    · rcases g with g | ⟨rfl, g⟩
      · exact .inl g
      · exact .inr ⟨rfl, ls_trans x y z h g⟩
theorem ls_asymm (x y : List UInt8) (h : ls x y = true) : ls y x = false := by
  rw [← Bool.not_eq_true]
  intro g
  have := ls_trans x y x h g
  rw [ls_irrefl] at this; cases this
theorem ls_total : ∀ x y, (ls x y || ls y x) = !(x == y)
  | [], [] => rfl
  | [], b :: y => rfl
  | a :: x, [] => rfl
  | a :: x, b :: y => by
    rw [ls_cons, ls_cons]
    have ih := ls_total x y
    by_cases e : a = b
    · subst e
      simp only [BEq.rfl, Bool.true_and, UInt8.lt_irrefl, decide_false, Bool.false_or, ih, List.cons_beq_cons]
    · have h1 : (a == b) = false := beq_eq_false_iff_ne.2 e
      have h2 : (b == a) = false := beq_eq_false_iff_ne.2 (fun h => e h.symm)
      have h3 : a.toNat ≠ b.toNat := fun h => e (UInt8.toNat_inj.1 h)
      rw [List.cons_beq_cons, h1, h2]
      simp only [Bool.false_and, Bool.or_false, Bool.not_false, Bool.or_eq_true, decide_eq_true_eq]
      rw [UInt8.lt_iff_toNat_lt, UInt8.lt_iff_toNat_lt]; omega

/-! ### What comes by pairs -/
theorem zip_all_take : ∀ (x y : List UInt8) (n : Nat), n ≤ x.length → n ≤ y.length → (∀ p ∈ (x.zip y).take n, p.1 = p.2) → x.take n = y.take n
  | _, _, 0, _, _, _ => by simp
  | [], y, n + 1, h, _, _ => by simp at h
  | a :: x, [], n + 1, _, h, _ => by simp at h
  | a :: x, b :: y, n + 1, h1, h2, h => by
    simp only [List.zip_cons_cons, List.take_succ_cons, List.mem_cons, forall_eq_or_imp] at h
    rw [List.take_succ_cons, List.take_succ_cons, h.1, zip_all_take x y n (by simpa using h1) (by simpa using h2) h.2]
/-- All of the pairs are alike. -/
theorem cm_all {x y : List UInt8} (h : ∀ p ∈ x.zip y, p.1 = p.2) : cm x y = (x.zip y).length := by
  have hl : (x.zip y).length = min x.length y.length := by simp
  refine cm_is _ _ _ (by omega) (by omega) (zip_all_take x y _ (by omega) (by omega) (fun p hp => h p (List.mem_of_mem_take hp))) (fun h1 h2 => by omega)
/-- One pair is not. -/
theorem cm_parts {x y : List UInt8} {pre : List (UInt8 × UInt8)} {p : UInt8 × UInt8} (hp : pre ++ [p] <+: x.zip y) (h : ∀ q ∈ pre, q.1 = q.2) (hne : p.1 ≠ p.2) :
    cm x y = pre.length ∧ ∃ (h1 : cm x y < x.length) (h2 : cm x y < y.length), x[cm x y] = p.1 ∧ y[cm x y] = p.2 := by
  obtain ⟨t, ht⟩ := hp
  have hl : (x.zip y).length = min x.length y.length := by simp
  have hk : pre.length < (x.zip y).length := by rw [← ht]; simp
  have h1 : pre.length < x.length := by omega
  have h2 : pre.length < y.length := by omega
  have hg : (x.zip y)[pre.length] = p := by
    have : (x.zip y)[pre.length]? = some p := by rw [← ht]; simp
    rw [List.getElem?_eq_getElem hk] at this
    exact Option.some.inj this
  rw [List.getElem_zip] at hg
  have hx : x[pre.length] = p.1 := by rw [← hg]
  have hy : y[pre.length] = p.2 := by rw [← hg]
  have e : cm x y = pre.length := cm_is _ _ _ (by omega) (by omega) (zip_all_take x y _ (by omega) (by omega) (fun q hq => by
    rw [← ht] at hq
    simp at hq
    exact h q hq)) (fun _ _ => by rw [hx, hy]; exact hne)
  refine ⟨e, by omega, by omega, ?_, ?_⟩
  · simp only [e]; exact hx
  · simp only [e]; exact hy
theorem ls_all {x y : List UInt8} (h : ∀ p ∈ x.zip y, p.1 = p.2) : ls x y = decide (x.length < y.length) := by
  have hl : (x.zip y).length = min x.length y.length := by simp
  rw [ls_cm, dif_neg (by rw [cm_all h]; omega)]
theorem ls_parts {x y : List UInt8} {pre : List (UInt8 × UInt8)} {p : UInt8 × UInt8} (hp : pre ++ [p] <+: x.zip y) (h : ∀ q ∈ pre, q.1 = q.2) (hne : p.1 ≠ p.2) : ls x y = decide (p.1 < p.2) := by
  obtain ⟨_, h1, h2, hx, hy⟩ := cm_parts hp h hne
  rw [ls_cm, dif_pos ⟨h1, h2⟩, hx, hy]
end Go.Proofs.YtpkpmbigljkneaaDoor.Wd
