/- Plain facts on decimal digits: what is printed is read, what is read is printed as it was, how many digits there are; no conditions but those that each names. -/
import Derived.Lib.ItoaNum
import Derived.Lib.ItoaLen
import Derived.Laws.Strings
import GoSem.Op.String
namespace Go.Proofs.YtpkpmbigljkneaaDoor.Wd
open Go.Lib

/-- A byte that is a digit. -/
def digB (b : UInt8) : Bool := decide (48 ≤ b.toNat) && decide (b.toNat ≤ 57)
/-- One digit or more, with no 0 ahead of others. -/
def plainB (l : List UInt8) : Bool := decide (l ≠ []) && !(decide (1 < l.length) && decide (l.head? = some 48)) && l.all digB
/-- The number that digits are. -/
def val (l : List UInt8) : Nat := l.foldl (fun n b => n * 10 + (b.toNat - 48)) 0

theorem val_nil : val [] = 0 := rfl
theorem val_snoc (l : List UInt8) (b : UInt8) : val (l ++ [b]) = val l * 10 + (b.toNat - 48) := by simp [val]
theorem foldl_ge (l : List UInt8) : ∀ n : Nat, n ≤ l.foldl (fun n b => n * 10 + (b.toNat - 48)) n := by
  induction l with
  | nil => intro n; exact Nat.le_refl n
  | cons b l ih => intro n; exact Nat.le_trans (by omega) (ih (n * 10 + (b.toNat - 48)))
theorem val_front (l m : List UInt8) : val l ≤ val (l ++ m) := by
  unfold val; rw [List.foldl_append]; exact foldl_ge m _

theorem digB_iff (b : UInt8) : digB b = true ↔ 48 ≤ b.toNat ∧ b.toNat ≤ 57 := by simp [digB]
theorem ch_toNat (d : Nat) (h : d < 10) : (UInt8.ofNat (48 + d)).toNat = 48 + d := by simp; omega
theorem ch_dig (d : Nat) (h : d < 10) : digB (UInt8.ofNat (48 + d)) = true := by rw [digB_iff, ch_toNat d h]; omega
theorem ch_back (b : UInt8) (h : digB b = true) : UInt8.ofNat (48 + (b.toNat - 48)) = b := by
  rw [digB_iff] at h
  rw [show 48 + (b.toNat - 48) = b.toNat by omega]; simp

theorem dec_small {n : Nat} (h : n < 10) : decDigits n = [UInt8.ofNat (48 + n)] := by rw [decDigits, dif_pos h]
theorem dec_big {n : Nat} (h : ¬ n < 10) : decDigits n = decDigits (n / 10) ++ [UInt8.ofNat (48 + n % 10)] := by rw [decDigits, dif_neg h]
theorem dec_ne (n : Nat) : decDigits n ≠ [] := by
  intro h
  have := congrArg List.length h
  rw [decDigits_length] at this
  have := nDigits_pos n
  simp at *; omega

theorem val_dec (n : Nat) : val (decDigits n) = n := by
  induction n using Nat.strongRecOn with
  | _ n ih =>
    by_cases h : n < 10
    · rw [dec_small h]
      show 0 * 10 + ((UInt8.ofNat (48 + n)).toNat - 48) = n
      rw [ch_toNat n h]; omega
    · rw [dec_big h, val_snoc, ih (n / 10) (by omega), ch_toNat _ (by omega)]; omega

theorem all_dec (n : Nat) : (decDigits n).all digB = true := by
  induction n using Nat.strongRecOn with
  | _ n ih =>
    by_cases h : n < 10
    · rw [dec_small h]; simp only [List.all_cons, List.all_nil, Bool.and_true]; exact ch_dig n h
    · rw [dec_big h, List.all_append, ih (n / 10) (by omega)]
      simp only [List.all_cons, List.all_nil, Bool.and_true, Bool.true_and]
      exact ch_dig _ (by omega)

theorem head_dec (n : Nat) (h0 : 1 ≤ n) : (decDigits n).head? ≠ some 48 := by
  induction n using Nat.strongRecOn with
  | _ n ih =>
    by_cases h : n < 10
    · rw [dec_small h]
      intro e
      have e' : UInt8.ofNat (48 + n) = 48 := by simpa using e
      have := congrArg UInt8.toNat e'
      rw [ch_toNat n h] at this
      have : (48 : UInt8).toNat = 48 := rfl
      omega
    · rw [dec_big h, List.head?_append]
      have h1 := ih (n / 10) (by omega) (by omega)
      cases hd : decDigits (n / 10) with
      | nil => exact absurd hd (dec_ne _)
      | cons b r => rw [hd] at h1; simpa using h1

theorem plainB_iff (l : List UInt8) : plainB l = true ↔ l ≠ [] ∧ ¬ (1 < l.length ∧ l.head? = some 48) ∧ l.all digB = true := by
  unfold plainB
  by_cases a : l = [] <;> by_cases b : 1 < l.length <;> by_cases c : l.head? = some 48 <;> simp [a, b, c]

theorem plain_dec (n : Nat) : plainB (decDigits n) = true := by
  rw [plainB_iff]
  refine ⟨dec_ne n, ?_, all_dec n⟩
  rintro ⟨h1, h2⟩
  by_cases h : 1 ≤ n
  · exact head_dec n h h2
  · have : n = 0 := by omega
    subst this
    rw [dec_small (by omega)] at h1
    simp at h1

/-- What is plain is what is printed of its number. -/
theorem dec_val_aux : ∀ (k : Nat) (l : List UInt8), l.length = k → plainB l = true → decDigits (val l) = l
  | 0, l, hk, h => by
    rw [plainB_iff] at h
    exact absurd (List.eq_nil_of_length_eq_zero hk) h.1
  | k + 1, l, hk, h => by
    rw [plainB_iff] at h
    obtain ⟨h1, h2, h3⟩ := h
    obtain ⟨m, b, rfl⟩ : ∃ m b, l = m ++ [b] := ⟨l.dropLast, l.getLast h1, (List.dropLast_concat_getLast h1).symm⟩
    have hb : digB b = true := by simp at h3; exact h3.2
    have hm : m.all digB = true := by simp at h3 ⊢; exact h3.1
    have hb' := (digB_iff b).1 hb
    rw [val_snoc]
    by_cases hn : m = []
    · subst hn
      rw [val_nil, dec_small (by omega)]
      show [UInt8.ofNat (48 + (0 * 10 + (b.toNat - 48)))] = [b]
      rw [Nat.zero_mul, Nat.zero_add, ch_back b hb]
    · have hl : m.length = k := by simpa using hk
      have hpos : 0 < m.length := List.length_pos_iff.2 hn
      have hp : plainB m = true := by
        rw [plainB_iff]
        refine ⟨hn, ?_, hm⟩
        rintro ⟨g1, g2⟩
        refine h2 ⟨by simp; omega, ?_⟩
        rw [List.head?_append, g2]; rfl
      have ih := dec_val_aux k m hl hp
      have hv : 1 ≤ val m := by
        by_cases hz : val m = 0
        · rw [hz, dec_small (by omega)] at ih
          exact absurd ⟨by simp; omega, by rw [← ih]; rfl⟩ h2
        · omega
      rw [dec_big (by omega), show (val m * 10 + (b.toNat - 48)) / 10 = val m by omega, show (val m * 10 + (b.toNat - 48)) % 10 = b.toNat - 48 by omega, ih, ch_back b hb]
theorem dec_val (l : List UInt8) (h : plainB l = true) : decDigits (val l) = l := dec_val_aux _ l rfl h

theorem dec_len20 (n : Nat) (h : n < 18446744073709551616) : (decDigits n).length ≤ 20 := by rw [decDigits_length]; exact nDigits_le20 n h
theorem dec_len1 (n : Nat) : 1 ≤ (decDigits n).length := by rw [decDigits_length]; exact nDigits_pos n
theorem plain_long (l : List UInt8) (h : plainB l = true) (hl : 20 < l.length) : 18446744073709551616 ≤ val l := by
  have e := dec_val l h
  by_cases hv : val l < 18446744073709551616
  · have := dec_len20 (val l) hv; rw [e] at this; omega
  · omega

/-! ### What Parse answers -/
def paN (l : List UInt8) : Int := if plainB l = true ∧ val l < 18446744073709551616 then (val l : Int) else 0
def paE (l : List UInt8) : Int := if plainB l = true then (if val l < 18446744073709551616 then 0 else 11) else 10
theorem paN_U (l : List UInt8) : 0 ≤ paN l ∧ paN l ≤ 18446744073709551615 := by unfold paN; split <;> omega
theorem pa_not {l : List UInt8} (h : plainB l = false) : paN l = 0 ∧ paE l = 10 := by simp [paN, paE, h]
theorem pa_big {l : List UInt8} (h : plainB l = true) (hv : 18446744073709551616 ≤ val l) : paN l = 0 ∧ paE l = 11 := by
  have : ¬ val l < 18446744073709551616 := by omega
  simp [paN, paE, h, this]
theorem pa_yes {l : List UInt8} (h : plainB l = true) (hv : val l < 18446744073709551616) : paN l = (val l : Int) ∧ paE l = 0 := by simp [paN, paE, h, hv]
theorem pa_dec (n : Nat) (h : n < 18446744073709551616) : paN (decDigits n) = n ∧ paE (decDigits n) = 0 := by
  have e := pa_yes (plain_dec n) (by rw [val_dec]; exact h)
  rw [val_dec] at e; exact e
/-- What is read is printed as it was. -/
theorem pa_back (l : List UInt8) (h : paE l = 0) : decDigits (paN l).toNat = l := by
  unfold paE at h
  split at h
  · rename_i hp
    split at h
    · rename_i hv
      rw [(pa_yes hp hv).1]
      exact dec_val l hp
    · omega
  · omega

/-! ### Order: more digits, or greater as texts -/
theorem nDigits_mono (a b : Nat) (h : a ≤ b) : nDigits a ≤ nDigits b := by
  induction b using Nat.strongRecOn generalizing a with
  | _ b ih =>
    by_cases hb : b < 10
    · rw [nDigits_small hb, nDigits_small (by omega)]; exact Nat.le_refl _
    · rw [nDigits_big hb]
      by_cases ha : a < 10
      · rw [nDigits_small ha]; omega
      · rw [nDigits_big ha]
        have := ih (b / 10) (by omega) (a / 10) (by omega)
        omega

theorem bytesLess_append_left (p x y : List UInt8) : Op.bytesLess (p ++ x) (p ++ y) = Op.bytesLess x y := by
  induction p with
  | nil => rfl
  | cons b p ih => simp [Op.bytesLess, ih]
theorem bytesLess_append_same : ∀ (x y p q : List UInt8), x.length = y.length → Op.bytesLess x y = true → Op.bytesLess (x ++ p) (y ++ q) = true
  | [], [], _, _, _, h => by simp [Op.bytesLess] at h
  | a :: x, b :: y, p, q, hl, h => by
    simp only [Op.bytesLess, Bool.or_eq_true, Bool.and_eq_true, List.cons_append] at h ⊢
    rcases h with h | ⟨h1, h2⟩
    · exact Or.inl h
    · exact Or.inr ⟨h1, bytesLess_append_same x y p q (by simpa using hl) h2⟩
  | [], _ :: _, _, _, hl, _ => by simp at hl
  | _ :: _, [], _, _, hl, _ => by simp at hl

theorem dec_less (a b : Nat) (h : a < b) (hl : nDigits a = nDigits b) : Op.bytesLess (decDigits a) (decDigits b) = true := by
  induction b using Nat.strongRecOn generalizing a with
  | _ b ih =>
    by_cases hb : b < 10
    · rw [dec_small hb, dec_small (show a < 10 by omega)]
      simp only [Op.bytesLess, Bool.or_eq_true, Bool.and_eq_true, decide_eq_true_eq]
      refine Or.inl ?_
      rw [UInt8.lt_iff_toNat_lt, ch_toNat a (by omega), ch_toNat b hb]
      omega
    · have ha : ¬ a < 10 := by
        intro ha
        rw [nDigits_small ha, nDigits_big hb] at hl
        have := nDigits_pos (b / 10); omega
      rw [nDigits_big ha, nDigits_big hb] at hl
      rw [dec_big ha, dec_big hb]
      by_cases he : a / 10 = b / 10
      · rw [he, bytesLess_append_left]
        simp only [Op.bytesLess, Bool.or_eq_true, Bool.and_eq_true, decide_eq_true_eq]
        refine Or.inl ?_
        rw [UInt8.lt_iff_toNat_lt, ch_toNat _ (by omega), ch_toNat _ (by omega)]
        omega
      · exact bytesLess_append_same _ _ _ _ (by rw [decDigits_length, decDigits_length]; omega) (ih (b / 10) (by omega) (a / 10) (by omega) (by omega))
end Go.Proofs.YtpkpmbigljkneaaDoor.Wd
