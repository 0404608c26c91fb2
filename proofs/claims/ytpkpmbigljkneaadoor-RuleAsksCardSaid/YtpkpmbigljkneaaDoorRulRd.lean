/- What is read is right, and printed as it was: plain facts; no conditions but those that each names. -/
import Derived.Test.YtpkpmbigljkneaaDoorRulW4
namespace Go.Proofs.YtpkpmbigljkneaaDoor.Wd
open Go Go.RowKit
set_option linter.unusedVariables false

theorem dig_back (x : ByteArray) (h : paE (lb x) = 0) : dig (paN (lb x)).toNat = x := by
  unfold dig; rw [pa_back _ h]; exact str_of x
theorem eEv_0 {x : ByteArray} (h : eEv x = 0) : paE (lb x) = 0 ∧ 0 < paN (lb x) := by
  have hu := paN_U (lb x)
  unfold eEv at h
  split at h
  · rename_i g; exact absurd h g
  · rename_i g
    refine ⟨Decidable.not_not.1 g, ?_⟩
    split at h
    · cases h
    · omega
theorem eBu_0 {x y : ByteArray} (h : eBu x y = 0) : paE (lb y) = 0 ∧ 0 < paN (lb y) ∧ sat (paN (lb x) * paN (lb y)) ≤ 4611686018427387904 := by
  have hu := paN_U (lb y)
  unfold eBu at h
  split at h
  · rename_i g; exact absurd h g
  · rename_i g
    refine ⟨Decidable.not_not.1 g, ?_⟩
    split at h
    · cases h
    · split at h
      · rename_i g2; exact ⟨by omega, g2⟩
      · cases h
theorem eKi_yes {z : ByteArray} (h : eKi z = 0) : kinB z = true := by
  unfold eKi at h; split at h
  · assumption
  · cases h
theorem kin_in {z : ByteArray} (h : kinB z = true) : 1 ≤ kinI z ∧ kinI z ≤ 3 := by
  have := isK_kin z
  rw [h] at this
  exact of_decide_eq_true (show decide (1 ≤ kinI z ∧ kinI z ≤ 3) = true from this)
theorem ePr_0 {p : ByteArray} (h : ePr p = 0) : rtB (lb p) = true ∧ p.size ≠ 0 := by
  unfold ePr at h; split at h
  · rename_i g
    refine ⟨g, fun e => ?_⟩
    unfold rtB at g
    rw [list_size, decide_eq_false (by omega)] at g
    cases g
  · cases h

/-- A line that is read: what it tells is right, and printed it is the line. -/
def ReadBack (xs : List ByteArray) : Prop := ∃ (p : ByteArray) (E B : Nat) (k : Int), ansA xs = ⟨p, E, B, k, 0, 0⟩ ∧ ruE p E B k = 0 ∧ prW p E B k = xs ∧ p.size ≤ 128 ∧ E < 18446744073709551616 ∧ B < 18446744073709551616 ∧ 0 ≤ k ∧ k ≤ 255
/-- A line that is none. -/
def NoLine (xs : List ByteArray) : Prop := ∃ err at_ : Int, ansA xs = zeroA err at_ ∧ 1 ≤ err ∧ err ≤ 27 ∧ 0 ≤ at_ ∧ (at_ < xs.length ∨ at_ = 0)

theorem num_read (p : ByteArray) (x y z : ByteArray) (hp : pfB p = true) (h1 : eEv x = 0) (h2 : eBu x y = 0) (h3 : eKi z = 0) :
    ∃ (E B : Nat) (k : Int), paN (lb x) = (E : Int) ∧ paN (lb y) = (B : Int) ∧ kinI z = k ∧ ruE p E B k = 0 ∧ dig E = x ∧ dig B = y ∧ namS k = z ∧ E < 18446744073709551616 ∧ B < 18446744073709551616 ∧ 0 ≤ k ∧ k ≤ 255 := by
  obtain ⟨a1, a2⟩ := eEv_0 h1
  obtain ⟨b1, b2, b3⟩ := eBu_0 h2
  have k1 := eKi_yes h3
  have k2 := kin_in k1
  have u1 := paN_U (lb x)
  have u2 := paN_U (lb y)
  refine ⟨(paN (lb x)).toNat, (paN (lb y)).toNat, kinI z, by omega, by omega, rfl, ?_, dig_back x a1, dig_back y b1, nam_kin z k1, by omega, by omega, by omega, by omega⟩
  rw [Int.toNat_of_nonneg u1.1, Int.toNat_of_nonneg u2.1, ru_is, hp, if_neg (by decide), if_neg (by omega), if_neg (by omega), if_neg (by omega), show isK (kinI z) = true from decide_eq_true k2, if_neg (by decide)]
theorem list4 {xs : List ByteArray} (h : xs.length = 4) : xs = [xs.getD 0 nob, xs.getD 1 nob, xs.getD 2 nob, xs.getD 3 nob] := by
  match xs, h with
  | [_, _, _, _], _ => rfl
theorem list5 {xs : List ByteArray} (h : xs.length = 5) : xs = [xs.getD 0 nob, xs.getD 1 nob, xs.getD 2 nob, xs.getD 3 nob, xs.getD 4 nob] := by
  match xs, h with
  | [_, _, _, _, _], _ => rfl
theorem text_eq {x : ByteArray} {l : List UInt8} (h : x.toList = l) : x = ⟨l.toArray⟩ := (text_is h.symm).symm
theorem err_pos (x : ByteArray) (h : eEv x ≠ 0) : 1 ≤ eEv x ∧ eEv x ≤ 27 := by
  have : 0 ≤ eEv x ∧ eEv x ≤ 27 := by unfold eEv paE; (repeat' split) <;> omega
  omega
theorem err_posB (x y : ByteArray) (h : eBu x y ≠ 0) : 1 ≤ eBu x y ∧ eBu x y ≤ 27 := by
  have : 0 ≤ eBu x y ∧ eBu x y ≤ 27 := by unfold eBu paE; (repeat' split) <;> omega
  omega
theorem err_posK (z : ByteArray) (h : eKi z ≠ 0) : 1 ≤ eKi z ∧ eKi z ≤ 27 := by
  have : 0 ≤ eKi z ∧ eKi z ≤ 27 := by unfold eKi; (repeat' split) <;> omega
  omega

theorem ans_read (xs : List ByteArray) : NoLine xs ∨ ReadBack xs := by
  by_cases h4 : xs.length = 4 ∧ (xs.getD 0 nob).toList = defL
  · obtain ⟨hl, hx⟩ := h4
    have e0 : xs.getD 0 nob = defS := text_eq hx
    have ex := list4 hl
    have eA := ans_def xs _ _ _ (by rw [← e0]; exact ex)
    by_cases h1 : eEv (xs.getD 1 nob) = 0
    · by_cases h2 : eBu (xs.getD 1 nob) (xs.getD 2 nob) = 0
      · by_cases h3 : eKi (xs.getD 3 nob) = 0
        · right
          obtain ⟨E, B, k, n1, n2, n3, hR, d1, d2, d3, l1, l2, l3, l4⟩ := num_read ⟨#[]⟩ _ _ _ (by decide) h1 h2 h3
          refine ⟨⟨#[]⟩, E, B, k, ?_, hR, ?_, by decide, l1, l2, l3, l4⟩
          · rw [eA, numA_4 _ _ _ _ _ h1 h2 h3, n1, n2, n3]
          · unfold prW
            rw [if_neg (fun g => g hR), if_pos (by decide), d1, d2, d3, ← e0]
            exact ex.symm
        · left
          exact ⟨_, _, by rw [eA, numA_3 _ _ _ _ _ h1 h2 h3], (err_posK _ h3).1, (err_posK _ h3).2, by omega, .inl (by omega)⟩
      · left
        exact ⟨_, _, by rw [eA, numA_2 _ _ _ _ _ h1 h2], (err_posB _ _ h2).1, (err_posB _ _ h2).2, by omega, .inl (by omega)⟩
    · left
      exact ⟨_, _, by rw [eA, numA_1 _ _ _ _ _ h1], (err_pos _ h1).1, (err_pos _ h1).2, by omega, .inl (by omega)⟩
  · by_cases h5 : xs.length = 5 ∧ (xs.getD 0 nob).toList = rulL
    · obtain ⟨hl, hx⟩ := h5
      have e0 : xs.getD 0 nob = rulS := text_eq hx
      have ex := list5 hl
      have eA := ans_rule xs _ _ _ _ (by rw [← e0]; exact ex)
      by_cases h0 : ePr (xs.getD 1 nob) = 0
      · rw [if_neg (fun g => g h0)] at eA
        obtain ⟨hr, hp⟩ := ePr_0 h0
        by_cases h1 : eEv (xs.getD 2 nob) = 0
        · by_cases h2 : eBu (xs.getD 2 nob) (xs.getD 3 nob) = 0
          · by_cases h3 : eKi (xs.getD 4 nob) = 0
            · right
              obtain ⟨E, B, k, n1, n2, n3, hR, d1, d2, d3, l1, l2, l3, l4⟩ := num_read (xs.getD 1 nob) _ _ _ (by unfold pfB; rw [hr]; simp) h1 h2 h3
              refine ⟨xs.getD 1 nob, E, B, k, ?_, hR, ?_, ?_, l1, l2, l3, l4⟩
              · rw [eA, numA_4 _ _ _ _ _ h1 h2 h3, n1, n2, n3]
              · unfold prW
                rw [if_neg (fun g => g hR), if_neg hp, d1, d2, d3, ← e0]
                exact ex.symm
              · unfold rtB at hr
                rw [list_size, Bool.and_eq_true] at hr
                have := of_decide_eq_true hr.1
                exact this.2
            · left
              exact ⟨_, _, by rw [eA, numA_3 _ _ _ _ _ h1 h2 h3], (err_posK _ h3).1, (err_posK _ h3).2, by omega, .inl (by omega)⟩
          · left
            exact ⟨_, _, by rw [eA, numA_2 _ _ _ _ _ h1 h2], (err_posB _ _ h2).1, (err_posB _ _ h2).2, by omega, .inl (by omega)⟩
        · left
          exact ⟨_, _, by rw [eA, numA_1 _ _ _ _ _ h1], (err_pos _ h1).1, (err_pos _ h1).2, by omega, .inl (by omega)⟩
      · left
        rw [if_pos h0] at eA
        exact ⟨_, _, eA, by omega, by omega, by omega, .inl (by omega)⟩
    · left
      exact ⟨_, _, ans_short xs h4 h5, by omega, by omega, by omega, .inr rfl⟩
end Go.Proofs.YtpkpmbigljkneaaDoor.Wd
