/- What is printed is read: plain facts on the words of a rule; no conditions but those that each names. -/
import Derived.Test.YtpkpmbigljkneaaDoorRulOwn
import Derived.Test.YtpkpmbigljkneaaDoorRulW1
namespace Go.Proofs.YtpkpmbigljkneaaDoor.Wd
open Go Go.RowKit
set_option linter.unusedVariables false

theorem dig_pa (n : Nat) (h : n < 18446744073709551616) : paN (lb (dig n)) = n ∧ paE (lb (dig n)) = 0 := by
  unfold dig lb; rw [str_data]; exact pa_dec n h
theorem eEv_dig (n : Nat) (h : n < 18446744073709551616) : eEv (dig n) = if n = 0 then 24 else 0 := by
  obtain ⟨h1, h2⟩ := dig_pa n h
  unfold eEv; rw [h2, if_neg (by decide), h1]
  by_cases c : n = 0
  · rw [if_pos c, if_pos (by omega)]
  · rw [if_neg c, if_neg (by omega)]
theorem eBu_dig (m n : Nat) (hm : m < 18446744073709551616) (h : n < 18446744073709551616) : eBu (dig m) (dig n) = if n = 0 then 25 else if sat ((m : Int) * (n : Int)) ≤ 4611686018427387904 then 0 else 26 := by
  obtain ⟨h1, h2⟩ := dig_pa n h
  obtain ⟨g1, g2⟩ := dig_pa m hm
  unfold eBu; rw [h2, if_neg (by decide), h1, g1]
  by_cases c : n = 0
  · rw [if_pos c, if_pos (by omega)]
  · rw [if_neg c, if_neg (by omega)]
theorem eKi_nam (c : Int) (h : 1 ≤ c ∧ c ≤ 3) : eKi (namS c) = 0 := by unfold eKi; rw [(kin_nam c h).2.1]; rfl
theorem ru_yes {p : ByteArray} {E B : Nat} {c : Int} (h : ruE p E B c = 0) : pfB p = true ∧ 1 ≤ E ∧ 1 ≤ B ∧ sat ((E : Int) * (B : Int)) ≤ 4611686018427387904 ∧ 1 ≤ c ∧ c ≤ 3 := by
  rw [ru_is] at h
  by_cases c0 : pfB p = false
  · rw [if_pos c0] at h; cases h
  rw [if_neg c0] at h
  by_cases c1 : 0 < (E : Int)
  · rw [if_neg (by omega)] at h
    by_cases c2 : 0 < (B : Int)
    · rw [if_neg (by omega)] at h
      by_cases c3 : sat ((E : Int) * (B : Int)) ≤ 4611686018427387904
      · rw [if_neg (by omega)] at h
        by_cases c4 : isK c = false
        · rw [if_pos c4] at h; cases h
        · have c5 : isK c = true := by simpa using c4
          have := of_decide_eq_true (show decide (1 ≤ c ∧ c ≤ 3) = true from c5)
          exact ⟨by simpa using c0, by omega, by omega, c3, this.1, this.2⟩
      · rw [if_pos c3] at h; cases h
    · rw [if_pos c2] at h; cases h
  · rw [if_pos c1] at h; cases h
/-- What is printed is read. -/
theorem ans_print (p : ByteArray) (E B : Nat) (c : Int) (hE : E < 18446744073709551616) (hB : B < 18446744073709551616) (h : ruE p E B c = 0) : ansA (prW p E B c) = ⟨p, E, B, c, 0, 0⟩ := by
  obtain ⟨y1, y2, y3, y4, y5, y6⟩ := ru_yes h
  have z1 : eEv (dig E) = 0 := by rw [eEv_dig E hE, if_neg (by omega)]
  have z2 : eBu (dig E) (dig B) = 0 := by rw [eBu_dig E B hE hB, if_neg (by omega), if_pos y4]
  have z3 := eKi_nam c ⟨y5, y6⟩
  have n1 := (dig_pa E hE).1
  have n2 := (dig_pa B hB).1
  have n3 := (kin_nam c ⟨y5, y6⟩).1
  unfold prW
  rw [if_neg (by simp [h])]
  by_cases hp : p.size = 0
  · rw [if_pos hp, ans_def _ _ _ _ rfl, numA_4 _ _ _ _ _ z1 z2 z3, n1, n2, n3]
    have : p = ⟨#[]⟩ := ByteArray.ext (Array.eq_empty_of_size_eq_zero hp)
    rw [this]
  · have z0 : ePr p = 0 := by
      unfold pfB at y1
      rw [decide_eq_false hp, Bool.false_or] at y1
      unfold ePr; rw [y1]; rfl
    rw [if_neg hp, ans_rule _ _ _ _ _ rfl, if_neg (by simp [z0]), numA_4 _ _ _ _ _ z1 z2 z3, n1, n2, n3]
end Go.Proofs.YtpkpmbigljkneaaDoor.Wd
