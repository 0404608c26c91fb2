/- Plain facts for PrefixMore: what is found with one rule more; no conditions but those that each names. -/
import Derived.Test.YtekpmepcacbloaaPreL
namespace Go.Proofs.Ytekpmepcacbloaa.Wd
open Go Go.RowKit
set_option linter.unusedVariables false

/-! ### One more of a prefix that is not there -/
theorem fst_new {rs : List Rl} {D : ByteArray} (h : ∀ j, j < rs.length → (fnOf rs j).p ≠ D) : fstR rs (lb D) = none := by
  cases e : fstR rs (lb D) with
  | none => rfl
  | some x =>
    obtain ⟨j, hj, e1, e2, _⟩ := fst_some e
    exact absurd (lb_inj (by rw [e1]; exact e2)) (h j hj)
theorem find_more {m : Int} {rs : List Rl} (h : Polr m rs) (K : ByteArray) (x : Rl) {a : Rl} (ha : findR rs K = some a) :
    findR (rs ++ [x]) K = some (if hsK K x.p && decide (a.p.size < x.p.size) then x else a) := by
  obtain ⟨j, e, B⟩ := polr_find h K
  rw [e] at ha
  cases ha
  have hl : (rs ++ [x]).length = rs.length + 1 := by simp
  have hin : ∀ i, i < rs.length → fnOf (rs ++ [x]) i = fnOf rs i := fun i hi => fn_left rs [x] hi
  cases hh : (hsK K x.p && decide ((fnOf rs j).p.size < x.p.size)) with
  | true =>
    simp only [Bool.and_eq_true, decide_eq_true_eq] at hh
    have : Best (rs ++ [x]) K (rs ++ [x]).length rs.length := by
      refine ⟨by rw [hl]; omega, by rw [fn_last]; exact hh.1, fun i hi hk => ?_, fun i hi hk => ?_⟩
      · rw [fn_last]
        by_cases c : i = rs.length
        · subst c; rw [fn_last]; exact Nat.le_refl _
        · rw [hin i (by omega)] at hk ⊢
          have := B.most i (by omega) hk
          omega
      · rw [fn_last]
        rw [hin i hi] at hk ⊢
        have := B.most i hi hk
        omega
    rw [find_best this, fn_last]; rfl
  | false =>
    have : Best (rs ++ [x]) K (rs ++ [x]).length j := by
      have hj := B.lt
      refine ⟨by rw [hl]; omega, by rw [hin j hj]; exact B.has, fun i hi hk => ?_, fun i hi hk => ?_⟩
      · rw [hin j hj]
        by_cases c : i = rs.length
        · subst c
          rw [fn_last] at hk ⊢
          rw [hk, Bool.true_and] at hh
          have := of_decide_eq_false hh
          omega
        · rw [hin i (by omega)] at hk ⊢
          exact B.most i (by omega) hk
      · rw [hin j hj]
        rw [hin i (by omega)] at hk ⊢
        exact B.first i hi hk
    rw [find_best this, hin j B.lt]; rfl
/-- A text begins with another one just if its front of that length is that. -/
theorem hs_front (K D : ByteArray) (h : D.size ≤ K.size) : decide (K.extract 0 D.size = D) = hsK K D := by
  rw [Bool.eq_iff_iff, decide_eq_true_eq, hsK_iff]
  constructor
  · intro e
    have := lb_front K D.size
    rw [e] at this
    rw [this]; exact List.take_prefix _ _
  · rintro ⟨t, e⟩
    refine lb_inj ?_
    rw [lb_front, ← e, ← lb_len, List.take_left]
theorem hs_long (K D : ByteArray) (h : K.size < D.size) : hsK K D = false := by
  rw [← Bool.not_eq_true, hsK_iff]
  intro g
  have := pre_size g
  omega
end Go.Proofs.Ytekpmepcacbloaa.Wd
