/- Plain facts for PrefixOrder: what is found in the order turned round; no conditions but those that each names. -/
import Derived.Test.YtekpmepcacbloaaPreN
namespace Go.Proofs.Ytekpmepcacbloaa.Wd
open Go Go.RowKit
set_option linter.unusedVariables false

theorem fn_rev (rs : List Rl) {k : Nat} (h : k < rs.length) : fnOf rs.reverse k = fnOf rs (rs.length - 1 - k) := by
  rw [fn_at (by rw [List.length_reverse]; exact h), fn_at (by omega), List.getElem_reverse]
theorem rev_take (rs : List Rl) {k : Nat} (h : k < rs.length) : rs.reverse.take (k + 1) = rs.reverse.take k ++ [fnOf rs (rs.length - 1 - k)] := by
  rw [← fn_rev rs h, fn_at (by rw [List.length_reverse]; exact h), List.take_succ_eq_append_getElem (by rw [List.length_reverse]; exact h)]
theorem find_rev {m : Int} {rs : List Rl} (h : Polr m rs) (K : ByteArray) {a : Rl} (ha : findR rs K = some a) : findR rs.reverse K = some a ∧ a.p.size ≤ K.size ∧ hsK K a.p = true ∧ (∀ i, i < rs.length → hsK K (fnOf rs i).p = true → (fnOf rs i).p.size ≤ a.p.size) ∧ a.p.size ≤ 12 := by
  obtain ⟨j, e, B⟩ := polr_find h K
  rw [e] at ha
  cases ha
  have hj := B.lt
  have hl : rs.reverse.length = rs.length := List.length_reverse
  have ej : fnOf rs.reverse (rs.length - 1 - j) = fnOf rs j := by rw [fn_rev rs (by omega), show rs.length - 1 - (rs.length - 1 - j) = j by omega]
  refine ⟨?_, pre_size ((hsK_iff _ _).1 B.has), B.has, B.most, polr_p h j⟩
  rw [← ej]
  refine find_best ⟨by rw [hl]; omega, by rw [ej]; exact B.has, fun i hi hk => ?_, fun i hi hk => ?_⟩
  · rw [hl] at hi
    rw [ej]
    rw [fn_rev rs hi] at hk ⊢
    exact B.most _ (by omega) hk
  · rw [ej]
    rw [fn_rev rs (by omega)] at hk ⊢
    have h1 := B.most _ (by omega) hk
    by_cases c : (fnOf rs (rs.length - 1 - i)).p.size = (fnOf rs j).p.size
    · have := polr_same h (i := rs.length - 1 - i) (j := j) (by omega) hj (two_pre ((hsK_iff _ _).1 hk) ((hsK_iff _ _).1 B.has) c)
      omega
    · omega
end Go.Proofs.Ytekpmepcacbloaa.Wd
