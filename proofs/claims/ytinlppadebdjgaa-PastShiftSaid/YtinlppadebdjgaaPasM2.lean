/- Plain facts on histories: fills, what conforms, and what rises, as answers; no conditions but those that each names. -/
import Derived.Test.YtinlppadebdjgaaPasM
namespace Go.Proofs.Ytinlppadebdjgaa.Wd
open Go.RowKit
set_option linter.unusedVariables false

theorem tot_append (es fs : List (Int × Int)) : tot (es ++ fs) = tot es + tot fs := by
  induction es with
  | nil => simp [tot]
  | cons e es ih => simp only [List.cons_append, tot, ih]; omega
theorem sat_sat (x y : Int) (hx : 0 ≤ x) (hy : 0 ≤ y) : sat (sat x + y) = sat (x + y) := by rw [sat_min, sat_min, sat_min]; omega
theorem sm_take {es : List (Int × Int)} (h : EU es) {k : Nat} {e : Int × Int} (he : es[k]? = some e) : smL (es.take (k + 1)) = sat (smL (es.take k) + e.2) := by
  obtain ⟨h1, h2⟩ := List.getElem?_eq_some_iff.1 he
  have hh := (h.get he).2
  unfold smL
  rw [List.take_succ_eq_append_getElem h1, tot_append, h2, sat_sat _ _ (tot_nonneg _ (h.take k)) hh.1]
  simp [tot]
theorem flL_le (es : List (Int × Int)) (now c : Int) (hc : 0 ≤ c) : flL es now ≤ c ↔ ∀ i e, es[i]? = some e → sbI (smL (es.drop i)) (sbI now e.1) ≤ c := by
  induction es with
  | nil => simp [flL]; exact hc
  | cons x xs ih =>
    simp only [flL]
    constructor
    · intro h i e he
      have h1 : flL xs now ≤ c := by omega
      cases i with
      | zero => simp at he; subst he; simp only [List.drop_zero]; omega
      | succ i => simp at he; simp only [List.drop_succ_cons]; exact ih.1 h1 i e he
    · intro h
      have h0 := h 0 x rfl
      have h1 := ih.2 (fun i e he => by have := h (i + 1) e (by simpa using he); simpa only [List.drop_succ_cons] using this)
      simp only [List.drop_zero] at h0
      omega

/-- What conforms. -/
def cfB (es : List (Int × Int)) (c : Int) : Bool := (List.range es.length).all fun j => decide (flL (es.take (j + 1)) (es[j]?.getD (0, 0)).1 ≤ c)
theorem cfB_iff (es : List (Int × Int)) (c : Int) : cfB es c = true ↔ ∀ j e, es[j]? = some e → flL (es.take (j + 1)) e.1 ≤ c := by
  unfold cfB
  rw [List.all_eq_true]
  simp only [List.mem_range, decide_eq_true_eq]
  constructor
  · intro h j e he
    have := h j (List.getElem?_eq_some_iff.1 he).1
    rw [he] at this
    exact this
  · intro h j hj
    have he : es[j]? = some (es[j]?.getD (0, 0)) := by simp [hj]
    exact h j _ he
/-- The same, by pairs. -/
def cfP (es : List (Int × Int)) (c : Int) : Prop := ∀ i j ei ej, i ≤ j → es[i]? = some ei → es[j]? = some ej → sbI (smL ((es.drop i).take (j + 1 - i))) (sbI ej.1 ei.1) ≤ c
theorem cfB_pairs (es : List (Int × Int)) (c : Int) (hc : 0 ≤ c) : cfB es c = true ↔ cfP es c := by
  rw [cfB_iff]
  constructor
  · intro h i j ei ej hij hi hj
    have h1 := (flL_le _ _ _ hc).1 (h j ej hj) i ei (by rw [List.getElem?_take, if_pos (by omega)]; exact hi)
    rw [List.drop_take] at h1
    exact h1
  · intro h j ej hj
    rw [flL_le _ _ _ hc]
    intro i ei hi
    rw [List.getElem?_take] at hi
    split at hi
    · rename_i hlt
      rw [List.drop_take]
      exact h i j ei ej (by omega) hi hj
    · cases hi
theorem cfB_false (es : List (Int × Int)) (c : Int) (h : ¬ cfB es c = true) : cfB es c = false := by simpa using h

/-- What rises. -/
def rsB (es : List (Int × Int)) : Bool := (List.range (es.length - 1)).all fun i => decide ((es[i]?.getD (0, 0)).1 ≤ (es[i + 1]?.getD (0, 0)).1)
theorem rsB_iff (es : List (Int × Int)) : rsB es = true ↔ ∀ i e f, es[i]? = some e → es[i + 1]? = some f → e.1 ≤ f.1 := by
  unfold rsB
  rw [List.all_eq_true]
  simp only [List.mem_range, decide_eq_true_eq]
  constructor
  · intro h i e f he hf
    have := h i (by have := (List.getElem?_eq_some_iff.1 hf).1; omega)
    rw [he, hf] at this
    exact this
  · intro h i hi
    have he : es[i]? = some (es[i]?.getD (0, 0)) := by simp [show i < es.length by omega]
    have hf : es[i + 1]? = some (es[i + 1]?.getD (0, 0)) := by simp [show i + 1 < es.length by omega]
    exact h i _ _ he hf
end Go.Proofs.Ytinlppadebdjgaa.Wd
