/- Plain facts on histories: time that goes on, one event more, parts, and what is moved; no conditions but those that each names. -/
import Derived.Test.YtinlppadebdjgaaPasM2
namespace Go.Proofs.Ytinlppadebdjgaa.Wd
open Go.RowKit
set_option linter.unusedVariables false

theorem sbI_max (a b : Int) : sbI a b = max 0 (a - b) := by unfold sbI; split <;> omega
theorem flL_later (es : List (Int × Int)) (now d : Int) (hd : 0 ≤ d) (h : ∀ e ∈ es, e.1 ≤ now) : flL es (now + d) = sbI (flL es now) d := by
  induction es with
  | nil => simp only [flL, sbI_max]; omega
  | cons e es ih =>
    have h1 := ih (fun x hx => h x (by simp [hx]))
    have h2 := h e (by simp)
    simp only [flL]
    rw [h1]
    generalize smL (e :: es) = s
    generalize flL es now = f
    unfold sbI
    (repeat' split) <;> omega

theorem tot_drop_le (es : List (Int × Int)) (h : EU es) (i : Nat) : tot (es.drop i) ≤ tot es := by
  have e : tot es = tot (es.take i) + tot (es.drop i) := by rw [← tot_append, List.take_append_drop]
  have := tot_nonneg _ (h.take i)
  omega
theorem sat_le {x y : Int} (h : x ≤ y) : sat x ≤ sat y := by rw [sat_min, sat_min]; omega
theorem flL_sum (es : List (Int × Int)) (now : Int) (h : EU es) : flL es now ≤ smL es := by
  have hs := (smL_U es h).1
  rw [flL_le _ _ _ hs]
  intro i e he
  have h1 : smL (es.drop i) ≤ smL es := sat_le (tot_drop_le es h i)
  have h2 := (smL_U _ (h.drop i)).1
  unfold sbI
  (repeat' split) <;> omega
/-- What is long ago counts for nothing. -/
theorem flL_long (es : List (Int × Int)) (last s : Int) (h : EU es) (hl : ∀ e ∈ es, e.1 ≤ last) (hs : tot es ≤ s) : flL es (last + s) = 0 := by
  have h0 := flL_nonneg es (last + s)
  have h1 : flL es (last + s) ≤ 0 := by
    rw [flL_le _ _ _ (by omega)]
    intro i e he
    have h2 := hl e (List.mem_of_getElem? he)
    have h3 : smL (es.drop i) ≤ s := by
      have := tot_drop_le es h i
      unfold smL
      rw [sat_min]
      omega
    have h4 := tot_nonneg es h
    unfold sbI
    (repeat' split) <;> omega
  omega
/-- One event more, at now. -/
theorem flL_snoc (es : List (Int × Int)) (t x : Int) (h : EU es) (hx : 0 ≤ x) (hs : tot es + x ≤ 18446744073709551615) : flL (es ++ [(t, x)]) t = flL es t + x := by
  induction es with
  | nil => simp only [tot] at hs; simp only [List.nil_append, flL, smL, tot, sat_min, sbI_max]; omega
  | cons e es ih =>
    have h2 := (h e (by simp)).2
    have h3 := tot_nonneg es h.tail
    have h1 := ih h.tail (by simp only [tot] at hs; unfold U at h2; omega)
    have h4 := flL_nonneg es t
    simp only [List.cons_append, flL]
    rw [h1]
    have e1 : smL (e :: es ++ [(t, x)]) = e.2 + tot es + x := by
      unfold smL
      rw [tot_append, sat_min]
      simp only [tot] at hs ⊢
      omega
    have e2 : smL (e :: es) = e.2 + tot es := by
      unfold smL
      rw [sat_min]
      simp only [tot] at hs ⊢
      omega
    rw [List.cons_append] at e1
    rw [e1, e2]
    unfold U at h2
    generalize flL es t = f at *
    generalize sbI t e.1 = c at *
    unfold sbI
    (repeat' split) <;> omega
theorem cfB_snoc (es : List (Int × Int)) (e : Int × Int) (c : Int) : cfB (es ++ [e]) c = true ↔ cfB es c = true ∧ flL (es ++ [e]) e.1 ≤ c := by
  rw [cfB_iff, cfB_iff]
  constructor
  · intro h
    refine ⟨fun j x hx => ?_, ?_⟩
    · have hj := (List.getElem?_eq_some_iff.1 hx).1
      have := h j x (by rw [List.getElem?_append_left hj]; exact hx)
      rwa [List.take_append_of_le_length (by omega)] at this
    · have := h es.length e (by simp)
      rwa [List.take_of_length_le (by simp)] at this
  · rintro ⟨h1, h2⟩ j x hx
    by_cases hj : j < es.length
    · rw [List.getElem?_append_left hj] at hx
      rw [List.take_append_of_le_length (by omega)]
      exact h1 j x hx
    · have hl := (List.getElem?_eq_some_iff.1 hx).1
      simp at hl
      obtain rfl : j = es.length := by omega
      simp at hx
      subst hx
      rw [List.take_of_length_le (by simp)]
      exact h2
theorem cfB_nil (c : Int) : cfB [] c = true := rfl
/-- What conforms conforms in parts. -/
theorem cfB_part (es : List (Int × Int)) (c : Int) (hc : 0 ≤ c) (h : cfB es c = true) (i m : Nat) : cfB ((es.drop i).take m) c = true := by
  rw [cfB_pairs _ _ hc] at h ⊢
  intro a b ea eb hab ha hb
  rw [List.getElem?_take] at ha hb
  split at hb
  · rename_i hbm
    rw [if_pos (by omega)] at ha
    rw [List.getElem?_drop] at ha hb
    have := h (i + a) (i + b) ea eb (by omega) ha hb
    have e : ((es.drop i).take m).drop a = ((es.drop (i + a)).take (m - a)) := by rw [List.drop_take, List.drop_drop]
    rw [e, List.take_take, Nat.min_eq_left (by omega), show b + 1 - a = i + b + 1 - (i + a) by omega]
    exact this
  · cases hb
theorem cfB_more (es : List (Int × Int)) (c d : Int) (h : cfB es c = true) (hd : c ≤ d) : cfB es d = true := by
  rw [cfB_iff] at h ⊢
  intro j e he
  have := h j e he
  omega
theorem cfB_last (es : List (Int × Int)) (c : Int) (h : cfB es c = true) {e : Int × Int} (he : es[es.length - 1]? = some e) : flL es e.1 ≤ c := by
  rw [cfB_iff] at h
  have hl := (List.getElem?_eq_some_iff.1 he).1
  have := h _ e he
  rwa [List.take_of_length_le (by omega)] at this

/-- All moved by as much. -/
def mvL (es : List (Int × Int)) (by' : Int) : List (Int × Int) := es.map fun e => (e.1 + by', e.2)
theorem tot_mv (es : List (Int × Int)) (b : Int) : tot (mvL es b) = tot es := by
  induction es with
  | nil => rfl
  | cons e es ih => simp only [mvL, List.map_cons, tot] at ih ⊢; rw [ih]
theorem flL_mv (es : List (Int × Int)) (now b : Int) : flL (mvL es b) (now + b) = flL es now := by
  induction es with
  | nil => rfl
  | cons e es ih =>
    have e1 : smL (mvL (e :: es) b) = smL (e :: es) := by unfold smL; rw [tot_mv]
    simp only [mvL, List.map_cons, flL] at ih e1 ⊢
    rw [ih, e1]
    have e2 : sbI (now + b) (e.1 + b) = sbI now e.1 := by unfold sbI; split <;> split <;> omega
    rw [e2]
theorem mv_length (es : List (Int × Int)) (b : Int) : (mvL es b).length = es.length := by simp [mvL]
theorem cfB_mv (es : List (Int × Int)) (c b : Int) : cfB (mvL es b) c = cfB es c := by
  rw [Bool.eq_iff_iff, cfB_iff, cfB_iff]
  constructor
  · intro h j e he
    have := h j (e.1 + b, e.2) (by simp [mvL, he])
    rw [show (mvL es b).take (j + 1) = mvL (es.take (j + 1)) b by simp [mvL, List.map_take]] at this
    rwa [flL_mv] at this
  · intro h j e he
    simp only [mvL, List.getElem?_map, Option.map_eq_some_iff] at he
    obtain ⟨x, hx, rfl⟩ := he
    have := h j x hx
    rw [show (mvL es b).take (j + 1) = mvL (es.take (j + 1)) b by simp [mvL, List.map_take]]
    dsimp only
    rwa [flL_mv]
theorem mv_snoc (es : List (Int × Int)) (t x b : Int) : mvL es b ++ [(t + b, x)] = mvL (es ++ [(t, x)]) b := by simp [mvL]

/-- One event, and two at one time. -/
theorem fl_one (t x d : Int) (hx : U x) (hd : 0 ≤ d) : flL [(t, x)] (t + d) = sbI x d := by
  unfold U at hx
  simp only [flL, smL, tot, sat_min, sbI]
  (repeat' split) <;> omega
theorem fl_two (t x y now : Int) (hx : 0 ≤ x) (hy : 0 ≤ y) : flL [(t, x), (t, y)] now = flL [(t, x + y)] now := by
  simp only [flL, smL, tot, sat_min]
  generalize sbI now t = c
  simp only [sbI]
  (repeat' split) <;> omega
theorem cf_two (t x y c : Int) (hx : 0 ≤ x) (hy : 0 ≤ y) : cfB [(t, x), (t, y)] c = cfB [(t, x + y)] c := by
  rw [Bool.eq_iff_iff]
  rw [show [(t, x), (t, y)] = [(t, x)] ++ [(t, y)] from rfl, cfB_snoc, show [(t, x)] = [] ++ [(t, x)] from rfl, cfB_snoc, show [(t, x + y)] = [] ++ [(t, x + y)] from rfl, cfB_snoc]
  simp only [List.nil_append, List.cons_append, cfB_nil, true_and]
  rw [fl_two t x y t hx hy]
  constructor
  · exact fun h => h.2
  · intro h
    refine ⟨?_, h⟩
    simp only [flL, smL, tot, sat_min, sbI] at h ⊢
    (repeat' split at h) <;> (repeat' split) <;> omega
theorem cf_one (t x c : Int) (hx : U x) (hc : 0 ≤ c) : cfB [(t, x)] c = decide (x ≤ c) := by
  unfold U at hx
  rw [Bool.eq_iff_iff, show [(t, x)] = [] ++ [(t, x)] from rfl, cfB_snoc]
  simp only [List.nil_append, cfB_nil, true_and, decide_eq_true_eq]
  have := fl_one t x 0 hx (by omega)
  rw [Int.add_zero] at this
  rw [this]
  unfold sbI
  split <;> omega
end Go.Proofs.Ytinlppadebdjgaa.Wd
