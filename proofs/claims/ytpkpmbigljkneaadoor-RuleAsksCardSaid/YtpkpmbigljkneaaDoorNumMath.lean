/- Plain facts on numbers that stop at their ends: sums and products up to the end; no conditions but those that each names. -/
import Derived.Test.YtpkpmbigljkneaaDoorMath
namespace Go.Proofs.YtpkpmbigljkneaaDoor.Wd
open Go.RowKit

/-- The end, or what is below it. -/
def sat (x : Int) : Int := if x ≤ 18446744073709551615 then x else 18446744073709551615
def stopV (h l : Int) : Int := if h = 0 then l else 18446744073709551615
def addAll (xs : List Int) : Int := xs.foldl (fun s x => sat (s + x)) 0
def sbI (a b : Int) : Int := if a < b then 0 else a - b
def dvI (a b : Int) : Int := if b = 0 then 18446744073709551615 else a / b
def lfI (a b : Int) : Int := if b = 0 then 0 else a % b
def clI (a b : Int) : Int := if b = 0 then 18446744073709551615 else if a % b = 0 then a / b else a / b + 1
def cmI (t : Int) : Int := if t < 0 then 0 else t
def ftB (a b c : Int) : Bool := decide (a + b ≤ c)

theorem sat_U (x : Int) (h : 0 ≤ x) : U (sat x) := by unfold sat U; split <;> omega
theorem stop_add (s x : Int) (hs : U s) (hx : U x) : stopV (adH 0 s 0 x) (adL s x) = sat (s + x) := by
  unfold U at *; unfold stopV adH adL sat; split <;> split <;> omega
theorem stop_mul (a b : Int) (ha : U a) (hb : U b) : stopV (muH a b) (muL a b) = sat (a * b) := by
  have h := mu_prod_le a b ha hb
  unfold stopV muH muL sat; split <;> split <;> omega
theorem fits_less (a b c : Int) (ha : U a) (hb : U b) (hc : U c) : (!ltB 0 c (adH 0 a 0 b) (adL a b)) = ftB a b c := by
  unfold U at *
  unfold ltB adH adL ftB
  rw [Bool.eq_iff_iff]
  simp only [Bool.not_eq_true', decide_eq_false_iff_not, decide_eq_true_eq]
  omega
theorem addAll_snoc (xs : List Int) (x : Int) : addAll (xs ++ [x]) = sat (addAll xs + x) := by unfold addAll; rw [List.foldl_append]; rfl
theorem addAll_take (xs : List Int) (k : Nat) (hk : k < xs.length) : addAll (xs.take (k + 1)) = sat (addAll (xs.take k) + xs.getD k 0) := by
  rw [List.take_succ_eq_append_getElem hk, addAll_snoc]
  congr 2
  simp [List.getD, List.getElem?_eq_getElem hk]
theorem addAll_from (xs : List Int) (s : Int) (hs : U s) (hx : ∀ x ∈ xs, U x) : xs.foldl (fun s x => sat (s + x)) s = sat (s + xs.sum) := by
  induction xs generalizing s with
  | nil => simp; unfold sat U at *; split <;> omega
  | cons x xs ih =>
    have h1 := hx x (by simp)
    rw [List.foldl_cons, ih _ (sat_U _ (by unfold U at *; omega)) (fun y hy => hx y (by simp [hy]))]
    have h2 : 0 ≤ xs.sum := by
      clear ih
      induction xs with
      | nil => simp
      | cons y ys ih2 =>
        have := ih2 (fun z hz => hx z (by simp at hz ⊢; rcases hz with h | h; exact .inl h; exact .inr (.inr h)))
        have := hx y (by simp)
        unfold U at *
        simp; omega
    unfold U at *
    rw [List.sum_cons]
    unfold sat; split <;> split <;> split <;> omega
theorem addAll_sum (xs : List Int) (hx : ∀ x ∈ xs, U x) : addAll xs = sat xs.sum := by
  unfold addAll
  rw [addAll_from xs 0 (by unfold U; omega) hx]
  simp
theorem sum_nonneg (xs : List Int) (hx : ∀ x ∈ xs, U x) : 0 ≤ xs.sum := by
  induction xs with
  | nil => simp
  | cons y ys ih =>
    have := ih (fun z hz => hx z (by simp [hz]))
    have := hx y (by simp)
    unfold U at *
    simp; omega
theorem addAll_U (xs : List Int) (hx : ∀ x ∈ xs, U x) : U (addAll xs) := by
  rw [addAll_sum xs hx]; exact sat_U _ (sum_nonneg xs hx)
theorem addAll_two (a b : Int) (ha : U a) : addAll [a, b] = sat (a + b) := by
  unfold addAll
  simp
  unfold U at *
  unfold sat; split <;> split <;> (try split) <;> omega
theorem addAll_nil : addAll [] = 0 := rfl
theorem le_sum (xs : List Int) (hx : ∀ x ∈ xs, U x) (x : Int) (h : x ∈ xs) : x ≤ xs.sum := by
  induction xs with
  | nil => simp at h
  | cons y ys ih =>
    have n := sum_nonneg ys (fun z hz => hx z (by simp [hz]))
    have := hx y (by simp)
    unfold U at this
    rw [List.sum_cons]
    rcases List.mem_cons.mp h with rfl | h
    · omega
    · have := ih (fun z hz => hx z (by simp [hz])) h
      omega
theorem le_addAll (xs : List Int) (hx : ∀ x ∈ xs, U x) (x : Int) (h : x ∈ xs) : x ≤ addAll xs := by
  rw [addAll_sum xs hx]
  have := le_sum xs hx x h
  have := hx x h
  unfold sat U at *; split <;> omega
theorem addAll_rev (xs : List Int) (hx : ∀ x ∈ xs, U x) : addAll xs.reverse = addAll xs := by
  rw [addAll_sum xs hx, addAll_sum _ (fun x h => hx x (by simpa using h)), List.sum_reverse]
theorem addAll_parts (xs : List Int) (hx : ∀ x ∈ xs, U x) (k : Nat) : addAll [addAll (xs.take k), addAll (xs.drop k)] = addAll xs := by
  have h1 : ∀ x ∈ xs.take k, U x := fun x h => hx x (List.mem_of_mem_take h)
  have h2 : ∀ x ∈ xs.drop k, U x := fun x h => hx x (List.mem_of_mem_drop h)
  rw [addAll_two _ _ (addAll_U _ h1), addAll_sum _ h1, addAll_sum _ h2, addAll_sum xs hx]
  have e : xs.sum = (xs.take k).sum + (xs.drop k).sum := by
    rw [← List.sum_append, List.take_append_drop]
  have n1 := sum_nonneg _ h1
  have n2 := sum_nonneg _ h2
  rw [e]
  unfold sat; (repeat' split) <;> omega
theorem sbI_U (a b : Int) (ha : U a) (hb : U b) : U (sbI a b) := by unfold sbI U at *; split <;> omega
theorem div_le_of (a b : Int) (ha : U a) (hb : U b) : 0 ≤ a / b ∧ a / b ≤ a := ⟨Int.ediv_nonneg ha.1 hb.1, Int.ediv_le_self _ ha.1⟩
theorem dvI_U (a b : Int) (ha : U a) (hb : U b) : U (dvI a b) := by
  have := div_le_of a b ha hb
  unfold dvI U at *; split <;> omega
end Go.Proofs.YtpkpmbigljkneaaDoor.Wd
