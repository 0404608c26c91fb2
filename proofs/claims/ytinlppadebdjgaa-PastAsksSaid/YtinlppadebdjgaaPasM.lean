/- Plain facts on histories: what weighs how much, how full a history has a key, and what conforms; no conditions but those that each names. -/
import Derived.Test.YtinlppadebdjgaaNumMath
namespace Go.Proofs.Ytinlppadebdjgaa.Wd
open Go.RowKit
set_option linter.unusedVariables false

def EU (es : List (Int × Int)) : Prop := ∀ e ∈ es, U e.1 ∧ U e.2
def tot : List (Int × Int) → Int
  | [] => 0
  | e :: es => e.2 + tot es
def smL (es : List (Int × Int)) : Int := sat (tot es)
def flL : List (Int × Int) → Int → Int
  | [], _ => 0
  | e :: es, now => max (sbI (smL (e :: es)) (sbI now e.1)) (flL es now)

theorem EU.tail {e : Int × Int} {es : List (Int × Int)} (h : EU (e :: es)) : EU es := fun x hx => h x (by simp [hx])
theorem EU.drop {es : List (Int × Int)} (h : EU es) (k : Nat) : EU (es.drop k) := fun x hx => h x (List.mem_of_mem_drop hx)
theorem EU.take {es : List (Int × Int)} (h : EU es) (k : Nat) : EU (es.take k) := fun x hx => h x (List.mem_of_mem_take hx)
theorem EU.get {es : List (Int × Int)} (h : EU es) {k : Nat} {e : Int × Int} (he : es[k]? = some e) : U e.1 ∧ U e.2 := h e (List.mem_of_getElem? he)
theorem tot_nonneg (es : List (Int × Int)) (h : EU es) : 0 ≤ tot es := by
  induction es with
  | nil => simp [tot]
  | cons e es ih =>
    have h1 := ih h.tail
    have h2 := (h e (by simp)).2
    unfold U at h2
    simp only [tot]; omega
theorem sat_min (x : Int) : sat x = min x 18446744073709551615 := by unfold sat; split <;> omega
theorem smL_U (es : List (Int × Int)) (h : EU es) : U (smL es) := sat_U _ (tot_nonneg es h)
theorem smL_cons (e : Int × Int) (es : List (Int × Int)) (h : EU (e :: es)) : smL (e :: es) = sat (smL es + e.2) := by
  have h1 := tot_nonneg es h.tail
  have h2 := (h e (by simp)).2
  unfold U at h2
  unfold smL
  rw [sat_min, sat_min, sat_min]
  simp only [tot]
  omega
theorem flL_nonneg (es : List (Int × Int)) (now : Int) : 0 ≤ flL es now := by
  induction es with
  | nil => simp [flL]
  | cons e es ih => simp only [flL]; omega
theorem flL_U (es : List (Int × Int)) (now : Int) (h : EU es) (hn : U now) : U (flL es now) := by
  induction es with
  | nil => simp [flL, U]
  | cons e es ih =>
    have h1 := ih h.tail
    have h2 := sbI_U _ _ (smL_U _ h) (sbI_U now e.1 hn (h e (by simp)).1)
    unfold U at *
    simp only [flL]; omega
theorem drop_get {es : List (Int × Int)} {j : Nat} {e : Int × Int} (he : es[j]? = some e) : es.drop j = e :: es.drop (j + 1) := by
  obtain ⟨h1, h2⟩ := List.getElem?_eq_some_iff.1 he
  rw [List.drop_eq_getElem_cons h1, h2]
theorem sm_drop {es : List (Int × Int)} (h : EU es) {j : Nat} {e : Int × Int} (he : es[j]? = some e) : smL (es.drop j) = sat (smL (es.drop (j + 1)) + e.2) := by
  have h1 := h.drop j
  rw [drop_get he] at h1 ⊢
  exact smL_cons _ _ h1
theorem fl_drop {es : List (Int × Int)} (now : Int) {j : Nat} {e : Int × Int} (he : es[j]? = some e) : flL (es.drop j) now = max (sbI (smL (es.drop j)) (sbI now e.1)) (flL (es.drop (j + 1)) now) := by
  rw [drop_get he]; rfl
theorem fl_end (es : List (Int × Int)) (now : Int) : flL (es.drop es.length) now = 0 := by rw [List.drop_length]; rfl
theorem sm_end (es : List (Int × Int)) : smL (es.drop es.length) = 0 := by rw [List.drop_length]; rfl

/-- What the suffixes tell, from the last one on. -/
def sufs (es : List (Int × Int)) : List ((Int × Int) × Int) := (List.range es.length).map fun k => (es[es.length - 1 - k]?.getD (0, 0), smL (es.drop (es.length - 1 - k)))
theorem sufs_length (es : List (Int × Int)) : (sufs es).length = es.length := by simp [sufs]
theorem sufs_get (es : List (Int × Int)) (k : Nat) (h : k < es.length) : (sufs es)[k]? = some (es[es.length - 1 - k]?.getD (0, 0), smL (es.drop (es.length - 1 - k))) := by simp [sufs, h]
end Go.Proofs.Ytinlppadebdjgaa.Wd
