/- How long a joined text is at most, and a row of bytes as a text; no conditions but those that each names. -/
import Derived.Test.YtdjeehnjodbmaaaWrdI
import Derived.Test.YtdjeehnjodbmaaaWrdH2
namespace Go.Proofs.Ytdjeehnjodbmaaa.Wd
open Go Go.RowKit
set_option linter.unusedVariables false
set_option linter.unusedSimpArgs false

def wsum (xs : List (List UInt8)) : Nat := (xs.map List.length).sum
def wt (lss : List (List (List UInt8))) : Nat := (lss.map fun l => 1 + l.length + wsum l).sum
theorem jw_true_len : ∀ l : List (List UInt8), (jw true l).length = l.length + wsum l
  | [] => rfl
  | x :: r => by
    have := jw_true_len r
    simp [jw, wsum] at this ⊢
    omega
theorem jw_false_len (l : List (List UInt8)) : (jw false l).length ≤ l.length + wsum l := by
  cases l with
  | nil => simp [jw]
  | cons x r =>
    have := jw_true_len r
    simp [jw, wsum] at this ⊢
    omega
theorem jn_len : ∀ lss : List (List (List UInt8)), (jn lss).length ≤ wt lss
  | [] => Nat.le_refl _
  | l :: r => by
    have h1 := jn_len r
    have h2 := jw_false_len l
    have e : jn (l :: r) = (jw false l ++ [10]) ++ jn r := by unfold jn; rw [List.flatMap_cons]
    have e2 : wt (l :: r) = (1 + l.length + wsum l) + wt r := by unfold wt; rw [List.map_cons, List.sum_cons]
    rw [e, e2, List.length_append, List.length_append, List.length_singleton]
    omega
theorem sum_take (f : List UInt8 → Nat) : ∀ (xs : List (List UInt8)) (i : Nat), i < xs.length → ((xs.take (i + 1)).map f).sum = ((xs.take i).map f).sum + f (xs.getD i [])
  | [], i, h => absurd h (by simp)
  | x :: r, 0, _ => by simp
  | x :: r, i + 1, h => by
    have := sum_take f r i (by simpa using h)
    simp only [List.take_succ_cons, List.map_cons, List.sum_cons, List.getD_cons_succ] at this ⊢
    omega
theorem wsum_take {xs : List (List UInt8)} {i : Nat} (h : i < xs.length) : wsum (xs.take (i + 1)) = wsum (xs.take i) + (xs.getD i []).length := sum_take _ xs i h
theorem wt_take : ∀ {lss : List (List (List UInt8))} {i : Nat}, i < lss.length → wt (lss.take (i + 1)) = wt (lss.take i) + (1 + (lss.getD i []).length + wsum (lss.getD i []))
  | [], i, h => absurd h (by simp)
  | x :: r, 0, _ => by simp [wt]
  | x :: r, i + 1, h => by
    have := @wt_take r i (by simpa using h)
    unfold wt at this ⊢
    simp only [List.take_succ_cons, List.map_cons, List.sum_cons, List.getD_cons_succ] at this ⊢
    omega

/-- All of a row of bytes as a text. -/
theorem all_str {w : World} {A : Option Addr} {N : Nat} {bs : List UInt8} (hT : Txt w A N bs) (cap : Nat) : (convert 22 9 (.slice A N cap)).run Try.prog w = .ok (.string (str bs)) w := by
  cases A with
  | none =>
    have h0 : N = 0 := by
      rcases Nat.eq_zero_or_pos N with h | h
      · exact h
      · obtain ⟨_, _, e, _⟩ := hT.2 h; cases e
    subst h0
    have hb : bs = [] := List.eq_nil_of_length_eq_zero hT.1
    subst hb
    rw [run_convert_bytes_string w 22 9 5 none 0 cap Try.underlying22 Try.underlying5 Try.underlying9]
    rfl
  | some ad =>
    have h := run_convert_bytes_back w 22 9 5 ad cap bs Try.underlying22 Try.underlying5 Try.underlying9 (fun j hj => by
      obtain ⟨b', off', e', hb, hc⟩ := hT.2 (by rw [← hT.1]; omega)
      simp only [Option.some.injEq] at e'
      subst e'
      rw [Go.WideShapes.add_plain, hc j (by rw [← hT.1]; exact hj)]
      simp [List.getD_eq_getElem?_getD, List.getElem?_eq_getElem hj])
    rw [hT.1] at h
    exact h
end Go.Proofs.Ytdjeehnjodbmaaa.Wd
