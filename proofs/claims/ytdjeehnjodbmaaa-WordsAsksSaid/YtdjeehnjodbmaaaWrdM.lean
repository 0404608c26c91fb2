/- Plain facts on the words of a text: what is met byte by byte, and what is told of it; no conditions but those that each names. -/
import Derived.Test.YtdjeehnjodbmaaaMath
import Derived.Test.YtdjeehnjodbmaaaRows
namespace Go.Proofs.Ytdjeehnjodbmaaa.Wd
open Go.RowKit

/-- The kind of a byte. -/
def kd (c : UInt8) : Nat := if c = 32 ∨ c = 9 then 2 else if c = 10 then 3 else if c = 35 then 4 else if 33 ≤ c ∧ c ≤ 126 then 5 else 1
theorem kd_cases (c : UInt8) : kd c = 1 ∨ kd c = 2 ∨ kd c = 3 ∨ kd c = 4 ∨ kd c = 5 := by
  unfold kd
  split
  · omega
  · split
    · omega
    · split
      · omega
      · split <;> omega
theorem kd_two (c : UInt8) : kd c = 2 ↔ c = 32 ∨ c = 9 := by
  unfold kd
  repeat' split
  all_goals simp_all
theorem kd_three (c : UInt8) : kd c = 3 ↔ c = 10 := by
  unfold kd
  constructor
  · intro h
    split at h
    · omega
    · split at h
      · assumption
      · split at h
        · omega
        · split at h <;> omega
  · rintro rfl; decide
theorem kd_four (c : UInt8) : kd c = 4 ↔ c = 35 := by
  unfold kd
  constructor
  · intro h
    split at h
    · omega
    · split at h
      · omega
      · split at h
        · assumption
        · split at h <;> omega
  · rintro rfl; decide
theorem kd_five (c : UInt8) (h : kd c = 5) : 33 ≤ c ∧ c ≤ 126 := by
  unfold kd at h
  split at h
  · omega
  · split at h
    · omega
    · split at h
      · omega
      · split at h
        · assumption
        · omega
/-- Visible. -/
def vs (c : UInt8) : Bool := decide (4 ≤ kd c)

/-- A word: its bytes, its line, its place in it. -/
abbrev Wo := List UInt8 × Nat × Nat
/-- What is told of a text. -/
structure Res where
  er : Nat
  ln : Nat
  cl : Nat
  rows : List (List Wo)
def Res.bad (n c : Nat) : Res := ⟨20, n, c, []⟩
def Res.ok (ls : List (List Wo)) : Res := ⟨0, 0, 0, ls⟩
def Res.long : Res := ⟨21, 0, 0, []⟩

/-- Where one is: between words, behind what opens a remark, or in a word. -/
inductive Mo where
  | gap
  | rem
  | wrd (x : List UInt8) (c : Nat)
/-- A line's words, with the one that one is in. -/
def shutL (m : Mo) (n : Nat) (line : List Wo) : List Wo :=
  match m with
  | .wrd x c => line ++ [(x, n, c)]
  | _ => line
/-- Lines, with one more if it has words. -/
def flush (line : List Wo) (lines : List (List Wo)) : List (List Wo) := if line = [] then lines else lines ++ [line]
/-- What one is behind a visible byte. -/
def seen (b : UInt8) (m : Mo) (c : Nat) (line : List Wo) : Mo :=
  match m with
  | .gap => if kd b = 4 ∧ line = [] then .rem else .wrd [b] c
  | .rem => .rem
  | .wrd x c0 => .wrd (x ++ [b]) c0
/-- What one is behind a blank. -/
def blanked (m : Mo) : Mo :=
  match m with
  | .rem => .rem
  | _ => .gap

def aut : List UInt8 → Mo → Nat → Nat → List Wo → List (List Wo) → Res
  | [], m, n, _, line, lines => .ok (flush (shutL m n line) lines)
  | b :: t, m, n, c, line, lines =>
    if kd b = 1 then .bad n c
    else if kd b = 2 then aut t (blanked m) n (c + 1) (shutL m n line) lines
    else if kd b = 3 then aut t .gap (n + 1) 1 [] (flush (shutL m n line) lines)
    else aut t (seen b m c line) n (c + 1) line lines

/-- What is told of a text. -/
def spl (bs : List UInt8) : Res := if 1048576 < bs.length then .long else aut bs .gap 1 1 [] []

section
variable {b : UInt8} {t : List UInt8} {m : Mo} {n c : Nat} {line : List Wo} {lines : List (List Wo)}
theorem aut_1 (h : kd b = 1) : aut (b :: t) m n c line lines = .bad n c := by rw [aut, if_pos h]
theorem aut_2 (h : kd b = 2) : aut (b :: t) m n c line lines = aut t (blanked m) n (c + 1) (shutL m n line) lines := by rw [aut, if_neg (by omega), if_pos h]
theorem aut_3 (h : kd b = 3) : aut (b :: t) m n c line lines = aut t .gap (n + 1) 1 [] (flush (shutL m n line) lines) := by rw [aut, if_neg (by omega), if_neg (by omega), if_pos h]
theorem aut_v (h : vs b = true) : aut (b :: t) m n c line lines = aut t (seen b m c line) n (c + 1) line lines := by
  have h' : 4 ≤ kd b := of_decide_eq_true h
  rw [aut, if_neg (by omega), if_neg (by omega), if_neg (by omega)]
theorem not_vs (h : vs b = false) : kd b = 1 ∨ kd b = 2 ∨ kd b = 3 := by
  have h' : ¬ 4 ≤ kd b := of_decide_eq_false h
  have := kd_cases b
  omega
end

/-- A word is gone through. -/
theorem aut_word : ∀ (r x : List UInt8) (c0 n c : Nat) (line : List Wo) (lines : List (List Wo)),
    aut r (.wrd x c0) n c line lines = aut (r.dropWhile vs) .gap n (c + (r.takeWhile vs).length) (line ++ [(x ++ r.takeWhile vs, n, c0)]) lines
  | [], x, c0, n, c, line, lines => by simp [aut, shutL]
  | b :: t, x, c0, n, c, line, lines => by
    cases h : vs b with
    | true =>
      rw [aut_v h, List.dropWhile_cons, List.takeWhile_cons, if_pos h, if_pos h]
      show aut t (.wrd (x ++ [b]) c0) n (c + 1) line lines = _
      rw [aut_word t]
      simp only [List.length_cons, List.append_assoc, List.cons_append, List.nil_append]
      rw [show c + 1 + (t.takeWhile vs).length = c + ((t.takeWhile vs).length + 1) by omega]
    | false =>
      rw [List.dropWhile_cons, List.takeWhile_cons, if_neg (by rw [h]; decide), if_neg (by rw [h]; decide)]
      simp only [List.append_nil, List.length_nil, Nat.add_zero]
      rcases not_vs h with h | h | h
      · rw [aut_1 h, aut_1 h]
      · rw [aut_2 h, aut_2 h]; rfl
      · rw [aut_3 h, aut_3 h]; rfl
/-- A word begins. -/
theorem aut_begin {b : UInt8} {t : List UInt8} {n c : Nat} {line : List Wo} {lines : List (List Wo)} (h : vs b = true) (h4 : kd b = 4 → line ≠ []) :
    aut (b :: t) .gap n c line lines = aut (t.dropWhile vs) .gap n (c + 1 + (t.takeWhile vs).length) (line ++ [(b :: t.takeWhile vs, n, c)]) lines := by
  rw [aut_v h]
  have e : seen b .gap c line = .wrd [b] c := if_neg (fun g => h4 g.1 g.2)
  rw [e, aut_word]; rfl
/-- A remark that has come to its end. -/
theorem aut_rem {r : List UInt8} {n c : Nat} {lines : List (List Wo)} (h : ∀ b t, r = b :: t → kd b = 1 ∨ kd b = 3) : aut r .rem n c [] lines = aut r .gap n c [] lines := by
  cases r with
  | nil => rfl
  | cons b t =>
    rcases h b t rfl with h | h
    · rw [aut_1 h, aut_1 h]
    · rw [aut_3 h, aut_3 h]; rfl
end Go.Proofs.Ytdjeehnjodbmaaa.Wd
