/- Plain facts on the words of a text: more blanks change no words; no conditions but those that each names. -/
import Derived.Test.YtdjeehnjodbmaaaWrdQ
namespace Go.Proofs.Ytdjeehnjodbmaaa.Wd
open Go.RowKit
set_option linter.unusedVariables false

/-- The same word, not further left. -/
def Le1 (x y : Wo) : Prop := x.1 = y.1 ∧ x.2.1 = y.2.1 ∧ x.2.2 ≤ y.2.2
def LeL : List Wo → List Wo → Prop
  | [], [] => True
  | x :: a, y :: b => Le1 x y ∧ LeL a b
  | _, _ => False
def LeLL : List (List Wo) → List (List Wo) → Prop
  | [], [] => True
  | x :: a, y :: b => LeL x y ∧ LeLL a b
  | _, _ => False
theorem LeL.len : ∀ {a b : List Wo}, LeL a b → a.length = b.length
  | [], [], _ => rfl
  | x :: a, y :: b, h => by simp [LeL.len h.2]
  | [], _ :: _, h => h.elim
  | _ :: _, [], h => h.elim
theorem LeLL.len : ∀ {a b : List (List Wo)}, LeLL a b → a.length = b.length
  | [], [], _ => rfl
  | x :: a, y :: b, h => by simp [LeLL.len h.2]
  | [], _ :: _, h => h.elim
  | _ :: _, [], h => h.elim
theorem LeL.nil_iff {a b : List Wo} (h : LeL a b) : a = [] ↔ b = [] := by
  have := h.len
  constructor
  · rintro rfl; exact List.eq_nil_of_length_eq_zero this.symm
  · rintro rfl; exact List.eq_nil_of_length_eq_zero this
theorem LeL.push : ∀ {a b : List Wo} {x y : Wo}, LeL a b → Le1 x y → LeL (a ++ [x]) (b ++ [y])
  | [], [], _, _, _, h => ⟨h, trivial⟩
  | x :: a, y :: b, _, _, g, h => ⟨g.1, LeL.push g.2 h⟩
  | [], _ :: _, _, _, g, _ => g.elim
  | _ :: _, [], _, _, g, _ => g.elim
theorem LeLL.push : ∀ {a b : List (List Wo)} {x y : List Wo}, LeLL a b → LeL x y → LeLL (a ++ [x]) (b ++ [y])
  | [], [], _, _, _, h => ⟨h, trivial⟩
  | x :: a, y :: b, _, _, g, h => ⟨g.1, LeLL.push g.2 h⟩
  | [], _ :: _, _, _, g, _ => g.elim
  | _ :: _, [], _, _, g, _ => g.elim
theorem LeL.at : ∀ {a b : List Wo} (k : Nat) (x : Wo), LeL a b → a[k]? = some x → ∃ y, b[k]? = some y ∧ Le1 x y
  | [], [], k, x, _, h => by simp at h
  | u :: a, v :: b, 0, x, g, h => by simp at h; subst h; exact ⟨v, rfl, g.1⟩
  | u :: a, v :: b, k + 1, x, g, h => by
    obtain ⟨y, h1, h2⟩ := LeL.at k x g.2 (by simpa using h)
    exact ⟨y, by simpa using h1, h2⟩
  | [], _ :: _, _, _, h, _ => h.elim
  | _ :: _, [], _, _, h, _ => h.elim
theorem LeLL.at : ∀ {a b : List (List Wo)} (k : Nat) (x : List Wo), LeLL a b → a[k]? = some x → ∃ y, b[k]? = some y ∧ LeL x y
  | [], [], k, x, _, h => by simp at h
  | u :: a, v :: b, 0, x, g, h => by simp at h; subst h; exact ⟨v, rfl, g.1⟩
  | u :: a, v :: b, k + 1, x, g, h => by
    obtain ⟨y, h1, h2⟩ := LeLL.at k x g.2 (by simpa using h)
    exact ⟨y, by simpa using h1, h2⟩
  | [], _ :: _, _, _, h, _ => h.elim
  | _ :: _, [], _, _, h, _ => h.elim
def LeM : Mo → Mo → Prop
  | .gap, .gap => True
  | .rem, .rem => True
  | .wrd x c, .wrd y d => x = y ∧ c ≤ d
  | _, _ => False
theorem shut_le {m m' : Mo} {n : Nat} {line line' : List Wo} (hm : LeM m m') (h : LeL line line') : LeL (shutL m n line) (shutL m' n line') := by
  cases m <;> cases m' <;> first | exact h | exact hm.elim | skip
  exact h.push ⟨hm.1, rfl, hm.2⟩
theorem flush_le {line line' : List Wo} {lines lines' : List (List Wo)} (h : LeL line line') (hs : LeLL lines lines') : LeLL (flush line lines) (flush line' lines') := by
  unfold flush
  by_cases e : line = []
  · rw [if_pos e, if_pos (h.nil_iff.1 e)]; exact hs
  · rw [if_neg e, if_neg (fun e' => e (h.nil_iff.2 e'))]; exact hs.push h
theorem seen_le {b : UInt8} {m m' : Mo} {c c' : Nat} {line line' : List Wo} (hm : LeM m m') (hc : c ≤ c') (h : LeL line line') : LeM (seen b m c line) (seen b m' c' line') := by
  cases m <;> cases m' <;> first | exact hm.elim | exact trivial | skip
  · by_cases e : kd b = 4 ∧ line = []
    · have e1 : seen b .gap c line = .rem := if_pos e
      have e2 : seen b .gap c' line' = .rem := if_pos ⟨e.1, h.nil_iff.1 e.2⟩
      rw [e1, e2]; exact trivial
    · have e1 : seen b .gap c line = .wrd [b] c := if_neg e
      have e2 : seen b .gap c' line' = .wrd [b] c' := if_neg (fun g => e ⟨g.1, h.nil_iff.2 g.2⟩)
      rw [e1, e2]; exact ⟨rfl, hc⟩
  · exact ⟨by rw [hm.1], hm.2⟩
theorem blank_le {m m' : Mo} (hm : LeM m m') : LeM (blanked m) (blanked m') := by
  cases m <;> cases m' <;> first | exact hm.elim | exact trivial

/-- Blanks are gone past. -/
theorem aut_blanks {m : Mo} (hm : m = .gap ∨ m = .rem) : ∀ (z r : List UInt8) (n c : Nat) (line : List Wo) (lines : List (List Wo)), (∀ b ∈ z, kd b = 2) → aut (z ++ r) m n c line lines = aut r m n (c + z.length) line lines
  | [], r, n, c, line, lines, _ => rfl
  | b :: z, r, n, c, line, lines, hz => by
    have h := hz b (List.mem_cons_self)
    have e1 : blanked m = m := by rcases hm with rfl | rfl <;> rfl
    have e2 : shutL m n line = line := by rcases hm with rfl | rfl <;> rfl
    rw [List.cons_append, aut_2 h, e1, e2, aut_blanks hm z r _ _ _ _ (fun x hx => hz x (List.mem_cons_of_mem _ hx)), List.length_cons]
    rw [show c + 1 + z.length = c + (z.length + 1) by omega]
/-- So many blanks, of both kinds in turn. -/
def blk (k : Nat) : List UInt8 := (List.range k).map fun j => if j % 2 = 0 then 32 else 9
theorem blk_kd (k : Nat) : ∀ b ∈ blk k, kd b = 2 := by
  intro b hb
  obtain ⟨j, _, rfl⟩ := List.mem_map.1 hb
  split <;> decide
theorem blk_succ (k : Nat) : blk (k + 1) = blk k ++ [if k % 2 = 0 then 32 else 9] := by simp [blk, List.range_succ]
theorem blk_len (k : Nat) : (blk k).length = k := by simp [blk]
/-- More blanks behind each blank of one kind, and ahead of each line. -/
def ins1 (k : Nat) (b : UInt8) : List UInt8 := b :: (if b = 32 ∨ b = 10 then blk k else [])
def ins (k : Nat) (t : List UInt8) : List UInt8 := t.flatMap (ins1 k)
theorem ins_cons (k : Nat) (b : UInt8) (t : List UInt8) : ins k (b :: t) = b :: ((if b = 32 ∨ b = 10 then blk k else []) ++ ins k t) := by simp [ins, ins1]
theorem ins_len (k : Nat) (t : List UInt8) : (ins k t).length ≤ (k + 1) * t.length := by
  induction t with
  | nil => simp [ins]
  | cons b t ih =>
    rw [ins_cons, List.length_cons, List.length_append, List.length_cons, Nat.mul_add, Nat.mul_one]
    split
    · rw [blk_len]; omega
    · simp; omega
theorem aut_ins (k : Nat) : ∀ (t : List UInt8) (m m' : Mo) (n c c' : Nat) (line line' : List Wo) (lines lines' : List (List Wo)), c ≤ c' → LeM m m' → LeL line line' → LeLL lines lines' →
    (aut t m n c line lines).er = (aut (ins k t) m' n c' line' lines').er ∧ LeLL (aut t m n c line lines).rows (aut (ins k t) m' n c' line' lines').rows
  | [], m, m', n, c, c', line, line', lines, lines', hc, hm, hl, hs => ⟨rfl, flush_le (shut_le hm hl) hs⟩
  | b :: t, m, m', n, c, c', line, line', lines, lines', hc, hm, hl, hs => by
    rw [ins_cons]
    rcases aut_ways b with h | h | h | h
    · rw [aut_1 h, aut_1 h]; exact ⟨rfl, trivial⟩
    · rw [aut_2 h, aut_2 h]
      have hmm : blanked m' = .gap ∨ blanked m' = .rem := by cases m' <;> first | exact .inl rfl | exact .inr rfl
      rw [aut_blanks hmm _ _ _ _ _ _ (by split; exact blk_kd k; intro b hb; cases hb)]
      exact aut_ins k t _ _ _ _ _ _ _ _ _ (by omega) (blank_le hm) (shut_le hm hl) hs
    · rw [aut_3 h, aut_3 h, aut_blanks (.inl rfl) _ _ _ _ _ _ (by split; exact blk_kd k; intro b hb; cases hb)]
      exact aut_ins k t _ _ _ _ _ _ _ _ _ (by omega) trivial trivial (flush_le (shut_le hm hl) hs)
    · have hne : ¬ (b = 32 ∨ b = 10) := by
        intro e
        have := vs_kd h
        rcases e with rfl | rfl <;> revert this <;> decide
      rw [aut_v h, aut_v h, if_neg hne, List.nil_append]
      exact aut_ins k t _ _ _ _ _ _ _ _ _ (by omega) (seen_le hm hc hl) hl hs
theorem spl_ins (k : Nat) (t : List UInt8) (h1 : t.length ≤ 1048576) (h2 : (ins k t).length ≤ 1048576) : (spl t).er = (spl (ins k t)).er ∧ LeLL (spl t).rows (spl (ins k t)).rows := by
  unfold spl
  rw [if_neg (by omega), if_neg (by omega)]
  exact aut_ins k t _ _ _ _ _ _ _ _ _ (Nat.le_refl _) trivial trivial trivial
theorem ins_take (k : Nat) (t : List UInt8) (i : Nat) (h : i < t.length) : ins k (t.take (i + 1)) = ins k (t.take i) ++ (t.getD i 0 :: (if t.getD i 0 = 32 ∨ t.getD i 0 = 10 then blk k else [])) := by
  unfold ins
  rw [List.take_add_one, List.flatMap_append, List.getD_eq_getElem?_getD, List.getElem?_eq_getElem h]; simp [ins1]
end Go.Proofs.Ytdjeehnjodbmaaa.Wd
