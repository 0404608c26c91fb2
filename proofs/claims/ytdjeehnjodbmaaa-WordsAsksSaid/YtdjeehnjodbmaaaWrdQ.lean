/- Plain facts on the words of a text: what is told of two texts, one behind the other; that no line told is without words; how great places are; no conditions but those that each names. -/
import Derived.Test.YtdjeehnjodbmaaaWrdL
namespace Go.Proofs.Ytdjeehnjodbmaaa.Wd
open Go.RowKit
set_option linter.unusedVariables false

theorem flush_nil (L : List (List Wo)) : flush [] L = L := rfl
theorem flush_front (line : List Wo) (L lines : List (List Wo)) : flush line (L ++ lines) = L ++ flush line lines := by
  unfold flush
  split
  · rfl
  · rw [List.append_assoc]
theorem aut_nil (m : Mo) (n c : Nat) (line : List Wo) (lines : List (List Wo)) : aut [] m n c line lines = .ok (flush (shutL m n line) lines) := by rw [aut]

/-- Four ways of a byte. -/
theorem aut_ways (b : UInt8) : kd b = 1 ∨ kd b = 2 ∨ kd b = 3 ∨ vs b = true := by
  rcases kd_cases b with h | h | h | h
  · exact .inl h
  · exact .inr (.inl h)
  · exact .inr (.inr (.inl h))
  · exact .inr (.inr (.inr (by unfold vs; rw [decide_eq_true_iff]; omega)))
theorem vs_kd {b : UInt8} (h : vs b = true) : 4 ≤ kd b := of_decide_eq_true h
theorem bad_cons (b : UInt8) (t : List UInt8) : badB (b :: t) = (decide (kd b = 1) || badB t) := by simp [badB]
theorem bad_tail {b : UInt8} {t : List UInt8} (h : badB (b :: t) = false) : kd b ≠ 1 ∧ badB t = false := by
  rw [bad_cons, Bool.or_eq_false_iff] at h
  exact ⟨of_decide_eq_false h.1, h.2⟩
theorem bad_app (a b : List UInt8) : badB (a ++ b) = (badB a || badB b) := by simp [badB]

/-- How many ends of lines. -/
def cnt (l : List UInt8) : Nat := (l.filter fun b => decide (b = 10)).length
theorem cnt_cons (b : UInt8) (t : List UInt8) : cnt (b :: t) = (if b = 10 then 1 else 0) + cnt t := by
  unfold cnt
  rw [List.filter_cons]
  by_cases h : b = 10
  · simp [h]; omega
  · simp [h]
theorem cnt_app (a b : List UInt8) : cnt (a ++ b) = cnt a + cnt b := by simp [cnt]
theorem cnt_le (l : List UInt8) : cnt l ≤ l.length := List.length_filter_le _ _

/-- A text, an end of a line, and another text. -/
theorem aut_app (q : List UInt8) : ∀ (p : List UInt8) (m : Mo) (n c : Nat) (line : List Wo) (lines : List (List Wo)), badB p = false →
    aut (p ++ 10 :: q) m n c line lines = aut q .gap (n + cnt p + 1) 1 [] (aut (p ++ [10]) m n c line lines).rows
  | [], m, n, c, line, lines, _ => by
    have h : kd 10 = 3 := by decide
    rw [List.nil_append, List.nil_append, aut_3 h, aut_3 h, aut_nil]
    rfl
  | b :: t, m, n, c, line, lines, hb => by
    obtain ⟨h1, h2⟩ := bad_tail hb
    rw [List.cons_append, List.cons_append, cnt_cons]
    rcases aut_ways b with h | h | h | h
    · exact absurd h h1
    · rw [aut_2 h, aut_2 h, aut_app q t _ _ _ _ _ h2, if_neg (by intro e; rw [e] at h; revert h; decide), Nat.zero_add]
    · rw [aut_3 h, aut_3 h, aut_app q t _ _ _ _ _ h2, if_pos ((kd_three b).1 h), show n + 1 + cnt t + 1 = n + (1 + cnt t) + 1 by omega]
    · rw [aut_v h, aut_v h, aut_app q t _ _ _ _ _ h2, if_neg (by intro e; rw [e] at h; revert h; decide), Nat.zero_add]
/-- Lines ahead. -/
theorem aut_front (L : List (List Wo)) : ∀ (q : List UInt8) (m : Mo) (n c : Nat) (line : List Wo) (lines : List (List Wo)), badB q = false →
    (aut q m n c line (L ++ lines)).rows = L ++ (aut q m n c line lines).rows
  | [], m, n, c, line, lines, _ => by rw [aut_nil, aut_nil, flush_front]; rfl
  | b :: t, m, n, c, line, lines, hb => by
    obtain ⟨h1, h2⟩ := bad_tail hb
    rcases aut_ways b with h | h | h | h
    · exact absurd h h1
    · rw [aut_2 h, aut_2 h, aut_front L t _ _ _ _ _ h2]
    · rw [aut_3 h, aut_3 h, flush_front, aut_front L t _ _ _ _ _ h2]
    · rw [aut_v h, aut_v h, aut_front L t _ _ _ _ _ h2]
/-- Lines further down. -/
def shf (d : Nat) (x : Wo) : Wo := (x.1, x.2.1 + d, x.2.2)
theorem shut_shf (d : Nat) (m : Mo) (n : Nat) (line : List Wo) : shutL m (n + d) (line.map (shf d)) = (shutL m n line).map (shf d) := by
  cases m <;> simp [shutL, shf]
theorem flush_shf (d : Nat) (line : List Wo) (lines : List (List Wo)) : flush (line.map (shf d)) (lines.map fun l => l.map (shf d)) = (flush line lines).map fun l => l.map (shf d) := by
  unfold flush
  by_cases h : line = []
  · rw [if_pos h, if_pos (by rw [h]; rfl)]
  · rw [if_neg h, if_neg (by simpa using h)]; simp
theorem seen_shf (d : Nat) (b : UInt8) (m : Mo) (c : Nat) (line : List Wo) : seen b m c (line.map (shf d)) = seen b m c line := by
  cases m <;> simp [seen]
theorem aut_shf (d : Nat) : ∀ (q : List UInt8) (m : Mo) (n c : Nat) (line : List Wo) (lines : List (List Wo)), badB q = false →
    (aut q m (n + d) c (line.map (shf d)) (lines.map fun l => l.map (shf d))).rows = (aut q m n c line lines).rows.map fun l => l.map (shf d)
  | [], m, n, c, line, lines, _ => by rw [aut_nil, aut_nil, shut_shf, flush_shf]; rfl
  | b :: t, m, n, c, line, lines, hb => by
    obtain ⟨h1, h2⟩ := bad_tail hb
    rcases aut_ways b with h | h | h | h
    · exact absurd h h1
    · rw [aut_2 h, aut_2 h, shut_shf, aut_shf d t _ _ _ _ _ h2]
    · rw [aut_3 h, aut_3 h, shut_shf, flush_shf, show n + d + 1 = n + 1 + d by omega]
      exact aut_shf d t .gap (n + 1) 1 [] _ h2
    · rw [aut_v h, aut_v h, seen_shf, aut_shf d t _ _ _ _ _ h2]
/-- Two texts, an end of a line between. -/
theorem spl_parts (p q : List UInt8) (hp : badB p = false) (hq : badB q = false) (hl : (p ++ [10] ++ q).length ≤ 1048576) :
    (spl (p ++ [10] ++ q)).rows = (spl (p ++ [10])).rows ++ (spl q).rows.map fun l => l.map (shf (cnt (p ++ [10]))) := by
  have l1 : (p ++ [10]).length ≤ 1048576 := by simp at hl ⊢; omega
  have l2 : q.length ≤ 1048576 := by simp at hl; omega
  unfold spl
  rw [if_neg (by omega), if_neg (by omega), if_neg (by omega), List.append_assoc, List.singleton_append, aut_app q p _ _ _ _ _ hp]
  have e1 := aut_front (aut (p ++ [10]) .gap 1 1 [] []).rows q .gap (1 + cnt p + 1) 1 [] [] hq
  rw [List.append_nil] at e1
  rw [e1]
  have e2 := aut_shf (cnt (p ++ [10])) q .gap 1 1 [] [] hq
  rw [cnt_app, show cnt [10] = 1 by decide] at e2 ⊢
  rw [show 1 + cnt p + 1 = 1 + (cnt p + 1) by omega]
  exact congrArg _ e2

/-- No line told is without words. -/
theorem flush_ne {line : List Wo} {lines : List (List Wo)} (h : ∀ l ∈ lines, l ≠ []) : ∀ l ∈ flush line lines, l ≠ [] := by
  unfold flush
  split
  · exact h
  · rename_i hl
    intro l hm
    rcases List.mem_append.1 hm with hm | hm
    · exact h l hm
    · simp at hm; subst hm; exact hl
theorem aut_ne : ∀ (q : List UInt8) (m : Mo) (n c : Nat) (line : List Wo) (lines : List (List Wo)), (∀ l ∈ lines, l ≠ []) → ∀ l ∈ (aut q m n c line lines).rows, l ≠ []
  | [], m, n, c, line, lines, h => by rw [aut_nil]; exact flush_ne h
  | b :: t, m, n, c, line, lines, hb => by
    rcases aut_ways b with h | h | h | h
    · rw [aut_1 h]; intro l hl; cases hl
    · rw [aut_2 h]; exact aut_ne t _ _ _ _ _ hb
    · rw [aut_3 h]; exact aut_ne t _ _ _ _ _ (flush_ne hb)
    · rw [aut_v h]; exact aut_ne t _ _ _ _ _ hb
theorem spl_ne (bs : List UInt8) : ∀ l ∈ (spl bs).rows, l ≠ [] := by
  unfold spl
  split
  · intro l hl; cases hl
  · exact aut_ne bs _ _ _ _ _ (by intro l hl; cases hl)

/-! ### How great they are -/
def BdW (K : Nat) (x : Wo) : Prop := x.1.length ≤ K ∧ x.2.1 ≤ K ∧ x.2.2 ≤ K
def BdM (K s : Nat) : Mo → Prop
  | .wrd x c => x.length + s ≤ K ∧ c ≤ K
  | _ => True
theorem shut_bd {K s n : Nat} {m : Mo} {line : List Wo} (hm : BdM K s m) (hn : n ≤ K) (h : ∀ x ∈ line, BdW K x) : ∀ x ∈ shutL m n line, BdW K x := by
  cases m with
  | gap => exact h
  | rem => exact h
  | wrd x c =>
    intro y hy
    rcases List.mem_append.1 hy with hy | hy
    · exact h y hy
    · simp at hy; subst hy; exact ⟨by have := hm.1; show x.length ≤ K; omega, hn, hm.2⟩
theorem flush_bd {K : Nat} {line : List Wo} {lines : List (List Wo)} (h : ∀ x ∈ line, BdW K x) (hs : ∀ l ∈ lines, ∀ x ∈ l, BdW K x) : ∀ l ∈ flush line lines, ∀ x ∈ l, BdW K x := by
  unfold flush
  split
  · exact hs
  · intro l hm
    rcases List.mem_append.1 hm with hm | hm
    · exact hs l hm
    · simp at hm; subst hm; exact h
theorem aut_bd (K : Nat) : ∀ (q : List UInt8) (m : Mo) (n c : Nat) (line : List Wo) (lines : List (List Wo)), n + q.length ≤ K → c + q.length ≤ K → 1 + q.length ≤ K → BdM K q.length m → (∀ x ∈ line, BdW K x) → (∀ l ∈ lines, ∀ x ∈ l, BdW K x) → ∀ l ∈ (aut q m n c line lines).rows, ∀ x ∈ l, BdW K x
  | [], m, n, c, line, lines, hn, hc, h1, hm, hl, hs => by rw [aut_nil]; exact flush_bd (shut_bd hm (by simp at hn; omega) hl) hs
  | b :: t, m, n, c, line, lines, hn, hc, h1, hm, hl, hs => by
    simp only [List.length_cons] at hn hc h1
    have hm' : BdM K t.length m := by
      cases m with
      | gap => exact trivial
      | rem => exact trivial
      | wrd x c0 => exact ⟨by have := hm.1; simp at this; omega, hm.2⟩
    rcases aut_ways b with h | h | h | h
    · rw [aut_1 h]; intro l hl; cases hl
    · rw [aut_2 h]
      refine aut_bd K t _ _ _ _ _ (by omega) (by omega) (by omega) ?_ (shut_bd hm' (by omega) hl) hs
      cases m <;> exact trivial
    · rw [aut_3 h]
      exact aut_bd K t _ _ _ _ _ (by omega) (by omega) (by omega) trivial (fun x hx => nomatch hx) (flush_bd (shut_bd hm' (by omega) hl) hs)
    · rw [aut_v h]
      refine aut_bd K t _ _ _ _ _ (by omega) (by omega) (by omega) ?_ hl hs
      cases m with
      | gap =>
        by_cases hq : kd b = 4 ∧ line = []
        · have e : seen b .gap c line = .rem := if_pos hq
          rw [e]; exact trivial
        · have e : seen b .gap c line = .wrd [b] c := if_neg hq
          rw [e]; exact ⟨by show 1 + t.length ≤ K; omega, by omega⟩
      | rem => exact trivial
      | wrd x c0 => exact ⟨by have := hm.1; simp at this ⊢; omega, hm.2⟩
theorem spl_bd (bs : List UInt8) : ∀ l ∈ (spl bs).rows, ∀ x ∈ l, BdW 1048577 x := by
  unfold spl
  split
  · intro l hl; cases hl
  · exact aut_bd 1048577 bs _ _ _ _ _ (by omega) (by omega) (by omega) trivial (fun x hx => nomatch hx) (fun x hx => nomatch hx)
/-- How many lines, and words of each. -/
theorem aut_count (K : Nat) : ∀ (q : List UInt8) (m : Mo) (n c : Nat) (line : List Wo) (lines : List (List Wo)), lines.length + line.length + (match m with | .wrd _ _ => 1 | _ => 0) + q.length ≤ K → (aut q m n c line lines).rows.length ≤ K
  | [], m, n, c, line, lines, h => by
    rw [aut_nil]
    show (flush (shutL m n line) lines).length ≤ K
    unfold flush
    split
    · simp at h; omega
    · rename_i hne
      have : 0 < (shutL m n line).length := List.length_pos_iff.2 hne
      cases m <;> simp [shutL] at * <;> omega
  | b :: t, m, n, c, line, lines, hb => by
    simp only [List.length_cons] at hb
    rcases aut_ways b with h | h | h | h
    · rw [aut_1 h]; exact Nat.zero_le _
    · rw [aut_2 h]
      refine aut_count K t _ _ _ _ _ ?_
      cases m <;> simp [shutL, blanked] at * <;> omega
    · rw [aut_3 h]
      refine aut_count K t _ _ _ _ _ ?_
      show (flush (shutL m n line) lines).length + 0 + 0 + t.length ≤ K
      unfold flush
      split
      · omega
      · simp; omega
    · rw [aut_v h]
      refine aut_count K t _ _ _ _ _ ?_
      cases m with
      | gap => unfold seen; split <;> simp at * <;> omega
      | rem => simp [seen] at *; omega
      | wrd x c0 => simp [seen] at *; omega
theorem spl_count (bs : List UInt8) : (spl bs).rows.length ≤ 1048576 := by
  unfold spl
  split
  · exact Nat.zero_le _
  · exact aut_count 1048576 bs _ _ _ _ _ (by simp; omega)
end Go.Proofs.Ytdjeehnjodbmaaa.Wd
