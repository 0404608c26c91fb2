/- Plain facts on the words of a text, line by line: where each word of a line stands; no conditions but those that each names. -/
import Derived.Test.YtdjeehnjodbmaaaWrdQ
namespace Go.Proofs.Ytdjeehnjodbmaaa.Wd
open Go.RowKit
set_option linter.unusedVariables false

/-- The words of a line. -/
def lnW : List UInt8 → Mo → Nat → Nat → List Wo → List Wo
  | [], m, n, _, line => shutL m n line
  | b :: t, m, n, c, line => if kd b = 2 then lnW t (blanked m) n (c + 1) (shutL m n line) else lnW t (seen b m c line) n (c + 1) line
theorem lnW_2 {b : UInt8} (h : kd b = 2) (t : List UInt8) (m : Mo) (n c : Nat) (line : List Wo) : lnW (b :: t) m n c line = lnW t (blanked m) n (c + 1) (shutL m n line) := by rw [lnW, if_pos h]
theorem lnW_v {b : UInt8} (h : vs b = true) (t : List UInt8) (m : Mo) (n c : Nat) (line : List Wo) : lnW (b :: t) m n c line = lnW t (seen b m c line) n (c + 1) line := by
  have := vs_kd h
  rw [lnW, if_neg (by omega)]
/-- Bytes of one line. -/
def okL (s : List UInt8) : Prop := ∀ b ∈ s, kd b = 2 ∨ vs b = true
theorem aut_line : ∀ (s : List UInt8) (r : List UInt8) (m : Mo) (n c : Nat) (line : List Wo) (lines : List (List Wo)), okL s → aut (s ++ 10 :: r) m n c line lines = aut r .gap (n + 1) 1 [] (flush (lnW s m n c line) lines)
  | [], r, m, n, c, line, lines, _ => by
    rw [List.nil_append, aut_3 (by decide)]; rfl
  | b :: t, r, m, n, c, line, lines, hs => by
    have ht : okL t := fun x hx => hs x (List.mem_cons_of_mem _ hx)
    rw [List.cons_append]
    rcases hs b List.mem_cons_self with h | h
    · rw [aut_2 h, lnW_2 h, aut_line t r _ _ _ _ _ ht]
    · rw [aut_v h, lnW_v h, aut_line t r _ _ _ _ _ ht]
theorem aut_last : ∀ (s : List UInt8) (m : Mo) (n c : Nat) (line : List Wo) (lines : List (List Wo)), okL s → aut s m n c line lines = .ok (flush (lnW s m n c line) lines)
  | [], m, n, c, line, lines, _ => by rw [aut_nil]; rfl
  | b :: t, m, n, c, line, lines, hs => by
    have ht : okL t := fun x hx => hs x (List.mem_cons_of_mem _ hx)
    rcases hs b List.mem_cons_self with h | h
    · rw [aut_2 h, lnW_2 h, aut_last t _ _ _ _ _ ht]
    · rw [aut_v h, lnW_v h, aut_last t _ _ _ _ _ ht]

/-! ### Where a word stands -/
/-- A word stands in a line where it is told, between blanks or the line's ends. -/
structure Good (s : List UInt8) (n : Nat) (w : Wo) : Prop where
  line : w.2.1 = n
  col : 1 ≤ w.2.2
  some : w.1 ≠ []
  inside : w.2.2 - 1 + w.1.length ≤ s.length
  text : (s.drop (w.2.2 - 1)).take w.1.length = w.1
  ahead : 1 < w.2.2 → (s.getD (w.2.2 - 2) 0).toNat ≤ 32
  behind : w.2.2 - 1 + w.1.length < s.length → (s.getD (w.2.2 - 1 + w.1.length) 0).toNat ≤ 32
/-- The end of a word. -/
def fin (w : Wo) : Nat := w.2.2 + w.1.length
/-- Words rise, and end ahead of a place. -/
def Rise : List Wo → Nat → Prop
  | [], _ => True
  | [w], c => fin w < c
  | w :: v :: r, c => fin w < v.2.2 ∧ Rise (v :: r) c
theorem Rise.push : ∀ {l : List Wo} {w : Wo} {c : Nat}, Rise l w.2.2 → fin w < c → Rise (l ++ [w]) c
  | [], w, c, _, h => h
  | [v], w, c, g, h => ⟨g, h⟩
  | v :: u :: r, w, c, g, h => ⟨g.1, Rise.push (l := u :: r) g.2 h⟩
theorem Rise.mono : ∀ {l : List Wo} {c d : Nat}, Rise l c → c ≤ d → Rise l d
  | [], _, _, _, _ => trivial
  | [v], c, d, g, h => Nat.lt_of_lt_of_le g h
  | v :: u :: r, c, d, g, h => ⟨g.1, Rise.mono (l := u :: r) g.2 h⟩
theorem Rise.at : ∀ {l : List Wo} {c : Nat} (i : Nat) (v w : Wo), Rise l c → l[i]? = some v → l[i + 1]? = some w → fin v < w.2.2
  | [], _, i, v, w, _, h, _ => by simp at h
  | [x], _, i, v, w, _, _, h => by simp at h
  | x :: y :: r, c, 0, v, w, g, h1, h2 => by simp at h1 h2; subst h1 h2; exact g.1
  | x :: y :: r, c, i + 1, v, w, g, h1, h2 => Rise.at (l := y :: r) i v w g.2 (by simpa using h1) (by simpa using h2)
/-- What holds of a line and of where one is in it. -/
def AtM (s : List UInt8) (c : Nat) (line : List Wo) : Mo → Prop
  | .gap => (1 < c → (s.getD (c - 2) 0).toNat ≤ 32) ∧ Rise line c
  | .rem => Rise line c
  | .wrd x c0 => 1 ≤ c0 ∧ x ≠ [] ∧ c0 + x.length = c ∧ (s.drop (c0 - 1)).take x.length = x ∧ (1 < c0 → (s.getD (c0 - 2) 0).toNat ≤ 32) ∧ Rise line c0
theorem two_le (b : UInt8) (h : kd b = 2) : b.toNat ≤ 32 := by
  rcases (kd_two b).1 h with rfl | rfl <;> decide
theorem shut_good {s : List UInt8} {n c : Nat} {line : List Wo} {m : Mo} (hc : 1 ≤ c) (hi : c - 1 ≤ s.length) (hb : c - 1 < s.length → (s.getD (c - 1) 0).toNat ≤ 32) (hA : AtM s c line m) (hG : ∀ w ∈ line, Good s n w) :
    (∀ w ∈ shutL m n line, Good s n w) ∧ Rise (shutL m n line) (c + 1) := by
  cases m with
  | gap => exact ⟨hG, hA.2.mono (by omega)⟩
  | rem => exact ⟨hG, Rise.mono hA (by omega)⟩
  | wrd x c0 =>
    obtain ⟨h1, h2, h3, h4, h5, h6⟩ := hA
    refine ⟨fun w hw => ?_, Rise.push h6 (by show c0 + x.length < c + 1; omega)⟩
    rcases List.mem_append.1 hw with hw | hw
    · exact hG w hw
    · simp at hw
      subst hw
      have e : c0 - 1 + x.length = c - 1 := by omega
      exact ⟨rfl, h1, h2, by show c0 - 1 + x.length ≤ s.length; omega, h4, h5, fun h => by
        have h' : c - 1 < s.length := by rw [← e]; exact h
        show (s.getD (c0 - 1 + x.length) 0).toNat ≤ 32
        rw [e]; exact hb h'⟩
theorem lnW_good (s : List UInt8) (n : Nat) : ∀ (t : List UInt8) (m : Mo) (c : Nat) (line : List Wo), okL t → 1 ≤ c → c - 1 ≤ s.length → s.drop (c - 1) = t → AtM s c line m → (∀ w ∈ line, Good s n w) →
    (∀ w ∈ lnW t m n c line, Good s n w) ∧ ∃ d, Rise (lnW t m n c line) d
  | [], m, c, line, _, hc, hi, hd, hA, hG => by
    have hl : s.length ≤ c - 1 := by
      by_cases h : c - 1 < s.length
      · have := congrArg List.length hd; rw [List.length_drop] at this; simp at this; omega
      · omega
    have := shut_good hc hi (fun h => by omega) hA hG
    exact ⟨this.1, _, this.2⟩
  | b :: t, m, c, line, hs, hc, hi, hd, hA, hG => by
    have ht : okL t := fun x hx => hs x (List.mem_cons_of_mem _ hx)
    have hlt : c - 1 < s.length := by
      by_cases h : c - 1 < s.length
      · exact h
      · rw [List.drop_eq_nil_of_le (by omega)] at hd; cases hd
    have hb : s.getD (c - 1) 0 = b := by
      rw [List.drop_eq_getElem_cons hlt] at hd
      injection hd with e1 e2
      rw [List.getD_eq_getElem?_getD, List.getElem?_eq_getElem hlt]; exact e1
    have hd' : s.drop (c + 1 - 1) = t := by
      have e := hd
      rw [List.drop_eq_getElem_cons hlt] at e
      injection e with e1 e2
      rw [show c + 1 - 1 = c - 1 + 1 by omega]; exact e2
    rcases hs b List.mem_cons_self with h | h
    · rw [lnW_2 h]
      obtain ⟨g1, g2⟩ := shut_good hc hi (fun _ => by rw [hb]; exact two_le b h) hA hG
      refine lnW_good s n t _ _ _ ht (by omega) (by omega) hd' ?_ g1
      cases m with
      | gap => exact ⟨fun _ => by rw [show c + 1 - 2 = c - 1 by omega, hb]; exact two_le b h, g2⟩
      | rem => exact g2
      | wrd x c0 => exact ⟨fun _ => by rw [show c + 1 - 2 = c - 1 by omega, hb]; exact two_le b h, g2⟩
    · rw [lnW_v h]
      refine lnW_good s n t _ _ _ ht (by omega) (by omega) hd' ?_ hG
      cases m with
      | gap =>
        by_cases e : kd b = 4 ∧ line = []
        · have e1 : seen b .gap c line = .rem := if_pos e
          rw [e1]; exact Rise.mono hA.2 (by omega)
        · have e1 : seen b .gap c line = .wrd [b] c := if_neg e
          rw [e1]
          refine ⟨hc, by simp, by simp, ?_, hA.1, hA.2⟩
          rw [hd]; rfl
      | rem => exact Rise.mono hA (by omega)
      | wrd x c0 =>
        obtain ⟨h1, h2, h3, h4, h5, h6⟩ := hA
        refine ⟨h1, by simp, by simp; omega, ?_, h5, h6⟩
        have e : s.drop (c0 - 1) = x ++ (b :: t) := by
          have := List.take_append_drop x.length (s.drop (c0 - 1))
          rw [h4, List.drop_drop, show c0 - 1 + x.length = c - 1 by omega, hd] at this
          exact this.symm
        rw [e, show x ++ (b :: t) = (x ++ [b]) ++ t by simp]
        exact List.take_left
/-- The words of a whole line. -/
def line0 (s : List UInt8) (n : Nat) : List Wo := lnW s .gap n 1 []
theorem line_good (s : List UInt8) (n : Nat) (hs : okL s) : (∀ w ∈ line0 s n, Good s n w) ∧ ∃ d, Rise (line0 s n) d :=
  lnW_good s n s .gap 1 [] hs (by omega) (by omega) rfl ⟨fun h => by omega, trivial⟩ (fun w hw => nomatch hw)
/-- The lines of a text, from a line on. -/
def rowsN (bs : List UInt8) (n : Nat) : List (List Wo) := (aut bs .gap n 1 [] []).rows
theorem rows_line (s r : List UInt8) (n : Nat) (hs : okL s) (hr : badB r = false) : rowsN (s ++ 10 :: r) n = flush (line0 s n) [] ++ rowsN r (n + 1) := by
  unfold rowsN
  rw [aut_line s r _ _ _ _ _ hs]
  have e := aut_front (flush (line0 s n) []) r .gap (n + 1) 1 [] [] hr
  rw [List.append_nil] at e
  exact e
theorem rows_last (s : List UInt8) (n : Nat) (hs : okL s) : rowsN s n = flush (line0 s n) [] := by
  unfold rowsN
  rw [aut_last s _ _ _ _ _ hs]; rfl
/-- Words of later lines. -/
theorem aut_later (K : Nat) : ∀ (q : List UInt8) (m : Mo) (n c : Nat) (line : List Wo) (lines : List (List Wo)), K ≤ n → (∀ x ∈ line, K ≤ x.2.1) → (∀ l ∈ lines, ∀ x ∈ l, K ≤ x.2.1) → ∀ l ∈ (aut q m n c line lines).rows, ∀ x ∈ l, K ≤ x.2.1 := by
  have shutK : ∀ (m : Mo) (n : Nat) (line : List Wo), K ≤ n → (∀ x ∈ line, K ≤ x.2.1) → ∀ x ∈ shutL m n line, K ≤ x.2.1 := by
    intro m n line hn h x hx
    cases m with
    | gap => exact h x hx
    | rem => exact h x hx
    | wrd y c =>
      rcases List.mem_append.1 hx with hx | hx
      · exact h x hx
      · simp at hx; subst hx; exact hn
  have flushK : ∀ (line : List Wo) (lines : List (List Wo)), (∀ x ∈ line, K ≤ x.2.1) → (∀ l ∈ lines, ∀ x ∈ l, K ≤ x.2.1) → ∀ l ∈ flush line lines, ∀ x ∈ l, K ≤ x.2.1 := by
    intro line lines h hs l hl
    unfold flush at hl
    split at hl
    · exact hs l hl
    · rcases List.mem_append.1 hl with hl | hl
      · exact hs l hl
      · simp at hl; subst hl; exact h
  intro q
  induction q with
  | nil => intro m n c line lines hn h hs; rw [aut_nil]; exact flushK _ _ (shutK m n line hn h) hs
  | cons b t ih =>
    intro m n c line lines hn h hs
    rcases aut_ways b with hk | hk | hk | hk
    · rw [aut_1 hk]; intro l hl; cases hl
    · rw [aut_2 hk]; exact ih _ _ _ _ _ hn (shutK m n line hn h) hs
    · rw [aut_3 hk]; exact ih _ _ _ _ _ (by omega) (fun x hx => nomatch hx) (flushK _ _ (shutK m n line hn h) hs)
    · rw [aut_v hk]; exact ih _ _ _ _ _ hn h hs
theorem rows_later (bs : List UInt8) (n : Nat) : ∀ l ∈ rowsN bs n, ∀ x ∈ l, n ≤ x.2.1 := aut_later n bs _ _ _ _ _ (Nat.le_refl _) (fun x hx => nomatch hx) (fun x hx => nomatch hx)
/-- The place of a byte that may not be. -/
theorem aut_place : ∀ (q : List UInt8) (m : Mo) (n c : Nat) (line : List Wo) (lines : List (List Wo)), 1 ≤ n → 1 ≤ c → (aut q m n c line lines).er ≠ 0 → 1 ≤ (aut q m n c line lines).ln ∧ 1 ≤ (aut q m n c line lines).cl ∧ (aut q m n c line lines).rows = []
  | [], m, n, c, line, lines, _, _, h => by rw [aut_nil] at h; exact absurd rfl h
  | b :: t, m, n, c, line, lines, hn, hc, he => by
    rcases aut_ways b with h | h | h | h
    · rw [aut_1 h]; exact ⟨hn, hc, rfl⟩
    · rw [aut_2 h] at he ⊢; exact aut_place t _ _ _ _ _ hn (by omega) he
    · rw [aut_3 h] at he ⊢; exact aut_place t _ _ _ _ _ (by omega) (by omega) he
    · rw [aut_v h] at he ⊢; exact aut_place t _ _ _ _ _ hn (by omega) he
end Go.Proofs.Ytdjeehnjodbmaaa.Wd
