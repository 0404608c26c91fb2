/- Plain facts on the words of a text: what is joined is split; what is split may be joined; no conditions but those that each names. -/
import Derived.Test.YtckaiejbgnhgcaaGreatDoorZH
namespace Go.Proofs.YtckaiejbgnhgcaaGreatDoor.Wd.Ws
open Go.RowKit
set_option linter.unusedVariables false
set_option maxRecDepth 100000

/-- A word that may be joined. -/
def VisW (x : List UInt8) : Prop := x ≠ [] ∧ ∀ b ∈ x, vs b = true
/-- A line that may be joined. -/
def LineP (row : List (List UInt8)) : Prop := row ≠ [] ∧ (∀ x ∈ row, VisW x) ∧ ∀ x, row[0]? = some x → x.getD 0 0 ≠ 35
/-- Words, each with its place. -/
def wpos (n : Nat) : Nat → Bool → List (List UInt8) → List Wo
  | _, _, [] => []
  | c, b, x :: r => (x, n, c + (if b then 1 else 0)) :: wpos n (c + (if b then 1 else 0) + x.length) true r
def placed : Nat → List (List (List UInt8)) → List (List Wo)
  | _, [] => []
  | n, row :: r => wpos n 1 false row :: placed (n + 1) r
theorem while_vis : ∀ (x r : List UInt8), (∀ b ∈ x, vs b = true) → (∀ b t, r = b :: t → vs b = false) → (x ++ r).takeWhile vs = x ∧ (x ++ r).dropWhile vs = r
  | [], r, _, hr => by
    cases r with
    | nil => exact ⟨rfl, rfl⟩
    | cons b t =>
      have := hr b t rfl
      rw [List.nil_append, List.takeWhile_cons, List.dropWhile_cons, if_neg (by rw [this]; decide), if_neg (by rw [this]; decide)]
      exact ⟨rfl, rfl⟩
  | a :: x, r, hx, hr => by
    have ha := hx a List.mem_cons_self
    obtain ⟨h1, h2⟩ := while_vis x r (fun b hb => hx b (List.mem_cons_of_mem _ hb)) hr
    rw [List.cons_append, List.takeWhile_cons, List.dropWhile_cons, if_pos ha, if_pos ha, h1, h2]
    exact ⟨rfl, rfl⟩
/-- A word is gone through. -/
theorem aut_vis {x r : List UInt8} {n c : Nat} {line : List Wo} {lines : List (List Wo)} (hx : VisW x) (h0 : line = [] → x.getD 0 0 ≠ 35) (hr : ∀ b t, r = b :: t → vs b = false) :
    aut (x ++ r) .gap n c line lines = aut r .gap n (c + x.length) (line ++ [(x, n, c)]) lines := by
  obtain ⟨a, x', rfl⟩ := List.exists_cons_of_ne_nil hx.1
  have ha := hx.2 a List.mem_cons_self
  obtain ⟨h1, h2⟩ := while_vis x' r (fun b hb => hx.2 b (List.mem_cons_of_mem _ hb)) hr
  rw [List.cons_append, aut_begin ha, h1, h2]
  · rw [List.length_cons, show c + 1 + x'.length = c + (x'.length + 1) by omega]
  · intro h4 hl
    exact h0 hl ((kd_four a).1 h4)
theorem aut_jw : ∀ (row : List (List UInt8)) (t : List UInt8) (b : Bool) (n c : Nat) (line : List Wo) (lines : List (List Wo)), (∀ x ∈ row, VisW x) → (b = true → line ≠ []) → (line = [] → ∀ x, row[0]? = some x → x.getD 0 0 ≠ 35) →
    aut (jw b row ++ 10 :: t) .gap n c line lines = aut t .gap (n + 1) 1 [] (flush (line ++ wpos n c b row) lines)
  | [], t, b, n, c, line, lines, _, _, _ => by
    rw [jw, List.nil_append, aut_3 (by decide), wpos, List.append_nil]; rfl
  | x :: r, t, b, n, c, line, lines, hv, hb, h0 => by
    have hx := hv x List.mem_cons_self
    have hr : ∀ y ∈ r, VisW y := fun y hy => hv y (List.mem_cons_of_mem _ hy)
    have e : ∀ z : List UInt8, ∃ q, jw true r ++ 10 :: t = q ∧ ∀ d t', q = d :: t' → vs d = false := by
      intro z
      refine ⟨_, rfl, fun d t' hq => ?_⟩
      cases r with
      | nil => rw [jw, List.nil_append] at hq; injection hq with h1 h2; rw [← h1]; decide
      | cons y r' =>
        rw [jw, if_pos rfl] at hq
        simp only [List.cons_append, List.nil_append] at hq
        injection hq with h1 h2
        rw [← h1]; decide
    obtain ⟨q, hq, hq2⟩ := e []
    rw [jw, wpos]
    have step : aut (x ++ q) .gap n (c + (if b then 1 else 0)) line lines = aut t .gap (n + 1) 1 [] (flush (line ++ ((x, n, c + (if b then 1 else 0)) :: wpos n (c + (if b then 1 else 0) + x.length) true r)) lines) := by
      rw [aut_vis hx (fun hl => h0 hl x rfl) hq2, ← hq, aut_jw r t true n _ _ _ hr (fun _ => by simp) (fun hl => by simp at hl), List.append_assoc]
      rfl
    rw [← step]
    cases b with
    | false =>
      rw [if_neg (by decide)]
      simp only [List.nil_append, List.append_assoc, hq]
      rfl
    | true =>
      simp only [if_true, List.append_assoc, hq]
      exact aut_blanks (.inl rfl) [32] (x ++ q) n c line lines (by intro b hb; simp at hb; subst hb; decide)
theorem aut_jn : ∀ (lss : List (List (List UInt8))) (n : Nat) (L : List (List Wo)), (∀ row ∈ lss, LineP row) → aut (jn lss) .gap n 1 [] L = .ok (L ++ placed n lss)
  | [], n, L, _ => by rw [placed, List.append_nil]; rfl
  | row :: r, n, L, h => by
    have hrow := h row List.mem_cons_self
    have e : jn (row :: r) = jw false row ++ 10 :: jn r := by simp [jn]
    rw [e, aut_jw row (jn r) false n 1 [] L hrow.2.1 (fun h => by cases h) (fun _ => hrow.2.2), List.nil_append]
    have hne : wpos n 1 false row ≠ [] := by
      obtain ⟨x, r', rfl⟩ := List.exists_cons_of_ne_nil hrow.1
      rw [wpos]; simp
    have ef : flush (wpos n 1 false row) L = L ++ [wpos n 1 false row] := if_neg hne
    rw [ef, aut_jn r (n + 1) _ (fun x hx => h x (List.mem_cons_of_mem _ hx)), placed, List.append_assoc]
    rfl
theorem spl_jn (lss : List (List (List UInt8))) (h : ∀ row ∈ lss, LineP row) (hl : (jn lss).length ≤ 1048576) : spl (jn lss) = .ok (placed 1 lss) := by
  unfold spl
  rw [if_neg (by omega), aut_jn lss 1 [] h, List.nil_append]
theorem wpos_at : ∀ (row : List (List UInt8)) (n c : Nat) (b : Bool) (i : Nat) (x : List UInt8), row[i]? = some x → ∃ d, (wpos n c b row)[i]? = some (x, n, d)
  | [], n, c, b, i, x, h => by simp at h
  | y :: r, n, c, b, 0, x, h => by simp at h; subst h; exact ⟨_, rfl⟩
  | y :: r, n, c, b, i + 1, x, h => by
    obtain ⟨d, hd⟩ := wpos_at r n (c + (if b then 1 else 0) + y.length) true i x (by simpa using h)
    exact ⟨d, by rw [wpos, List.getElem?_cons_succ]; exact hd⟩
theorem wpos_len : ∀ (row : List (List UInt8)) (n c : Nat) (b : Bool), (wpos n c b row).length = row.length
  | [], n, c, b => rfl
  | y :: r, n, c, b => by rw [wpos, List.length_cons, wpos_len r, List.length_cons]
theorem placed_at : ∀ (lss : List (List (List UInt8))) (n k : Nat) (row : List (List UInt8)), lss[k]? = some row → (placed n lss)[k]? = some (wpos (n + k) 1 false row)
  | [], n, k, row, h => by simp at h
  | y :: r, n, 0, row, h => by simp at h; subst h; rfl
  | y :: r, n, k + 1, row, h => by
    rw [placed, List.getElem?_cons_succ, placed_at r (n + 1) k row (by simpa using h), show n + 1 + k = n + (k + 1) by omega]
theorem placed_len : ∀ (lss : List (List (List UInt8))) (n : Nat), (placed n lss).length = lss.length
  | [], n => rfl
  | y :: r, n => by rw [placed, List.length_cons, placed_len r, List.length_cons]

/-! ### What is split may be joined -/
def HeadOk (line : List Wo) : Prop := ∀ w, line[0]? = some w → w.1.getD 0 0 ≠ 35
def VisM (line : List Wo) : Mo → Prop
  | .wrd x _ => VisW x ∧ (line = [] → x.getD 0 0 ≠ 35)
  | _ => True
theorem shut_vis {m : Mo} {n : Nat} {line : List Wo} (hm : VisM line m) (h : ∀ w ∈ line, VisW w.1) (hh : HeadOk line) : (∀ w ∈ shutL m n line, VisW w.1) ∧ HeadOk (shutL m n line) := by
  cases m with
  | gap => exact ⟨h, hh⟩
  | rem => exact ⟨h, hh⟩
  | wrd x c =>
    refine ⟨fun w hw => ?_, fun w hw => ?_⟩
    · rcases List.mem_append.1 hw with hw | hw
      · exact h w hw
      · simp at hw; subst hw; exact hm.1
    · cases line with
      | nil => simp [shutL] at hw; subst hw; exact hm.2 rfl
      | cons y r => simp [shutL] at hw; subst hw; exact hh _ rfl
def RowP (line : List Wo) : Prop := line ≠ [] ∧ (∀ w ∈ line, VisW w.1) ∧ HeadOk line
theorem flush_vis {line : List Wo} {lines : List (List Wo)} (h : ∀ w ∈ line, VisW w.1) (hh : HeadOk line) (hs : ∀ l ∈ lines, RowP l) : ∀ l ∈ flush line lines, RowP l := by
  unfold flush
  split
  · exact hs
  · rename_i hne
    intro l hl
    rcases List.mem_append.1 hl with hl | hl
    · exact hs l hl
    · simp at hl; subst hl; exact ⟨hne, h, hh⟩
theorem aut_row : ∀ (q : List UInt8) (m : Mo) (n c : Nat) (line : List Wo) (lines : List (List Wo)), VisM line m → (∀ w ∈ line, VisW w.1) → HeadOk line → (∀ l ∈ lines, RowP l) → ∀ l ∈ (aut q m n c line lines).rows, RowP l
  | [], m, n, c, line, lines, hm, hl, hh, hs => by
    rw [aut_nil]
    obtain ⟨h1, h2⟩ := shut_vis (n := n) hm hl hh
    exact flush_vis h1 h2 hs
  | b :: t, m, n, c, line, lines, hm, hl, hh, hs => by
    rcases aut_ways b with h | h | h | h
    · rw [aut_1 h]; intro l hl; cases hl
    · rw [aut_2 h]
      obtain ⟨h1, h2⟩ := shut_vis (n := n) hm hl hh
      exact aut_row t _ _ _ _ _ (by cases m <;> exact trivial) h1 h2 hs
    · rw [aut_3 h]
      obtain ⟨h1, h2⟩ := shut_vis (n := n) hm hl hh
      exact aut_row t _ _ _ _ _ trivial (fun w hw => nomatch hw) (fun w hw => by simp at hw) (flush_vis h1 h2 hs)
    · rw [aut_v h]
      refine aut_row t _ _ _ _ _ ?_ hl hh hs
      cases m with
      | gap =>
        by_cases e : kd b = 4 ∧ line = []
        · have e1 : seen b .gap c line = .rem := if_pos e
          rw [e1]; exact trivial
        · have e1 : seen b .gap c line = .wrd [b] c := if_neg e
          rw [e1]
          refine ⟨⟨by simp, fun x hx => by simp at hx; subst hx; exact h⟩, fun hl0 hb => ?_⟩
          have : b = 35 := hb
          exact e ⟨(kd_four b).2 this, hl0⟩
      | rem => exact trivial
      | wrd x c0 =>
        refine ⟨⟨by simp, fun y hy => ?_⟩, fun hl0 => ?_⟩
        · rcases List.mem_append.1 hy with hy | hy
          · exact hm.1.2 y hy
          · simp at hy; subst hy; exact h
        · obtain ⟨a, x', rfl⟩ := List.exists_cons_of_ne_nil hm.1.1
          exact hm.2 hl0
theorem spl_row (bs : List UInt8) : ∀ l ∈ (spl bs).rows, RowP l := by
  unfold spl
  split
  · intro l hl; cases hl
  · exact aut_row bs _ _ _ _ _ trivial (fun w hw => nomatch hw) (fun w hw => by simp at hw) (fun l hl => nomatch hl)
/-- The texts of words. -/
def texts (ws : List Wo) : List (List UInt8) := ws.map (·.1)
theorem texts_ok {ws : List Wo} (h : RowP ws) : LineP (texts ws) := by
  refine ⟨by simpa [texts] using h.1, fun x hx => ?_, fun x hx => ?_⟩
  · obtain ⟨w, hw, rfl⟩ := List.mem_map.1 hx
    exact h.2.1 w hw
  · rw [texts, List.getElem?_map] at hx
    cases hw : ws[0]? with
    | none => rw [hw] at hx; cases hx
    | some w => rw [hw] at hx; cases hx; exact h.2.2 w hw

/-! ### How long what is joined is -/
def w1 : List Wo → Nat
  | [] => 0
  | x :: r => x.1.length + 1 + w1 r
def w2 : List (List Wo) → Nat
  | [] => 0
  | l :: r => w1 l + 1 + w2 r
theorem w1_app (a : List Wo) (x : Wo) : w1 (a ++ [x]) = w1 a + x.1.length + 1 := by
  induction a with
  | nil => simp [w1]
  | cons y a ih => simp [w1, ih]; omega
theorem w2_app (a : List (List Wo)) (x : List Wo) : w2 (a ++ [x]) = w2 a + w1 x + 1 := by
  induction a with
  | nil => simp [w2]
  | cons y a ih => simp [w2, ih]; omega
def wm : Mo → Nat
  | .wrd x _ => x.length + 1
  | _ => 0
theorem w1_shut (m : Mo) (n : Nat) (line : List Wo) : w1 (shutL m n line) = w1 line + wm m := by
  cases m with
  | gap => rfl
  | rem => rfl
  | wrd x c => simp only [shutL, w1_app, wm]; omega
theorem w2_flush (line : List Wo) (lines : List (List Wo)) : w2 (flush line lines) ≤ w2 lines + w1 line + (if line = [] then 0 else 1) := by
  unfold flush
  split
  · omega
  · rw [w2_app]; omega
theorem aut_w2 (K : Nat) : ∀ (q : List UInt8) (m : Mo) (n c : Nat) (line : List Wo) (lines : List (List Wo)), w2 lines + w1 line + wm m + 1 + 3 * q.length ≤ K → w2 (aut q m n c line lines).rows ≤ K
  | [], m, n, c, line, lines, h => by
    rw [aut_nil]
    have h1 := w2_flush (shutL m n line) lines
    rw [w1_shut] at h1
    show w2 (flush (shutL m n line) lines) ≤ K
    simp at h
    split at h1 <;> omega
  | b :: t, m, n, c, line, lines, h => by
    simp only [List.length_cons] at h
    rcases aut_ways b with hk | hk | hk | hk
    · rw [aut_1 hk]; exact Nat.zero_le _
    · rw [aut_2 hk]
      refine aut_w2 K t _ _ _ _ _ ?_
      rw [w1_shut]
      have : wm (blanked m) = 0 := by cases m <;> rfl
      omega
    · rw [aut_3 hk]
      refine aut_w2 K t _ _ _ _ _ ?_
      have h1 := w2_flush (shutL m n line) lines
      rw [w1_shut] at h1
      show w2 (flush (shutL m n line) lines) + 0 + 0 + 1 + 3 * t.length ≤ K
      split at h1 <;> omega
    · rw [aut_v hk]
      refine aut_w2 K t _ _ _ _ _ ?_
      have : wm (seen b m c line) ≤ wm m + 2 := by
        cases m with
        | gap =>
          unfold seen
          simp only
          split <;> simp [wm]
        | rem => simp [seen, wm]
        | wrd x c0 => simp [seen, wm]
      omega
theorem jw_len (b : Bool) (ws : List Wo) : (jw b (texts ws)).length ≤ w1 ws := by
  induction ws generalizing b with
  | nil => exact Nat.zero_le _
  | cons x r ih =>
    have := ih true
    have e : texts (x :: r) = x.1 :: texts r := rfl
    rw [e, jw, w1]
    cases b <;> simp <;> omega
theorem jn_len (wss : List (List Wo)) : (jn (wss.map texts)).length ≤ w2 wss := by
  induction wss with
  | nil => exact Nat.zero_le _
  | cons l r ih =>
    have e : jn ((l :: r).map texts) = (jw false (texts l) ++ [10]) ++ jn (r.map texts) := by simp [jn]
    have := jw_len false l
    rw [e, w2]
    simp only [List.length_append, List.length_cons, List.length_nil]
    omega
theorem spl_joined (bs : List UInt8) (h : bs.length ≤ 1000) : (jn ((spl bs).rows.map texts)).length ≤ 3001 := by
  refine Nat.le_trans (jn_len _) ?_
  unfold spl
  rw [if_neg (by omega)]
  exact aut_w2 3001 bs _ _ _ _ _ (by show 0 + 0 + 0 + 1 + 3 * bs.length ≤ 3001; omega)
end Go.Proofs.YtckaiejbgnhgcaaGreatDoor.Wd.Ws
