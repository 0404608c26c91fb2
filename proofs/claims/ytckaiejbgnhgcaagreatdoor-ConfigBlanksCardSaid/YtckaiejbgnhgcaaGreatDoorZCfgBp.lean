/- Lines in another order, with more blanks, empty lines and remarks: plain facts; no conditions but those that each names. -/
import Derived.Test.YtckaiejbgnhgcaaGreatDoorZO
import Derived.Test.YtckaiejbgnhgcaaGreatDoorZH
namespace Go.Proofs.YtckaiejbgnhgcaaGreatDoor.Wd.Ws
open Go.RowKit
set_option linter.unusedVariables false
/-- Words, each with the blanks behind it. -/
def bodyP (L : List (List UInt8 × List UInt8)) : List UInt8 := L.flatMap fun x => x.1 ++ x.2
def Each2 (L : List (List UInt8 × List UInt8)) : Prop := ∀ x ∈ L, VisW x.1 ∧ x.2 ≠ [] ∧ ∀ b ∈ x.2, kd b = 2
theorem aut_body (r : List UInt8) (n : Nat) (lines : List (List Wo)) : ∀ (L : List (List UInt8 × List UInt8)) (c : Nat) (line : List Wo), Each2 L → (line = [] → ∀ x, L[0]? = some x → x.1.getD 0 0 ≠ 35) →
    ∃ c' row, aut (bodyP L ++ r) .gap n c line lines = aut r .gap n c' (line ++ row) lines ∧ row.map (·.1) = L.map (·.1)
  | [], c, line, _, _ => ⟨c, [], by rw [List.append_nil]; rfl, rfl⟩
  | (x, z) :: L, c, line, h, h0 => by
    obtain ⟨⟨hx, hv⟩, hz, hk⟩ := h _ List.mem_cons_self
    dsimp only at hx hv hz hk
    match x, hx, hv with
    | b :: t, _, hv =>
      match z, hz, hk with
      | y :: z, _, hk =>
        have hy := hk y List.mem_cons_self
        have e : bodyP ((b :: t, y :: z) :: L) ++ r = b :: (t ++ (y :: (z ++ (bodyP L ++ r)))) := by simp [bodyP]
        rw [e]
        have h4 : kd b = 4 → line ≠ [] := fun hb hl => h0 hl _ rfl (by rw [(kd_four b).1 hb]; rfl)
        rw [aut_begin (hv b List.mem_cons_self) h4]
        obtain ⟨w1, w2⟩ := while_vis t (y :: (z ++ (bodyP L ++ r))) (fun b hb => hv b (List.mem_cons_of_mem _ hb)) (fun b t e => by
          injection e with e1 e2
          subst e1
          unfold vs
          rw [hy]; decide)
        rw [w1, w2, aut_2 hy]
        show ∃ c' row, aut (z ++ (bodyP L ++ r)) .gap n _ (line ++ [(b :: t, n, c)]) lines = _ ∧ _
        rw [aut_blanks (.inl rfl) z _ _ _ _ _ (fun b hb => hk b (List.mem_cons_of_mem _ hb))]
        obtain ⟨c', row, h1, h2⟩ := aut_body r n lines L (c + 1 + t.length + 1 + z.length) (line ++ [(b :: t, n, c)]) (fun x hx => h x (List.mem_cons_of_mem _ hx)) (fun e => absurd e (by simp))
        exact ⟨c', (b :: t, n, c) :: row, by rw [h1, List.append_assoc]; rfl, by simp [h2]⟩
/-- What may stand ahead of a line. -/
def pfx : List (List UInt8) := [[], [32], [9, 32], [10], [35, 32, 120, 10], [32, 35, 115, 105, 122, 101, 32, 53, 10, 10]]
theorem aut_pfx {z : List UInt8} (h : z ∈ pfx) (r : List UInt8) (n : Nat) (lines : List (List Wo)) : ∃ n' c', aut (z ++ r) .gap n 1 [] lines = aut r .gap n' c' [] lines := by
  simp only [pfx, List.mem_cons, List.not_mem_nil, or_false] at h
  rcases h with rfl | rfl | rfl | rfl | rfl | rfl <;> exact ⟨_, _, rfl⟩
structure OkP (x : List UInt8 × List (List UInt8 × List UInt8)) : Prop where
  z : x.1 ∈ pfx
  ne : x.2 ≠ []
  each : Each2 x.2
  hd : ∀ y, x.2[0]? = some y → y.1.getD 0 0 ≠ 35
def pcs (l : List (List UInt8 × List (List UInt8 × List UInt8))) : List UInt8 := l.flatMap fun x => x.1 ++ (bodyP x.2 ++ [10])
theorem aut_pcs : ∀ (l : List (List UInt8 × List (List UInt8 × List UInt8))) (n : Nat) (lines : List (List Wo)), (∀ x ∈ l, OkP x) →
    ∃ rows, aut (pcs l) .gap n 1 [] lines = .ok (lines ++ rows) ∧ rows.map (fun row => row.map (·.1)) = l.map (fun x => x.2.map (·.1))
  | [], n, lines, _ => ⟨[], by rw [List.append_nil]; rfl, rfl⟩
  | x :: l, n, lines, h => by
    have hx := h x List.mem_cons_self
    have e : pcs (x :: l) = x.1 ++ (bodyP x.2 ++ (10 :: pcs l)) := by simp [pcs]
    obtain ⟨n1, c1, e1⟩ := aut_pfx hx.z (bodyP x.2 ++ (10 :: pcs l)) n lines
    obtain ⟨c2, row, e2, hr⟩ := aut_body (10 :: pcs l) n1 lines x.2 c1 [] hx.each (fun _ => hx.hd)
    rw [e, e1, e2, aut_3 (by decide)]
    have hne : row ≠ [] := fun e => hx.ne (by rw [e] at hr; exact List.map_eq_nil_iff.1 hr.symm)
    have ef : flush (shutL .gap n1 ([] ++ row)) lines = lines ++ [row] := by
      show flush ([] ++ row) lines = _
      rw [List.nil_append]
      exact if_neg hne
    rw [ef]
    obtain ⟨rows, h1, h2⟩ := aut_pcs l (n1 + 1) (lines ++ [row]) (fun y hy => h y (List.mem_cons_of_mem _ hy))
    exact ⟨row :: rows, by rw [h1, List.append_assoc]; rfl, by simp [hr, h2]⟩
theorem spl_pcs (l : List (List UInt8 × List (List UInt8 × List UInt8))) (h : ∀ x ∈ l, OkP x) (hl : (pcs l).length ≤ 1048576) : (spl (pcs l)).er = 0 ∧ (spl (pcs l)).rows.map (fun row => row.map (·.1)) = l.map (fun x => x.2.map (·.1)) := by
  obtain ⟨rows, h1, h2⟩ := aut_pcs l 1 [] h
  unfold spl
  rw [if_neg (by omega), h1]
  exact ⟨rfl, h2⟩
theorem wpos_fst : ∀ (l : List (List UInt8)) (n c : Nat) (b : Bool), (wpos n c b l).map (·.1) = l
  | [], _, _, _ => rfl
  | x :: l, n, c, b => by
    show x :: (wpos n _ true l).map (·.1) = x :: l
    rw [wpos_fst l]
theorem placed_fst : ∀ (l : List (List (List UInt8))) (n : Nat), (placed n l).map (fun row => row.map (·.1)) = l
  | [], _ => rfl
  | x :: l, n => by
    rw [placed, List.map_cons, wpos_fst, placed_fst l]
end Go.Proofs.YtckaiejbgnhgcaaGreatDoor.Wd.Ws
namespace Go.Proofs.YtckaiejbgnhgcaaGreatDoor.Wd
open Go Go.RowKit
set_option linter.unusedVariables false
set_option maxRecDepth 100000
theorem txs_fst : ∀ {a b : List Ws.Wo}, a.map (·.1) = b.map (·.1) → txs a = txs b
  | [], [], _ => rfl
  | [], _ :: _, h => by simp at h
  | _ :: _, [], h => by simp at h
  | x :: a, y :: b, h => by
    simp only [List.map_cons, List.cons.injEq] at h
    show str x.1 :: txs a = str y.1 :: txs b
    rw [h.1, txs_fst h.2]
theorem psL_fst {M : Int} {R : List Rl} : ∀ {a b : List (List Ws.Wo)} {m : Int} {rs : List Rl}, a.map (fun row => row.map (·.1)) = b.map (fun row => row.map (·.1)) → psL m rs a = .ok M R → psL m rs b = .ok M R
  | [], [], _, _, _, h => h
  | [], _ :: _, _, _, h, _ => by simp at h
  | _ :: _, [], _, _, h, _ => by simp at h
  | x :: a, y :: b, m, rs, h, g => by
    simp only [List.map_cons, List.cons.injEq] at h
    have e := txs_fst h.1
    rw [psL] at g ⊢
    rw [← e]
    by_cases c : (lnA m rs (txs x)).e ≠ 0
    · rw [if_pos c] at g
      exact absurd (congrArg PR.e g) c
    · rw [if_neg c] at g ⊢
      exact psL_fst h.2 g
theorem lnA_size3 (m : Int) (rs : List Rl) (h : 1 ≤ m ∧ m ≤ 1000000) : lnA 0 rs [sizS, dig m.toNat] = .ok m rs := by
  have hp := dig_pa m.toNat (by omega)
  have e0 : [sizS, dig m.toNat].getD 0 nob = sizS := rfl
  have e1 : [sizS, dig m.toNat].getD 1 nob = dig m.toNat := rfl
  have e2 : ((m.toNat : Nat) : Int) = m := by omega
  unfold lnA
  rw [if_pos e0]
  unfold lnS
  rw [e1, hp.1, hp.2, e2, if_neg (by simp), if_neg (by omega), if_neg (by omega), if_neg (by omega)]
theorem end_ok {m : Int} {rs : List Rl} (h1 : 1 ≤ m) (h4 : hasB rs nob = true) : psL m rs [] = .ok m (ordL rs) := by
  unfold psL
  have hE : enE m rs = 0 := by unfold enE; rw [if_neg (by omega), if_neg (by rw [h4]; decide)]
  rw [hE, if_neg (by simp)]
/-- A rule's words, a size's, each with its blanks. -/
def rlP (r : Rl) : List (List UInt8 × List UInt8) := (rlW r).map fun x => (lb x, [32, 32])
def szP (m : Int) : List (List UInt8 × List UInt8) := [(lb sizS, [32, 9]), (lb (dig m.toNat), [32])]
def lnI (m : Int) (rs : List Rl) (i : Nat) : List (List UInt8 × List UInt8) := if i < rs.length then rlP (fnOf rs i) else szP m
def onI (N : Nat) (odd : Bool) (j : Nat) : Nat := if odd = true then N - j else j
def pcL (m : Int) (rs : List Rl) (odd : Bool) (z : Nat → List UInt8) (k : Nat) : List (List UInt8 × List (List UInt8 × List UInt8)) := (List.range k).map fun j => (z j, lnI m rs (onI rs.length odd j))
theorem rlP_fst (r : Rl) : (rlP r).map (·.1) = (rlW r).map lb := by simp [rlP, Function.comp_def]
theorem each2_of {l : List ByteArray} {z : List UInt8} (h : ∀ x ∈ l.map lb, Ws.VisW x) (hz : z ≠ []) (hk : ∀ b ∈ z, Ws.kd b = 2) : Ws.Each2 (l.map fun x => (lb x, z)) := fun y hy => by
  obtain ⟨x, hx, rfl⟩ := List.mem_map.1 hy
  exact ⟨h _ (List.mem_map.2 ⟨x, hx, rfl⟩), hz, hk⟩
theorem okP_rule {r : Rl} (hk : Okr r) (he : r.er = 0) {z : List UInt8} (hz : z ∈ Ws.pfx) : Ws.OkP (z, rlP r) := by
  obtain ⟨h1, h2, h3⟩ := rl_line hk he
  refine ⟨hz, fun e => h1 (by rw [List.map_eq_nil_iff.1 e]; rfl), each2_of h2 (by simp) (by decide), fun y hy => ?_⟩
  unfold rlP at hy
  rw [List.getElem?_map] at hy
  cases hx : (rlW r)[0]? with
  | none => rw [hx] at hy; cases hy
  | some x =>
    rw [hx] at hy
    injection hy with hy
    subst hy
    exact h3 _ (by rw [List.getElem?_map, hx]; rfl)
theorem okP_size (m : Int) {z : List UInt8} (hz : z ∈ Ws.pfx) : Ws.OkP (z, szP m) := by
  obtain ⟨h1, h2, h3⟩ := size_line m.toNat
  refine ⟨hz, by simp [szP], fun y hy => ?_, fun y hy => ?_⟩
  · simp only [szP, List.mem_cons, List.not_mem_nil, or_false] at hy
    rcases hy with rfl | rfl
    · exact ⟨h2 _ (by simp), by simp, fun b hb => by simp at hb; rcases hb with rfl | rfl <;> decide⟩
    · exact ⟨h2 _ (by simp), by simp, fun b hb => by simp at hb; subst hb; decide⟩
  · simp only [szP] at hy
    injection hy with hy
    subst hy
    decide
theorem body_len (n : Nat) : ∀ (l : List (List UInt8 × List UInt8)), (∀ x ∈ l, x.1.length + x.2.length ≤ n) → (Ws.bodyP l).length ≤ l.length * n
  | [], _ => by simp [Ws.bodyP]
  | x :: l, h => by
    have e : Ws.bodyP (x :: l) = (x.1 ++ x.2) ++ Ws.bodyP l := by simp [Ws.bodyP]
    have h1 := h x List.mem_cons_self
    have h2 := body_len n l (fun y hy => h y (List.mem_cons_of_mem _ hy))
    rw [e, List.length_append, List.length_append, List.length_cons, Nat.add_mul]
    omega
theorem pcs_len (n : Nat) : ∀ (l : List (List UInt8 × List (List UInt8 × List UInt8))), (∀ x ∈ l, x.1.length + (Ws.bodyP x.2).length + 1 ≤ n) → (Ws.pcs l).length ≤ l.length * n
  | [], _ => by simp [Ws.pcs]
  | x :: l, h => by
    have e : Ws.pcs (x :: l) = (x.1 ++ (Ws.bodyP x.2 ++ [10])) ++ Ws.pcs l := by simp [Ws.pcs]
    have h1 := h x List.mem_cons_self
    have h2 := pcs_len n l (fun y hy => h y (List.mem_cons_of_mem _ hy))
    rw [e, List.length_append, List.length_append, List.length_append]
    have e1 : (x :: l).length * n = l.length * n + n := by rw [List.length_cons, Nat.add_mul, Nat.one_mul]
    rw [e1]
    simp only [List.length_cons, List.length_nil]
    omega
theorem pfx_len {z : List UInt8} (h : z ∈ Ws.pfx) : z.length ≤ 10 := by
  simp only [Ws.pfx, List.mem_cons, List.not_mem_nil, or_false] at h
  rcases h with rfl | rfl | rfl | rfl | rfl | rfl <;> decide
theorem rlP_len {r : Rl} (hk : Okr r) (he : r.er = 0) : (Ws.bodyP (rlP r)).length ≤ 650 := by
  have := body_len 130 (rlP r) (fun y hy => by
    obtain ⟨x, hx, rfl⟩ := List.mem_map.1 hy
    have := rlW_size hk (er_short he) x hx
    show (lb x).length + 2 ≤ 130
    rw [list_size]
    omega)
  have h2 : (rlP r).length ≤ 5 := by unfold rlP; rw [List.length_map]; exact rlW_len r
  omega
theorem szP_len (m : Int) (h : 1 ≤ m ∧ m ≤ 1000000) : (Ws.bodyP (szP m)).length ≤ 650 := by
  have := dig_size m.toNat (by omega)
  have e : (Ws.bodyP (szP m)).length = sizS.size + 2 + ((dig m.toNat).size + 1) := by
    simp only [Ws.bodyP, szP, List.flatMap_cons, List.flatMap_nil, List.length_append, List.length_cons, List.length_nil, list_size]
  have e0 : sizS.size = 4 := rfl
  omega
theorem pcL_ok {m : Int} {rs : List Rl} (h : Polr m rs) (hl : rs.length ≤ 13) (odd : Bool) {z : Nat → List UInt8} (hz : ∀ j, z j ∈ Ws.pfx) (k : Nat) : (∀ x ∈ pcL m rs odd z k, Ws.OkP x) ∧ (Ws.pcs (pcL m rs odd z k)).length ≤ k * 661 := by
  obtain ⟨h1, h2, h3, h4, h5⟩ := riE_0 (polr_ri h hl)
  have each : ∀ x ∈ pcL m rs odd z k, Ws.OkP x ∧ x.1.length + (Ws.bodyP x.2).length + 1 ≤ 661 := by
    intro x hx
    obtain ⟨j, _, rfl⟩ := List.mem_map.1 hx
    have hp := pfx_len (hz j)
    dsimp only
    unfold lnI
    by_cases c : onI rs.length odd j < rs.length
    · rw [if_pos c]
      have hm := fn_mem c
      have := rlP_len (h.ok _ hm) (frE_all h3 _ hm)
      exact ⟨okP_rule (h.ok _ hm) (frE_all h3 _ hm) (hz j), by omega⟩
    · rw [if_neg c]
      have := szP_len m h1
      exact ⟨okP_size m (hz j), by omega⟩
  refine ⟨fun x hx => (each x hx).1, ?_⟩
  have := pcs_len 661 (pcL m rs odd z k) (fun x hx => (each x hx).2)
  rwa [show (pcL m rs odd z k).length = k by simp [pcL]] at this
theorem lnI_fst (m : Int) (rs : List Rl) (i : Nat) : (lnI m rs i).map (·.1) = (if i < rs.length then rlW (fnOf rs i) else [sizS, dig m.toNat]).map lb := by
  unfold lnI
  split
  · exact rlP_fst _
  · rfl
theorem pcL_fst (m : Int) (rs : List Rl) (odd : Bool) (z : Nat → List UInt8) : (pcL m rs odd z (rs.length + 1)).map (fun x => x.2.map (·.1)) =
    (if odd = true then lbs ([sizS, dig m.toNat] :: rs.reverse.map rlW) else lbs (rs.map rlW ++ [[sizS, dig m.toNat]])) := by
  have e : (pcL m rs odd z (rs.length + 1)).map (fun x => x.2.map (·.1)) = (List.range (rs.length + 1)).map fun j => (if onI rs.length odd j < rs.length then rlW (fnOf rs (onI rs.length odd j)) else [sizS, dig m.toNat]).map lb := by
    unfold pcL
    rw [List.map_map]
    exact List.map_congr_left fun j _ => lnI_fst m rs _
  rw [e]
  cases odd with
  | false =>
    rw [if_neg (by simp)]
    refine List.ext_getElem (by simp) fun j h1 h2 => ?_
    simp only [List.length_map, List.length_range] at h1
    simp only [List.getElem_map, List.getElem_range, onI, if_neg (show ¬ (false = true) by simp)]
    by_cases c : j < rs.length
    · rw [if_pos c, List.getElem_append_left (by simpa using c)]
      have e1 := fn_at c
      rw [e1]
      simp
    · rw [if_neg c, List.getElem_append_right (by simpa using c)]
      simp
  | true =>
    rw [if_pos rfl]
    refine List.ext_getElem (by simp) fun j h1 h2 => ?_
    simp only [List.length_map, List.length_range] at h1
    simp only [List.getElem_map, List.getElem_range, onI, if_true]
    cases j with
    | zero => rw [if_neg (by omega)]; rfl
    | succ j =>
      rw [if_pos (by omega)]
      simp only [List.getElem_cons_succ, List.getElem_map, List.getElem_reverse]
      rw [fn_at (by omega)]
      congr 3
      omega
theorem dst_rev {rs : List Rl} (h : Dst rs) : Dst rs.reverse := fun i j hij hj => by
  rw [List.length_reverse] at hj
  have h1 := h (rs.length - 1 - j) (rs.length - 1 - i) (by omega) (by omega)
  rw [fn_at (by rw [List.length_reverse]; omega), fn_at (by rw [List.length_reverse]; omega), List.getElem_reverse, List.getElem_reverse]
  rw [fn_at (by omega), fn_at (by omega)] at h1
  exact fun e => h1 e.symm
theorem has_rev {rs : List Rl} {p : ByteArray} (h : hasB rs p = true) : hasB rs.reverse p = true := by
  rcases fd_ways rs p with ⟨k, hk, he, _, _⟩ | ⟨_, g⟩
  · have hm : fnOf rs k ∈ rs.reverse := List.mem_reverse.2 (fn_mem hk)
    have := has_mem (acc := rs.reverse) hm
    rwa [he] at this
  · unfold hasB at h; rw [g] at h; cases h
/-- The policy is what is read, whatever the order of the lines, the blanks, the empty lines and the remarks. -/
theorem blanks_text {m : Int} {rs : List Rl} (h : Polr m rs) (hl : rs.length ≤ 13) (odd : Bool) {z : Nat → List UInt8} (hz : ∀ j, z j ∈ Ws.pfx) : cfgP (Ws.pcs (pcL m rs odd z (rs.length + 1))) = .ok m (ordL rs) := by
  obtain ⟨h1, h2, h3, h4, h5⟩ := riE_0 (polr_ri h hl)
  obtain ⟨g1, g2⟩ := pcL_ok h hl odd hz (rs.length + 1)
  obtain ⟨s1, s2⟩ := Ws.spl_pcs _ g1 (by have : (rs.length + 1) * 661 ≤ 14 * 661 := Nat.mul_le_mul_right _ (by omega); omega)
  unfold cfgP
  rw [s1, if_neg (by simp)]
  rw [pcL_fst] at s2
  cases odd with
  | false =>
    rw [if_neg (by simp)] at s2
    have key : psL 0 [] (Ws.placed 1 (lbs (rs.map rlW ++ [[sizS, dig m.toNat]]))) = .ok m (ordL rs) := by
      have e : lbs (rs.map rlW ++ [[sizS, dig m.toNat]]) = lbs (rs.map rlW) ++ [[sizS, dig m.toNat].map lb] := by simp
      rw [e, Ws.placed_app, psL_rules_t 0 _ rs [] 1 (fun r hr => ⟨h.ok r hr, frE_all h3 r hr⟩) (by rw [List.nil_append]; exact h5) (by rw [List.nil_append]; exact h2), List.nil_append]
      show psL 0 rs (Ws.wpos _ 1 false ([sizS, dig m.toNat].map lb) :: []) = _
      rw [psL, txs_wpos, lnA_size3 m rs h1, if_neg (by simp)]
      exact end_ok h1.1 h4
    exact psL_fst (by rw [Ws.placed_fst, s2]) key
  | true =>
    rw [if_pos rfl] at s2
    have key : psL 0 [] (Ws.placed 1 (lbs ([sizS, dig m.toNat] :: rs.reverse.map rlW))) = .ok m (ordL rs) := by
      show psL 0 [] (Ws.wpos 1 1 false ([sizS, dig m.toNat].map lb) :: Ws.placed 2 (lbs (rs.reverse.map rlW))) = _
      rw [psL, txs_wpos, lnA_size m h1, if_neg (by simp)]
      rw [psL_rules m rs.reverse [] 2 (fun r hr => ⟨h.ok r (List.mem_reverse.1 hr), frE_all h3 r (List.mem_reverse.1 hr)⟩) (by rw [List.nil_append]; exact dst_rev h5) (by rw [List.nil_append, List.length_reverse]; exact h2), List.nil_append]
      rw [end_ok h1.1 (has_rev h4)]
      rw [ordL_perm (dst_rev h5) h5 (fun x => List.mem_reverse)]
    exact psL_fst (by rw [Ws.placed_fst, s2]) key
end Go.Proofs.YtckaiejbgnhgcaaGreatDoor.Wd
