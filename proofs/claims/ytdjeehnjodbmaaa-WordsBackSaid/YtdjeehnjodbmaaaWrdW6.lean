/- tollerlaw10.WordsBack answers true, for any row of rows of texts and any row of bytes; no conditions. -/
import Derived.Test.YtdjeehnjodbmaaaWrdZ
import Derived.Test.YtdjeehnjodbmaaaWrdP
namespace Go.Proofs.Ytdjeehnjodbmaaa.Wd
open Go Go.RowKit
set_option linter.unusedVariables false
set_option linter.unusedSimpArgs false

theorem infoText : (Try.prog.info? 9).map (fun i => (i.zero, i.size, i.bytes)) = some (some (.string ⟨#[]⟩), 1, 16) := by kernel_rfl
theorem infoTexts : (Try.prog.info? 24).map (fun i => (i.zero, i.size, i.bytes)) = some (some (.slice none 0 0), 1, 24) := by kernel_rfl
/-- The cells of texts. -/
def tvs (xs : List (List UInt8)) : List Value := xs.map fun x => Value.string (str x)
/-- A row of texts that is owned. -/
def SRow (w : World) (base : Nat) (v : Value) (xs : List (List UInt8)) : Prop := w.ownsRow base 9 1 v xs.length (tvs xs)
def SEach (w : World) : List Value → List (List (List UInt8)) → Prop
  | [], [] => True
  | u :: us, xs :: xss => (SRow w 0 u xs ∧ u.oneCell' = true) ∧ SEach w us xss
  | _, _ => False
theorem SEach.len {w : World} : ∀ {us : List Value} {xss : List (List (List UInt8))}, SEach w us xss → us.length = xss.length
  | [], [], _ => rfl
  | u :: us, xs :: xss, h => by simp [SEach.len h.2]
  | [], _ :: _, h => h.elim
  | _ :: _, [], h => h.elim
theorem SEach.push {w : World} : ∀ {us : List Value} {xss : List (List (List UInt8))} {u : Value} {xs : List (List UInt8)}, SEach w us xss → SRow w 0 u xs → u.oneCell' = true → SEach w (us ++ [u]) (xss ++ [xs])
  | [], [], _, _, _, h, h' => ⟨⟨h, h'⟩, trivial⟩
  | u :: us, xs :: xss, _, _, g, h, h' => ⟨g.1, SEach.push g.2 h h'⟩
  | [], _ :: _, _, _, g, _, _ => g.elim
  | _ :: _, [], _, _, g, _, _ => g.elim
theorem SEach.imp {w w' : World} (f : ∀ u xs, SRow w 0 u xs → SRow w' 0 u xs) : ∀ {us : List Value} {xss : List (List (List UInt8))}, SEach w us xss → SEach w' us xss
  | [], [], _ => trivial
  | u :: us, xs :: xss, h => ⟨⟨f u xs h.1.1, h.1.2⟩, SEach.imp f h.2⟩
  | [], _ :: _, h => h.elim
  | _ :: _, [], h => h.elim
theorem SEach.at {w : World} : ∀ {us : List Value} {xss : List (List (List UInt8))} (k : Nat) (xs : List (List UInt8)), SEach w us xss → xss[k]? = some xs → ∃ u, us[k]? = some u ∧ SRow w 0 u xs
  | [], [], k, xs, _, h => by simp at h
  | u :: us, y :: xss, 0, xs, g, h => by simp at h; subst h; exact ⟨u, rfl, g.1.1⟩
  | u :: us, y :: xss, k + 1, xs, g, h => by
    obtain ⟨u', h1, h2⟩ := SEach.at k xs g.2 (by simpa using h)
    exact ⟨u', by simpa using h1, h2⟩
  | [], _ :: _, _, _, h, _ => h.elim
  | _ :: _, [], _, _, h, _ => h.elim
theorem SRow.sts {w : World} {base : Nat} {v : Value} {xs : List (List UInt8)} (h : SRow w base v xs) (hx : ∀ x ∈ xs, x.length ≤ 9223372036854775807) : ∃ A c, v = .slice A xs.length c ∧ xs.length ≤ 9223372036854775807 ∧ Sts w A xs.length xs := by
  obtain ⟨A, c, rfl⟩ := own_slice h
  have hc := own_caps h
  refine ⟨A, c, rfl, by omega, rfl, hx, fun h0 => ?_⟩
  obtain ⟨g, cap, e, _, hlt⟩ := World.ownsRow.form h h0
  simp only [Value.slice.injEq] at e
  obtain ⟨rfl, _, rfl⟩ := e
  refine ⟨g, 0, rfl, hlt, fun k hk => ?_⟩
  have := World.ownsRow.cellAt (h : w.ownsRow base 9 1 _ xs.length (tvs xs)) k (by omega)
  rw [Nat.zero_add, this, tvs, List.getElem?_map, List.getD_eq_getElem?_getD, List.getElem?_eq_getElem hk]; rfl
theorem rows_own {w : World} {base : Nat} {v : Value} {us : List Value} {xss : List (List (List UInt8))} (h : w.ownsRow base 24 1 v xss.length us) (he : SEach w us xss) (hx : ∀ xs ∈ xss, ∀ x ∈ xs, x.length ≤ 9223372036854775807) :
    ∃ A c, v = .slice A xss.length c ∧ xss.length ≤ 9223372036854775807 ∧ LRows w A xss.length xss := by
  obtain ⟨A, c, rfl⟩ := own_slice h
  have hc := own_caps h
  refine ⟨A, c, rfl, by omega, rfl, fun h0 => ?_⟩
  obtain ⟨g, cap, e, _, hlt⟩ := h.form h0
  simp only [Value.slice.injEq] at e
  obtain ⟨rfl, _, rfl⟩ := e
  refine ⟨g, 0, rfl, hlt, fun k hk => ?_⟩
  have hk' : xss[k]? = some xss[k] := List.getElem?_eq_getElem hk
  have hg : xss.getD k [] = xss[k] := by rw [List.getD_eq_getElem?_getD, hk']; rfl
  obtain ⟨u, hu, hr⟩ := SEach.at k _ he hk'
  obtain ⟨A', c', rfl, h1, h2⟩ := hr.sts (hx _ (List.getElem_mem hk))
  have hcell := h.cellAt k (by omega)
  rw [hg]
  exact ⟨A', c', by rw [Nat.zero_add, hcell, hu], h1, h2⟩
theorem row_jn {lss : List (List (List UInt8))} {n : Nat} (hn : lss.length = n) (h30 : n ≤ 30) (h : ∀ row ∈ lss, RowOk row) : (jn lss).length ≤ 1048576 := by
  have hw : ∀ (b : Bool) (row : List (List UInt8)), (∀ x ∈ row, x.length ≤ 100) → (jw b row).length ≤ 101 * row.length := by
    intro b row
    induction row generalizing b with
    | nil => intro _; exact Nat.zero_le _
    | cons x r ih =>
      intro hx
      have h1 := ih true (fun y hy => hx y (List.mem_cons_of_mem _ hy))
      have h2 := hx x List.mem_cons_self
      rw [jw]
      cases b <;> simp <;> omega
  have hj : ∀ ls : List (List (List UInt8)), (∀ row ∈ ls, RowOk row) → (jn ls).length ≤ 2021 * ls.length := by
    intro ls
    induction ls with
    | nil => intro _; exact Nat.zero_le _
    | cons row r ih =>
      intro hr
      have h1 := ih (fun y hy => hr y (List.mem_cons_of_mem _ hy))
      have h2 := hr row List.mem_cons_self
      have h3 := hw false row h2.2.2
      have e : jn (row :: r) = (jw false row ++ [10]) ++ jn r := by simp [jn]
      have h4 := h2.2.1
      rw [e]
      simp only [List.length_append, List.length_cons, List.length_nil]
      omega
  have := hj lss h
  omega
theorem spl_bad2 {bs : List UInt8} (h : bs.length ≤ 1048576) (hb : badB bs = true) : (spl bs).rows = [] := by
  have place : ∀ (q : List UInt8) (m : Mo) (n c : Nat) (line : List Wo) (lines : List (List Wo)), badB q = true → (aut q m n c line lines).rows = [] := by
    intro q
    induction q with
    | nil => intro m n c line lines hq; cases hq
    | cons b t ih =>
      intro m n c line lines hq
      rcases aut_ways b with k | k | k | k
      · rw [aut_1 k]; rfl
      · rw [aut_2 k]; exact ih _ _ _ _ _ (by rw [bad_cons, decide_eq_false (by omega), Bool.false_or] at hq; exact hq)
      · rw [aut_3 k]; exact ih _ _ _ _ _ (by rw [bad_cons, decide_eq_false (by omega), Bool.false_or] at hq; exact hq)
      · have := vs_kd k
        rw [aut_v k]; exact ih _ _ _ _ _ (by rw [bad_cons, decide_eq_false (by omega), Bool.false_or] at hq; exact hq)
  unfold spl
  rw [if_neg (by omega)]
  exact place bs _ _ _ _ _ hb
theorem len_w1 (ws : List Wo) : ws.length ≤ w1 ws := by
  induction ws with
  | nil => exact Nat.le_refl _
  | cons x r ih => rw [w1, List.length_cons]; omega
theorem mem_w2 : ∀ (X : List (List Wo)) (ws : List Wo), ws ∈ X → ws.length ≤ w2 X
  | l :: r, ws, h => by
    rw [w2]
    rcases List.mem_cons.1 h with rfl | h
    · have := len_w1 ws; omega
    · have := mem_w2 r ws h; omega
theorem spl_w2 (bs : List UInt8) (h : bs.length ≤ 1000) : w2 (spl bs).rows ≤ 3001 := by
  unfold spl
  rw [if_neg (by omega)]
  exact aut_w2 3001 bs _ _ _ _ _ (by show 0 + 0 + 0 + 1 + 3 * bs.length ≤ 3001; omega)
theorem texts_take (ws : List Wo) (j : Nat) (x : Wo) (h : ws[j]? = some x) : texts (ws.take (j + 1)) = texts (ws.take j) ++ [x.1] := by
  unfold texts
  rw [List.take_add_one, h]; simp

set_option maxRecDepth 100000 in
set_option maxHeartbeats 2000000 in
theorem wordsBack_any (A : Option Addr) (n cap : Nat) (lss : List (List (List UInt8))) (C : Option Addr) (M cap2 : Nat) (cs : List UInt8) (w : World) (h : LRows w A n lss) (hn : n ≤ 9223372036854775807) (hC : Txt w C M cs) (hM : M ≤ 9223372036854775807) :
    Calls Try.prog 4 #[.slice A n cap, .slice C M cap2] w fun e w' => e = .returned (.bool true) ∧ Below w.heap.size w w' := by
  have C0 := Lib.hid known_any
  by_cases h30 : 30 < n
  · have h30' : decide ((30 : Int) < (n : Int)) = true := decide_eq_true (by omega)
    go_enter Try.func4, Try.ntmps4
    go_wp2_with ((go_at_call 9; (refine (C0.out _).mono ?_); rintro e w1 ⟨rfl, g1⟩))
    go_ret
    exact ⟨rfl, g1⟩
  · have h30' : decide ((30 : Int) < (n : Int)) = false := decide_eq_false (by omega)
    by_cases h100 : 100 < M
    · have h100' : decide ((100 : Int) < (M : Int)) = true := decide_eq_true (by omega)
      go_enter Try.func4, Try.ntmps4
      go_wp2_with ((go_at_call 9; (refine (C0.out _).mono ?_); rintro e w1 ⟨rfl, g1⟩))
      go_ret
      exact ⟨rfl, g1⟩
    · have h100' : decide ((100 : Int) < (M : Int)) = false := decide_eq_false (by omega)
      have K1 := Lib.hid (text_any C M cap2 cs w hC hM)
      have hlen := tx_len cs
      have H := Lib.hid h
      obtain ⟨i0, iz, iz0, iz1, iz2⟩ := info_parts infoText
      obtain ⟨j0, jz, jz0, jz1, jz2⟩ := info_parts infoTexts
      clear h hC
      go_enter Try.func4, Try.ntmps4
      go_wp2_with ((go_at_call 11; ((with_reducible refine K1.out.mono ?_); rintro e w1 ⟨v1, rfl, r1, g1⟩; refine stopHere ?_)))
      unfold Stop
      generalize tx cs = t at *
      obtain ⟨B, d, rfl, hd, hT, _, _⟩ := r1.form2
      obtain ⟨E, hE⟩ : ∃ E : Nat, (spl t).er = E := ⟨_, rfl⟩
      have K2 := Lib.hid (split_er B _ d t w1 hT hd.1 hd.2 E hE)
      have hbd := spl_bd t
      have hne := spl_ne t
      have hct := spl_count t
      have hjn := spl_joined t (by omega)
      have hro := spl_row t
      have hw2 := spl_w2 t (by omega)
      have hEX : E = 0 ∨ (spl t).rows = [] := by
        cases hb : badB t with
        | true => right; exact (spl_bad2 (by omega) hb)
        | false => left; rw [← hE, spl_er t (by omega), hb]; rfl
      clear r1 hT hE K1
      generalize (spl t).rows = X at *
      go_wp2_with ((go_at_call 14; ((with_reducible refine K2.out.mono ?_); rintro e w2 ⟨x2, l2, c2, rfl, hX, g2⟩; refine stopHere ?_)))
      unfold Stop
      have e2 := (Below.refl _ w2).alloc (Nat.le_refl _) (.cells #[.int .i64 l2, .int .i64 c2] 34)
      have gW := kbq (kbq g1 g2) e2
      have HX := Lib.hid (hX.below e2)
      obtain ⟨Ax, kx, rfl⟩ := hX.slice
      have HNE := Lib.hid hne
      have HBD := Lib.hid hbd
      have HRO := Lib.hid hro
      have HW2 := Lib.hid hw2
      have HJN := Lib.hid hjn
      have HEX := Lib.hid hEX
      clear hX K2 g1 g2 hne hbd hro hjn hEX hw2
      go_wp2
      generalize w2.alloc (.cells #[.int .i64 l2, .int .i64 c2] 34) = W at *
      go_loopw [8, 9] (fun v i wr => ∃ (k : Nat) (us : List Value), k ≤ X.length ∧ i = .int .i64 (k : Int) ∧ Hid (wr.ownsRow W.heap.size 24 1 v k us ∧ SEach wr us ((X.take k).map texts)) ∧ Below W.heap.size W wr) (fun _ i _ => X.length - (intOf i).toNat)
      case atStart => exact ⟨0, [], Nat.zero_le _, rfl, Lib.hid ⟨World.ownsRow_nil _ _ _ _, trivial⟩, Below.refl _ _⟩
      case round =>
        obtain ⟨k, us, hk, rfl, HO, hB⟩ := hrel
        rename World => W0
        by_cases hlt : k < X.length
        · have hE0 : E = 0 := HEX.out.resolve_right (by intro e; rw [e] at hlt; simp at hlt)
          have dE : ((E : Int) == 0) = true := by rw [hE0]; rfl
          obtain ⟨ws, hws⟩ : ∃ ws, X[k]? = some ws := ⟨_, List.getElem?_eq_getElem hlt⟩
          obtain ⟨gx, dx, hx, fx, ex, cx0, lx, cx⟩ := (HX.out.below hB).row hws (HNE.out ws (List.mem_of_getElem? hws))
          simp only [Value.slice.injEq] at ex
          obtain ⟨rfl, -, rfl⟩ := ex
          have HCX := Lib.hid cx
          have CX0 := Lib.hid cx0
          have hlm := lx.2.2
          have hlk : (k : Int) < (X.length : Int) := by omega
          have hwc : ws.length ≤ 3001 := Nat.le_trans (mem_w2 X ws (List.mem_of_getElem? hws)) HW2.out
          have HWS := Lib.hid hws
          clear cx cx0 lx hE0 hws
          go_wp2
          clear dE
          go_loopw [10, 11] (fun v i wr2 => ∃ j : Nat, j ≤ ws.length ∧ i = .int .i64 (j : Int) ∧ Hid (SRow wr2 W0.heap.size v (texts (ws.take j))) ∧ Below W0.heap.size W0 wr2) (fun _ i _ => ws.length - (intOf i).toNat)
          case atStart => exact ⟨0, Nat.zero_le _, rfl, Lib.hid (World.ownsRow_nil _ _ _ _), Below.refl _ _⟩
          case round =>
            obtain ⟨j, hj, rfl, HS, hB2⟩ := hrel
            have dx0 := celln hB2 CX0.out
            by_cases hjl : j < ws.length
            · obtain ⟨⟨t0, n0, c0⟩, hx0⟩ : ∃ x, ws[j]? = some x := ⟨_, List.getElem?_eq_getElem hjl⟩
              obtain ⟨a1, a2, a3⟩ := HCX.out j _ hx0
              replace a1 := celln hB2 a1
              simp only at a1
              have HTK := Lib.hid (texts_take ws j _ hx0)
              have hjl' : (j : Int) < (ws.length : Int) := by omega
              have hlj : (texts (ws.take j)).length = j := by unfold texts; rw [List.length_map, List.length_take]; omega
              clear a2 a3 hx0
              obtain ⟨sb, hsb⟩ : ∃ sb, str t0 = sb := ⟨_, rfl⟩
              have HSB := Lib.hid hsb
              rw [hsb] at a1
              clear hsb
              go_wp2_with (at_builtin; refine stopHere ?_)
              unfold Stop
              have e3 := (Below.refl _ wr).alloc (Nat.le_refl _) (.cells #[.string sb] 9)
              refine wpList_append_own _ rfl _ _ 24 rfl _ 9 i0 (.string ⟨#[]⟩) 1 16 Try.underlying24 iz iz0 iz1 iz2 rfl (by decide) _ _ _ rfl (own_below HS.out e3) ⟨wr.heap.size, 0, none⟩ 1 1 [.string sb] rfl rfl (one_cell wr _ _) (by simp [Value.oneCell']) (by rw [hlj]; unfold maxLen; omega) (by rw [hlj]; omega) (kbq hB2 e3).size ?_
              intro v4 w4 own4 grow4 _
              have hB4 := (kbq hB2 e3).grown grow4 (kbq hB2 e3).size (own_block HS.out)
              have HS4 : Hid (SRow w4 W0.heap.size v4 (texts (ws.take (j + 1)))) := Lib.hid (by
                unfold SRow
                rw [HTK.out, List.length_append]
                have e5 : tvs (texts (ws.take j) ++ [t0]) = tvs (texts (ws.take j)) ++ [.string (str t0)] := by simp [tvs]
                rw [e5, HSB.out]
                exact own4)
              clear own4 grow4 HS
              go_wp2
              go_roundw
              case rel => exact ⟨j + 1, by omega, by go_num, HS4, hB4⟩
              case measure => simp [intOf]; omega
            · obtain rfl : j = ws.length := by omega
              have hS := HS.out
              rw [List.take_length] at hS
              obtain ⟨Ar, cr, hvr⟩ := own_slice hS
              subst hvr
              have hlt' : (texts ws).length = ws.length := by unfold texts; rw [List.length_map]
              rw [hlt'] at hS ⊢
              have HSR := Lib.hid hS
              clear hS HS hlt'
              go_wp2_with (at_builtin; refine stopHere ?_)
              unfold Stop
              obtain ⟨HO1, HO2⟩ := HO.out
              have e3 := (Below.refl _ wr).alloc (Nat.le_refl _) (.cells #[.slice Ar ws.length cr] 24)
              have g03 := kbq hB2 e3
              have hB5 := kbq hB g03
              refine wpList_append_own _ rfl _ _ 23 rfl W.heap.size 24 j0 (.slice none 0 0) 1 24 Try.underlying23 jz jz0 jz1 jz2 rfl (by decide) _ k _ rfl (own_below HO1 g03) ⟨wr.heap.size, 0, none⟩ 1 1 [.slice Ar ws.length cr] rfl rfl (one_cell wr _ _) (by simp [Value.oneCell']) (by unfold maxLen; omega) (by omega) hB5.size ?_
              intro v6 w6 own6 grow6 _
              have hB6 : Below W.heap.size W w6 := hB5.grown grow6 hB5.size (own_block HO1)
              have hrow : SRow w6 0 (.slice Ar ws.length cr) (texts ws) := own_mono ((own_below HSR.out e3).kept grow6 (own_apart (own_below HSR.out e3) (own_below HO1 g03) (by decide))) (Nat.zero_le _)
              have heach : SEach w6 us ((X.take k).map texts) := HO2.imp fun u xs hu => (own_below hu g03).kept grow6 (own_apart (own_below hu g03) (own_below HO1 g03) (by decide))
              have hnew : SEach w6 (us ++ [.slice Ar ws.length cr]) ((X.take (k + 1)).map texts) := by
                rw [List.take_add_one, HWS.out]
                simp only [Option.toList_some, List.map_append, List.map_cons, List.map_nil]
                exact heach.push hrow rfl
              have HO6 : Hid (w6.ownsRow W.heap.size 24 1 v6 (k + 1) (us ++ [.slice Ar ws.length cr]) ∧ SEach w6 (us ++ [.slice Ar ws.length cr]) ((X.take (k + 1)).map texts)) := Lib.hid ⟨own6, hnew⟩
              clear own6 grow6 hrow heach hnew HO1 HO2 HO HSR
              go_wp2
              go_roundw
              case rel => exact ⟨k + 1, _, by omega, by go_num, HO6, hB6⟩
              case measure => simp [intOf]; omega
        · obtain rfl : k = X.length := by omega
          have hO := HO.out
          rw [List.take_length] at hO
          obtain ⟨hO1, hO2⟩ := hO
          have hlen2 : (X.map texts).length = X.length := List.length_map _
          rw [← hlen2] at hO1
          obtain ⟨Aa, ca, rfl, hcm, hLR⟩ := rows_own hO1 hO2 (fun xs hxs x hx => by
            obtain ⟨ws, hws, rfl⟩ := List.mem_map.1 hxs
            obtain ⟨y, hy, rfl⟩ := List.mem_map.1 hx
            have := (HBD.out ws hws y hy).1
            omega)
          have gW0 := kbq gW hB
          have K3 := Lib.hid (fun (W1 : World) (hW1 : Below W0.heap.size W0 W1) => back_any Aa _ ca _ W1 (hLR.below hW1) hcm (fun row hr => by
            obtain ⟨ws, hws, rfl⟩ := List.mem_map.1 hr
            exact texts_ok (HRO.out ws hws)) (Nat.le_trans HJN.out (by omega)))
          have K4 := Lib.hid (fun (W1 : World) (hW1 : Below W0.heap.size W0 W1) => plain_any A n cap lss W1 (H.out.below (kbq gW0 hW1)) hn)
          have K5 := Lib.hid (fun (W1 : World) (hW1 : Below W0.heap.size W0 W1) (hp : ∀ row ∈ lss, RowOk row) => back_any A n cap lss W1 (H.out.below (kbq gW0 hW1)) hn (fun row hr => (hp row hr).1) (row_jn H.out.1 (by omega) hp))
          clear hO1 hO2 hLR HO
          have dX : decide ((X.length : Int) < (X.length : Int)) = false := decide_eq_false (by omega)
          rw [hlen2] at K3 ⊢
          go_wp2_with (first
            | (go_at_call 9; (refine (C0.out _).mono ?_); rintro e w3 ⟨rfl, g3⟩)
            | (go_at_call 15; ((with_reducible refine (K3.out _ g3).mono ?_); rintro e w4 ⟨rfl, g4⟩))
            | (go_at_call 16; ((with_reducible refine (K4.out _ (kbq g3 g4)).mono ?_); rintro e w5 ⟨p, rfl, hp, rfl⟩; refine stopHere ?_)))
          unfold Stop
          cases p with
          | false =>
            go_wp2
            go_ret
            exact ⟨rfl, kbq gW0 (kbq g3 g4)⟩
          | true =>
            have HPP := Lib.hid (hp rfl)
            clear hp
            go_wp2_with ((go_at_call 15; ((with_reducible refine (K5.out _ (kbq g3 g4) HPP.out).mono ?_); rintro e w6 ⟨rfl, g6⟩)))
            go_ret
            exact ⟨rfl, kbq (kbq gW0 (kbq g3 g4)) g6⟩
end Go.Proofs.Ytdjeehnjodbmaaa.Wd
