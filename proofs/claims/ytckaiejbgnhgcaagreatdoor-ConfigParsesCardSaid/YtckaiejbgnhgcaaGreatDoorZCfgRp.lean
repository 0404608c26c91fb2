/- What tollerref12.Parse answers, for any text; no conditions but those that each names. -/
import Derived.Test.YtckaiejbgnhgcaaGreatDoorZCfgOn
import Derived.Test.YtckaiejbgnhgcaaGreatDoorZCfgAg
import Derived.Test.YtckaiejbgnhgcaaGreatDoorZI
namespace Go.Proofs.YtckaiejbgnhgcaaGreatDoor.Wd
open Go Go.RowKit
set_option linter.unusedVariables false
set_option maxRecDepth 100000
/-- What the document's Parse answers. -/
def QPost (w : World) (X : PR) (r : Ending) (w' : World) : Prop :=
  (∃ A' c', r = .returned (.tuple #[.agg #[.int .i64 X.m, .slice A' X.rs.length c'], .int .i64 X.e, .agg #[.int .i64 X.ln, .int .i64 X.cl]]) ∧ Rls w' A' X.rs.length X.rs) ∧ Below w.heap.size w w'
theorem qpost_bad {w w' : World} (e l c : Int) (hB : Below w.heap.size w w') : QPost w (.bad e l c) (.returned (.tuple #[.agg #[.int .i64 0, .slice none 0 0], .int .i64 e, .agg #[.int .i64 l, .int .i64 c]])) w' := ⟨⟨none, 0, rfl, Rls.nil _ _⟩, hB⟩
/-- The cells of an answer: a policy and a place. -/
theorem four_end {w W : World} {P Q : Nat} {m0 l0 : Int} {v0 c0 : Value} (h : PB W P m0 v0) (h2 : PB W Q l0 c0) (hne : P ≠ Q) (hP : w.heap.size ≤ P) (hQ : w.heap.size ≤ Q) (hB : Below w.heap.size w W) (m l c : Int) (v : Value) :
    Hid ((((((W.setCell ⟨P, 0, none⟩ (.int .i64 m)).setCell ⟨P, 1, none⟩ v).setCell ⟨Q, 0, none⟩ (.int .i64 l)).setCell ⟨Q, 1, none⟩ (.int .i64 c)).cell? ⟨P, 0, none⟩ = some (.int .i64 m) ∧
      ((((W.setCell ⟨P, 0, none⟩ (.int .i64 m)).setCell ⟨P, 1, none⟩ v).setCell ⟨Q, 0, none⟩ (.int .i64 l)).setCell ⟨Q, 1, none⟩ (.int .i64 c)).cell? ⟨P, 1, none⟩ = some v ∧
      ((((W.setCell ⟨P, 0, none⟩ (.int .i64 m)).setCell ⟨P, 1, none⟩ v).setCell ⟨Q, 0, none⟩ (.int .i64 l)).setCell ⟨Q, 1, none⟩ (.int .i64 c)).cell? ⟨Q, 0, none⟩ = some (.int .i64 l) ∧
      ((((W.setCell ⟨P, 0, none⟩ (.int .i64 m)).setCell ⟨P, 1, none⟩ v).setCell ⟨Q, 0, none⟩ (.int .i64 l)).setCell ⟨Q, 1, none⟩ (.int .i64 c)).cell? ⟨Q, 1, none⟩ = some (.int .i64 c)) ∧
      Below w.heap.size w ((((W.setCell ⟨P, 0, none⟩ (.int .i64 m)).setCell ⟨P, 1, none⟩ v).setCell ⟨Q, 0, none⟩ (.int .i64 l)).setCell ⟨Q, 1, none⟩ (.int .i64 c))) := by
  have a := ((h.two m v).far (Q := Q) (o := 0) (u := .int .i64 l) hne).far (Q := Q) (o := 1) (u := .int .i64 c) hne
  have b := ((h2.far (Q := P) (o := 0) (u := .int .i64 m) (fun e => hne e.symm)).far (Q := P) (o := 1) (u := v) (fun e => hne e.symm)).two l (.int .i64 c)
  exact Lib.hid ⟨⟨a.p0, a.p1, b.p0, b.p1⟩, (((hB.setCell (p := ⟨P, 0, none⟩) hP _).setCell (p := ⟨P, 1, none⟩) hP _).setCell (p := ⟨Q, 0, none⟩) hQ _).setCell (p := ⟨Q, 1, none⟩) hQ _⟩
theorem PB.drew {w : World} {P : Nat} {m : Int} {v : Value} (h : PB w P m v) : PB w.drew P m v := h.below ((Below.refl _ w).drew)
theorem PB.plc (w : World) (l : Int) (v : Value) : PB (w.alloc (.cells #[.int .i64 l, v] 44)) w.heap.size l v :=
  ⟨by simp, by simp, by simp, by simp⟩

theorem ne_of_cells {w : World} {P g o : Nat} {a b u : Value} {t : TypeId} {fr : Nat × Nat} (h : w.heap[P]? = some (.cells #[a, b] t fr)) (hc : w.cell? ⟨g, o, none⟩ = some u) (ha : u ≠ a) (hb : u ≠ b) : g ≠ P := by
  intro e
  subst e
  have : (#[a, b] : Array Value)[o]? = some u := by
    have h2 := hc
    unfold World.cell? at h2
    simpa [h] using h2
  match o, this with
  | 0, h3 => simp at h3; exact ha h3.symm
  | 1, h3 => simp at h3; exact hb h3.symm
  | o + 2, h3 => simp at h3
theorem lnA_k {m : Int} {rs : List Rl} {xs : List ByteArray} (h0 : 0 < xs.length) (he : (lnA m rs xs).e ≠ 0) : (lnA m rs xs).k < xs.length := by
  unfold lnA at he ⊢
  by_cases c : xs.getD 0 nob = sizS
  · rw [if_pos c] at he ⊢
    unfold lnS at he ⊢
    by_cases c1 : xs.length ≠ 2
    · rw [if_pos c1]; exact h0
    · rw [if_neg c1] at he ⊢
      by_cases c2 : m ≠ 0
      · rw [if_pos c2]; exact h0
      · rw [if_neg c2] at he ⊢
        by_cases c3 : paE (lb (xs.getD 1 nob)) ≠ 0
        · rw [if_pos c3]; show 1 < _; omega
        · rw [if_neg c3] at he ⊢
          by_cases c4 : ¬ (1 ≤ paN (lb (xs.getD 1 nob)) ∧ paN (lb (xs.getD 1 nob)) ≤ 1000000)
          · rw [if_pos c4]; show 1 < _; omega
          · rw [if_neg c4] at he; exact absurd rfl he
  · rw [if_neg c] at he ⊢
    unfold lnR at he ⊢
    by_cases c1 : (ansA xs).err ≠ 0
    · rw [if_pos c1]
      obtain ⟨k, e, hk⟩ := ans_at xs h0 c1
      show (ansA xs).at_.toNat < _
      rw [e]; exact hk
    · rw [if_neg c1] at he ⊢
      have hl := ans_len xs (by simpa using c1)
      by_cases c2 : hasB rs (ansA xs).p = true
      · rw [if_pos c2]
        show (if (ansA xs).p.size = 0 then 0 else 1) < _
        split <;> omega
      · rw [if_neg c2] at he ⊢
        by_cases c3 : ¬ rs.length < 1000
        · rw [if_pos c3]; exact h0
        · rw [if_neg c3] at he; exact absurd rfl he
/-- One text more. -/
theorem wpList_app_text1 (w : World) {ops : Array Oper} {rest : List Oper} {o : Oper} {a : Act} {Q : Exit → Act → World → Prop} (hgd : o.guard = none) (s x : Operand)
    (ho : o.op = .call { callee := .builtin .append, args := #[s, x], argTypes := #[32, 32] })
    (base : Nat) (v : Value) (acc : List ByteArray) (hs : a.eval s = v) (hown : ORow w base v acc) (B : Nat) (y : ByteArray) (hx : a.eval x = .slice (some ⟨B, 0, none⟩) 1 1) (hc : w.cell? ⟨B, 0, none⟩ = some (.string y))
    (hsz : acc.length ≤ 1099511627776) (hbase : base ≤ w.heap.size)
    (h : ∀ g cap w', ORow w' base (.slice (some ⟨g, 0, none⟩) (acc.length + 1) cap) (acc ++ [y]) → Below base w w' → wpList Tryz.prog ops Q rest (a.put o.dst (.slice (some ⟨g, 0, none⟩) (acc.length + 1) cap)) w') : wpList Tryz.prog ops Q (o :: rest) a w := by
  obtain ⟨i0, hi, hy0, hy1, hy2⟩ := info_parts infoStr
  refine wpList_append_lies w hgd s x 32 ho base 9 i0 (.string ⟨#[]⟩) 1 16 Tryz.underlying32 hi hy0 hy1 hy2 rfl (by decide) v acc.length (tvs acc) hs hown ⟨B, 0, none⟩ 1 1 [.string y] hx rfl (fun k u hu => ?_) (fun u hu => ?_) (by omega) (by unfold maxLen; omega) (by omega) hbase w.heap.size rfl ?_
  · cases k with
    | zero => simp at hu; subst hu; rw [Go.WideShapes.add_plain]; exact hc
    | succ k => simp at hu
  · simp at hu; subst hu; rfl
  intro g cap w' own grow _ _
  refine h g cap w' ?_ ((Below.refl base w).grown grow hbase (own_lt hown))
  unfold ORow tvs
  rw [List.map_append, List.length_append]
  exact own
theorem ORow.stsN {w : World} {base n : Nat} {v : Value} {xs : List ByteArray} (h : ORow w base v xs) (hx : ∀ x ∈ xs, x.size ≤ 9223372036854775807) (hn : xs.length = n) : ∃ A c, v = .slice A n c ∧ n ≤ c ∧ c ≤ 9223372036854775807 ∧ Sts w A n xs := by
  subst hn; exact h.sts hx

set_option maxHeartbeats 4000000 in
theorem rparse12_any (A : Option Addr) (N cap : Nat) (bs : List UInt8) (w : World) (hT : Ws.Txt w A N bs) (hN : N ≤ 1048576) (hcap : N ≤ cap) (hcm : cap ≤ 9223372036854775807) :
    Calls Tryz.prog 26 #[.slice A N cap] w (QPost w (cfgP bs)) := by
  have kA := (Below.refl _ w).alloc (Nat.le_refl _) (.cells #[.int .i64 0, .slice none 0 0] 28)
  have kB := (Below.refl _ (w.alloc (.cells #[.int .i64 0, .slice none 0 0] 28))).alloc (Nat.le_refl _) (.cells #[.int .i64 0, .int .i64 0] 44)
  have hs : (w.alloc (.cells #[.int .i64 0, .slice none 0 0] 28)).heap.size = w.heap.size + 1 := by simp
  have P1 := (PB.new w 0 (.slice none 0 0)).below kB
  have P2 := PB.plc (w.alloc (.cells #[.int .i64 0, .slice none 0 0] 28)) 0 (.int .i64 0)
  have B1 := kbq kA kB
  have hb1 : ((w.alloc (.cells #[.int .i64 0, .slice none 0 0] 28)).alloc (.cells #[.int .i64 0, .int .i64 0] 44)).heap[w.heap.size]? = some (.cells #[.int .i64 0, .slice none 0 0] 28) := (kB.block _ (by simp)).trans (MapKept.heap_alloc w _).1
  have hb2 : ((w.alloc (.cells #[.int .i64 0, .slice none 0 0] 28)).alloc (.cells #[.int .i64 0, .int .i64 0] 44)).heap[w.heap.size + 1]? = some (.cells #[.int .i64 0, .int .i64 0] 44) := by
    have := (MapKept.heap_alloc (w.alloc (.cells #[.int .i64 0, .slice none 0 0] 28)) (.cells #[.int .i64 0, .int .i64 0] 44)).1
    rw [hs] at this
    exact this
  rw [hs] at P2
  have CS := Ws.rsplit_any A N cap bs _ (hT.below B1) hN hcap hcm
  clear hs kA kB hT
  obtain ⟨X, hX⟩ : ∃ X, cfgP bs = X := ⟨_, rfl⟩
  have hX0 := hX
  unfold cfgP at hX0
  have HB := Lib.hid (Ws.spl_bd bs)
  have HW := Lib.hid (Ws.spl_wide bs)
  have HE := Lib.hid (Ws.spl_ne bs)
  have HC := Ws.spl_count bs
  have HU := Ws.spl_err bs
  rw [hX]
  clear hX
  generalize (Ws.spl bs).rows = rows at *
  generalize (Ws.spl bs).ln = ln at *
  generalize (Ws.spl bs).cl = cl at *
  generalize (Ws.spl bs).er = er at *
  generalize hEI : (er : Int) = eI at *
  go_enter Tryz.func26, Tryz.ntmps26
  go_upto_region 1 with fail
  generalize hW : (w.alloc (.cells #[.int .i64 0, .slice none 0 0] 28)).alloc (.cells #[.int .i64 0, .int .i64 0] 44) = W1 at *
  clear hW
  go_wp2_with (go_at_call 46; refine CS.mono ?_; rintro r w2 ⟨v2, rfl, hW2, k2⟩; refine stopHere ?_)
  unfold Stop
  obtain ⟨A2, c2, rfl⟩ := hW2.slice
  have k3 := (Below.refl _ w2).alloc (Nat.le_refl _) (.cells #[.int .i64 (ln : Int), .int .i64 (cl : Int)] 44)
  have P7 := PB.plc w2 (ln : Int) (.int .i64 (cl : Int))
  have k4 := kbq k2 k3
  have hb1 := Lib.hid ((k2.block _ (by have := P2.lt; omega)).trans hb1)
  have hb2 := Lib.hid ((k2.block _ P2.lt).trans hb2)
  have kw3 := k3
  have Q1 := P1.below k4
  have Q2 := P2.below k4
  have B4 := kbq B1 k4
  have hW3 := hW2.below k3
  have hsz2 : w.heap.size + 1 < w2.heap.size := Nat.lt_of_lt_of_le P2.lt k2.size
  clear k2 k3 k4 P1 P2 B1 CS
  go_upto_region 2 with fail
  generalize hW : w2.alloc (.cells #[.int .i64 (ln : Int), .int .i64 (cl : Int)] 44) = W3 at *
  clear hW
  have HP1 := Lib.hid Q1
  have HP2 := Lib.hid Q2
  obtain ⟨p0, p1, f0, f1⟩ := Q1
  obtain ⟨r0, r1, g0, g1⟩ := Q2
  obtain ⟨t0, t1, _, _⟩ := P7
  by_cases he : er ≠ 0
  · rw [if_pos he] at hX0
    have e1 : (eI != 0) = true := by rw [bne_iff_ne]; omega
    have e2 : (eI == 0) = false := by rw [← Bool.not_eq_true, beq_iff_eq]; omega
    have HZ := four_end HP1.out HP2.out (by omega) (by omega) (by omega) B4 0 (ln : Int) (cl : Int) (.slice none 0 0)
    subst hX0
    have n1 : w.heap.size ≠ w2.heap.size := by omega
    have n2 : w.heap.size + 1 ≠ w2.heap.size := by omega
    have n3 : w2.heap.size ≠ w.heap.size := by omega
    have n4 : w2.heap.size ≠ w.heap.size + 1 := by omega
    clear he hEI
    go_wp2
    go_region
    all_goals
      go_wp2
      obtain ⟨⟨q0, q1, q2, q3⟩, BZ⟩ := HZ.out
      replace q0 := dcell q0
      replace q1 := dcell q1
      replace q2 := dcell q2
      replace q3 := dcell q3
      replace BZ := BZ.drew
      show bodyPost Tryz.prog Tryz.f26 _ _ _ _
      refine bodyPost_ret (v := .tuple #[.agg #[.int .i64 0, .slice none 0 0], .int .i64 eI, .agg #[.int .i64 (ln : Int), .int .i64 (cl : Int)]]) ?_ rfl (qpost_bad eI (ln : Int) (cl : Int) BZ)
      simp [results, Tryz.results26, go_sem, q0, q1, q2, q3]
  · have he' : er = 0 := by omega
    rw [if_neg he] at hX0
    obtain rfl : eI = 0 := by omega
    clear he HU hEI he'
    have P8 := PB.new W3 0 (.slice none 0 0)
    have k5 := (Below.refl _ W3).alloc (Nat.le_refl _) (.cells #[.int .i64 0, .slice none 0 0] 28)
    have B5 := kbq B4 k5
    have HP1 := Lib.hid (HP1.out.below k5)
    have HP2 := Lib.hid (HP2.out.below k5)
    have kw5 := Lib.hid (kbq kw3 k5)
    have HW2 := Lib.hid hW2
    have hsz3 : w2.heap.size < W3.heap.size := cell_lt t0
    clear k5 p0 p1 f0 f1 r0 r1 g0 g1 t0 t1 hW3 B4
    go_upto_region 5 with fail
    generalize hW : W3.alloc (.cells #[.int .i64 0, .slice none 0 0] 28) = W5 at *
    clear hW
    go_wp2
    have E5 := Below.refl W3.heap.size W5
    have hX1 := Lib.hid hX0
    go_loopw [9] (fun i wr => ∃ (k : Nat) (m : Int) (rs : List Rl) (A' : Option Addr) (n' c' : Nat), i = .int .i64 (k : Int) ∧ k ≤ rows.length ∧ PB wr W3.heap.size m (.slice A' n' c') ∧ Hid (Rls wr A' n' rs ∧ GoodS A' n' c' ∧ ∀ b off, A' = some ⟨b, off, none⟩ → W3.heap.size < b) ∧ Hid (Inv1 m rs) ∧ Hid (psL m rs (rows.drop k) = X) ∧ Below W3.heap.size W5 wr) (fun i _ => rows.length - (intOf i).toNat)
    case atStart => exact ⟨0, 0, [], none, 0, 0, rfl, Nat.zero_le _, P8, Lib.hid ⟨Rls.nil _ _, ⟨Nat.le_refl _, fun _ => rfl, fun ad e => by cases e⟩, fun b off e => by cases e⟩, Lib.hid inv1_start, hX1, E5⟩
    case round =>
      clear E5 hX1 P8 hX0
      obtain ⟨k, m, rs, A', n', c', rfl, hk, hP, hG, hI, hPs, hB⟩ := hrel
      have k0 : (0 : Int) ≤ (k : Int) := Int.natCast_nonneg _
      have hsz5 : W3.heap.size < wr.heap.size := hP.lt
      have BR : Below w2.heap.size w2 wr := kw5.out.trans (hB.mono (by have := kw3.size; omega))
      have HPz := Lib.hid hP
      have BW : Below w.heap.size w wr := B5.trans (hB.mono (by omega))
      have HPx := Lib.hid (HP1.out.under hB (by omega))
      have HPy := Lib.hid (HP2.out.under hB (by omega))
      have hn1000 : n' ≤ 1000 := by have := hI.out.i0.len; have := hG.out.1.1; omega
      by_cases hkn : k < rows.length
      · have k1 : (k : Int) < (rows.length : Int) := by omega
        have hx : rows[k]? = some rows[k] := List.getElem?_eq_getElem hkn
        obtain ⟨g, cg, eg, hg, hcl⟩ := HW2.out.form (by omega)
        simp only [Value.slice.injEq, true_and] at eg
        obtain ⟨rfl, rfl⟩ := eg
        obtain ⟨u, hu, hru⟩ := hcl k _ hx
        have hmem := List.getElem_mem hkn
        obtain ⟨A5, c5, rfl, hL5⟩ := WLn.of hru (HB.out _ hmem)
        have hpos : 0 < (rows[k]).length := List.length_pos_iff.2 (HE.out _ hmem)
        have hd : rows.drop k = rows[k] :: rows.drop (k + 1) := List.drop_eq_getElem_cons hkn
        have hP2 := hPs.out
        rw [hd] at hP2
        unfold psL at hP2
        have hw5 := HW.out _ hmem
        have hlim := txs_lim (HB.out _ hmem)
        have hne1 := ne_of_cells hb1.out hu (by intro e; cases e) (by intro e; injection e with _ e1 _; omega)
        have hne2 := ne_of_cells hb2.out hu (by intro e; cases e) (by intro e; cases e)
        have hu' := celln BR hu
        have hLw := hL5.below BR
        obtain ⟨b5, o5, rfl, hb5, hc5⟩ := hL5.2.2 hpos
        have hn3 : b5 ≠ w.heap.size := ne_of_cells hb1.out (hc5 0 hpos).1 (by intro e; cases e) (by intro e; cases e)
        have hn4 : b5 ≠ w.heap.size + 1 := ne_of_cells hb2.out (hc5 0 hpos).1 (by intro e; cases e) (by intro e; cases e)
        have hc6 := Lib.hid (fun j (hj : j < (rows[k]).length) => And.intro (celln BR (hc5 j hj).1) (And.intro (celln BR (hc5 j hj).2.1) (celln BR (hc5 j hj).2.2)))
        clear hru hL5 hmem hu hcl hx hd hc5
        generalize rows[k] = ws at *
        obtain ⟨lw, hlw⟩ : ∃ lw, ws.length = lw := ⟨_, rfl⟩
        rw [hlw] at hc6 hu' hLw hpos hw5
        have hLT := Lib.hid (show (txs ws).length = lw by rw [List.length_map]; exact hlw)
        have HLM := Lib.hid hlim
        have HP2 := Lib.hid hP2
        have HBW := Lib.hid BW
        have HBR := Lib.hid hB
        obtain ⟨wa, rfl⟩ : ∃ wa, wa = wr := ⟨_, rfl⟩
        clear hP hP2 hlim hlw hLw BW hB BR
        go_upto_region 10 with fail
        have E0 := Below.refl wa.heap.size wa
        have hO0 : ORow wa wa.heap.size (.slice none 0 0) ((txs ws).take 0) := World.ownsRow_nil _ _ _ _
        go_loopw [10, 11] (fun v i wi => ∃ j : Nat, i = .int .i64 (j : Int) ∧ j ≤ lw ∧ ORow wi wa.heap.size v ((txs ws).take j) ∧ Below wa.heap.size wa wi) (fun _ i _ => lw - (intOf i).toNat)
        case atStart => exact ⟨0, rfl, Nat.zero_le _, hO0, E0⟩
        case round =>
          clear E0 hO0
          obtain ⟨j, rfl, hj, hO, hBi⟩ := hrel
          have j0 : (0 : Int) ≤ (j : Int) := Int.natCast_nonneg _
          have u1 := celln hBi hu'
          have hacc : ((txs ws).take j).length = j := by rw [List.length_take, hLT.out]; omega
          by_cases hjl : j < lw
          · have j1 : (j : Int) < (lw : Int) := by omega
            have x0 := celln hBi (hc6.out j hjl).1
            have htk : Hid ((txs ws).take (j + 1) = (txs ws).take j ++ [str (fnW ws j).1]) := Lib.hid (by
              have h2 : j < (txs ws).length := by rw [hLT.out]; exact hjl
              rw [List.take_succ_eq_append_getElem h2]
              have h3 := txs_at ws j (by rw [List.length_map] at h2; exact h2)
              rw [List.getD_eq_getElem?_getD, List.getElem?_eq_getElem h2] at h3
              rw [← h3]; rfl)
            generalize str (fnW ws j).1 = y at x0 htk
            have kE := (Below.refl _ wr).alloc (Nat.le_refl _) (.cells #[.string y] 9)
            have hO2 := Lib.hid (hO.below kE)
            have hB2 := Lib.hid (hBi.alloc hBi.size (.cells #[.string y] 9))
            have hbs : wa.heap.size ≤ (wr.alloc (.cells #[.string y] 9)).heap.size := hB2.out.size
            have HACC := Lib.hid hacc
            generalize (txs ws).take j = acc at *
            clear hO kE hacc hBi
            go_wp2_with (at_builtin; refine wpList_app_text1 _ rfl _ _ rfl wa.heap.size u10 acc rfl hO2.out wr.heap.size y rfl (by simp) (by have := HACC.out; omega) hbs ?_; intro g2 cp w6 hO6 b6; refine stopHere ?_)
            unfold Stop
            have HO6 := Lib.hid hO6
            have HB6 := Lib.hid (hB2.out.trans b6)
            clear hO6 b6
            go_wp2
            go_roundw
            case rel => exact ⟨j + 1, by go_num, by omega, by rw [htk.out]; exact HO6.out, HB6.out⟩
            case measure => simp [intOf]; omega
          · have j1 : ¬ (j : Int) < (lw : Int) := by omega
            obtain rfl : j = lw := by omega
            rw [List.take_of_length_le (by rw [hLT.out]; exact Nat.le_refl _)] at hO
            obtain ⟨A6, c6, rfl, hq1, hq2, hS⟩ := hO.stsN (small_words HLM.out) hLT.out
            have CO := rone12_any m A' n' c' rs A6 j c6 (txs ws) wr (hG.out.1.below hBi) hG.out.2.1.1 hn1000 hG.out.2.1.2.1 hG.out.2.1.2.2 hS hpos HLM.out hI.out.i0.m
            have hYk := Lib.hid (fun (h : (lnA m rs (txs ws)).e ≠ 0) => show (lnA m rs (txs ws)).k < j from by have := lnA_k (by rw [hLT.out]; exact hpos) h; rw [hLT.out] at this; exact this)
            have hYi := Lib.hid (fun (h : (lnA m rs (txs ws)).e = 0) => lnA_inv1 hI.out h)
            have hP2 := HP2.out
            generalize lnA m rs (txs ws) = Y at CO hYk hYi hP2
            obtain ⟨E, K, Ym, Yr⟩ := Y
            dsimp only at CO hYk hYi hP2
            have HPw := Lib.hid (HPz.out.below hBi)
            obtain ⟨p0, p1, f0, f1⟩ := HPw.out
            have HBi := Lib.hid hBi
            have hwz : wa.heap.size ≤ wr.heap.size := hBi.size
            clear hO hS hacc HP2 hBi
            go_wp2_with (go_at_call 47; refine CO.mono ?_; rintro r w8 ⟨⟨M, A9, n9, c9, rfl, hM⟩, k8⟩; refine stopHere ?_)
            unfold Stop
            have kE := (Below.refl _ w8).alloc (Nat.le_refl _) (.cells #[.int .i64 M, .slice A9 n9 c9] 28)
            have s0 : (w8.alloc (.cells #[.int .i64 M, .slice A9 n9 c9] 28)).cell? ⟨w8.heap.size, 0, none⟩ = some (.int .i64 M) := by simp
            have s1 : (w8.alloc (.cells #[.int .i64 M, .slice A9 n9 c9] 28)).cell? ⟨w8.heap.size, 1, none⟩ = some (.slice A9 n9 c9) := by simp
            have k9 := kbq k8 kE
            have k9a := Lib.hid (kbq HBi.out k9)
            have HPz9 := Lib.hid (HPz.out.below k9a.out)
            have HPx9 := Lib.hid (HPx.out.below k9a.out)
            have HPy9 := Lib.hid (HPy.out.below k9a.out)
            have u9 := Lib.hid (celln k9a.out hu')
            have hM9 := Lib.hid (fun he => show M = Ym ∧ Rls (w8.alloc (.cells #[.int .i64 M, .slice A9 n9 c9] 28)) A9 Yr.length Yr ∧ n9 = Yr.length ∧ GoodS A9 n9 c9 ∧ _ from ⟨(hM he).1, by have := (hM he).2.1.below kE; rw [this.1]; exact this, (hM he).2.1.1.symm, (hM he).2.2.1, (hM he).2.2.2⟩)
            have hsz8 : W3.heap.size < w8.heap.size := by have := k8.size; omega
            clear CO p0 p1 f0 f1 k8 kE k9 hM
            go_upto_region 14 with fail
            generalize hW : (w8.alloc (.cells #[.int .i64 M, .slice A9 n9 c9] 28)) = W9 at *
            clear hW
            by_cases hY : E = 0
            · subst hY
              rw [if_neg (by simp)] at hP2
              obtain ⟨rfl, hRz, hnz, hgz, hhz⟩ := hM9.out rfl
              have PZ := HPz9.out.two M (.slice A9 n9 c9)
              have hRz2 := Lib.hid (rls_two (P := W3.heap.size) hRz (fun b off e h0 => by
                rcases hhz b off e with e2 | e2
                · have := hG.out.2.2 b off (by rw [← e2]; exact e); omega
                · omega) (.int .i64 M) (.slice A9 n9 c9))
              have BZ := Lib.hid (((HBR.out.trans (k9a.out.mono (by omega))).setCell (p := ⟨W3.heap.size, 0, none⟩) (Nat.le_refl _) (.int .i64 M)).setCell (p := ⟨W3.heap.size, 1, none⟩) (Nat.le_refl _) (.slice A9 n9 c9))
              have PZ := Lib.hid PZ
              have hgZ := Lib.hid hgz
              have hhZ := Lib.hid hhz
              have hnZ := Lib.hid hnz
              clear hgz hhz hnz
              have hPP := Lib.hid hP2
              obtain ⟨p0, p1, f0, f1⟩ := HPz9.out
              clear hRz hP2
              go_wp2
              go_roundw
              case rel => exact ⟨k + 1, M, Yr, A9, n9, c9, by go_num, by omega, PZ.out, Lib.hid ⟨by have h1 := hRz2.out; rw [← hnZ.out] at h1; exact h1, hgZ.out, fun b off e => by
                rcases hhZ.out b off e with e2 | e2
                · exact hG.out.2.2 b off (by rw [← e2]; exact e)
                · omega⟩, Lib.hid (hYi.out rfl), Lib.hid hPP.out, BZ.out⟩
              case measure => simp [intOf]; omega
            · have hKl := hYk.out hY
              rw [if_pos hY] at hP2
              have e1 : (E != 0) = true := by simpa using hY
              have e2 : (E == 0) = false := by simpa using hY
              obtain ⟨x0, x1, x2⟩ := hc6.out K hKl
              have x1 := celln k9a.out x1
              have x2 := celln k9a.out x2
              have uu := u9.out
              have K0 : (0 : Int) ≤ (K : Int) := Int.natCast_nonneg _
              have K1 : (K : Int) < (j : Int) := by omega
              generalize ((fnW ws K).2.1 : Int) = L1 at x1 hP2
              generalize ((fnW ws K).2.2 : Int) = L2 at x2 hP2
              have HZ := four_end HPx9.out HPy9.out (by omega) (by omega) (by omega) (kbq HBW.out k9a.out) 0 L1 L2 (.slice none 0 0)
              obtain ⟨p0, p1, f0, f1⟩ := HPx9.out
              obtain ⟨r0, r1, g0, g1⟩ := HPy9.out
              have m1 := hne1
              have m2 := hne2
              have m3 := hn3
              have m4 := hn4
              have m5 : w.heap.size ≠ g := fun e => hne1 e.symm
              have m6 : w.heap.size + 1 ≠ g := fun e => hne2 e.symm
              have m7 : w.heap.size ≠ b5 := fun e => hn3 e.symm
              have m8 : w.heap.size + 1 ≠ b5 := fun e => hn4 e.symm
              subst hP2
              clear hY hYi hM9 s0 s1 x0
              go_wp2
              go_region
              all_goals
                go_wp2
                obtain ⟨⟨q0, q1, q2, q3⟩, BZ⟩ := HZ.out
                replace q0 := dcell q0
                replace q1 := dcell q1
                replace q2 := dcell q2
                replace q3 := dcell q3
                replace BZ := BZ.drew
                show bodyPost Tryz.prog Tryz.f26 _ _ _ _
                refine bodyPost_ret (v := .tuple #[.agg #[.int .i64 0, .slice none 0 0], .int .i64 E, .agg #[.int .i64 L1, .int .i64 L2]]) ?_ rfl (qpost_bad E L1 L2 BZ)
                simp [results, Tryz.results26, go_sem, q0, q1, q2, q3]
      · have k1 : ¬ (k : Int) < (rows.length : Int) := by omega
        have hkk : k = rows.length := by omega
        have hP2 := hPs.out
        rw [hkk, List.drop_length] at hP2
        unfold psL at hP2
        have hR := hG.out.1
        have hlR := hR.1
        have CF := find_any A' n' c' rs nob wr hR (by omega)
        have CO := rorder12_any m A' n' c' rs wr hR (by omega)
        have hfd : hasB rs nob = decide (0 ≤ fdI rs nob) := rfl
        generalize fdI rs nob = fd at CF hfd
        have HPw := hP
        obtain ⟨p0, p1, f0, f1⟩ := hP
        clear hkk hPs
        by_cases c1 : m = 0
        · have eE : enE m rs = 30 := by unfold enE; rw [if_pos c1]
          rw [eE, if_pos (by decide)] at hP2
          subst hP2
          have HZ := four_end HPx.out HPy.out (by omega) (by omega) (by omega) BW 0 0 0 (.slice none 0 0)
          subst c1
          clear eE hfd CF CO
          obtain ⟨x0, x1, y0, y1⟩ := HPx.out
          obtain ⟨r0, r1, g0, g1⟩ := HPy.out
          go_wp2
          obtain ⟨⟨q0, q1, q2, q3⟩, BZ⟩ := HZ.out
          show bodyPost Tryz.prog Tryz.f26 _ _ _ _
          refine bodyPost_ret (v := .tuple #[.agg #[.int .i64 0, .slice none 0 0], .int .i64 30, .agg #[.int .i64 0, .int .i64 0]]) ?_ rfl (qpost_bad 30 0 0 BZ)
          simp [results, Tryz.results26, go_sem, q0, q1, q2, q3]
        · have c1' : (m == 0) = false := by simpa using c1
          cases ch : hasB rs nob with
          | false =>
            have eE : enE m rs = 31 := by unfold enE; rw [if_neg c1, if_pos ch]
            rw [eE, if_pos (by decide)] at hP2
            subst hP2
            rw [ch] at hfd
            have d3 : decide (fd < 0) = true := decide_eq_true (by have := of_decide_eq_false hfd.symm; omega)
            have HZ := four_end HPx.out HPy.out (by omega) (by omega) (by omega) BW 0 0 0 (.slice none 0 0)
            clear eE hfd CO
            obtain ⟨x0, x1, y0, y1⟩ := HPx.out
            obtain ⟨r0, r1, g0, g1⟩ := HPy.out
            go_wp2_with (go_at_call 48; refine CF.mono ?_; rintro r w4 ⟨rfl, rfl⟩)
            obtain ⟨⟨q0, q1, q2, q3⟩, BZ⟩ := HZ.out
            show bodyPost Tryz.prog Tryz.f26 _ _ _ _
            refine bodyPost_ret (v := .tuple #[.agg #[.int .i64 0, .slice none 0 0], .int .i64 31, .agg #[.int .i64 0, .int .i64 0]]) ?_ rfl (qpost_bad 31 0 0 BZ)
            simp [results, Tryz.results26, go_sem, q0, q1, q2, q3]
          | true =>
            have eE : enE m rs = 0 := by unfold enE; rw [if_neg c1, if_neg (by rw [ch]; decide)]
            rw [eE, if_neg (by simp)] at hP2
            subst hP2
            rw [ch] at hfd
            have d3 : decide (fd < 0) = false := decide_eq_false (by have := of_decide_eq_true hfd.symm; omega)
            clear eE hfd
            go_wp2_with (first
              | (go_at_call 48; refine CF.mono ?_; rintro r w4 ⟨rfl, rfl⟩)
              | (go_at_call 28; refine CO.mono ?_; rintro r w5 ⟨⟨A9, c9, rfl, hA9, hR9⟩, k9⟩; refine stopHere ?_))
            unfold Stop
            have HX9 := HPx.out.below k9
            have HY9 := HPy.out.below k9
            have HZ := four_end HX9 HY9 (by omega) (by omega) (by omega) (kbq BW k9) m 0 0 (.slice A9 n' c9)
            have hlo : ∀ Q, Q < wr.heap.size → ∀ b off, A9 = some ⟨b, off, none⟩ → 0 < n' → b ≠ Q := fun Q hQ b off e _ => by have := hA9 b off e; omega
            have RZ := Lib.hid (rls_two (P := w.heap.size + 1) (rls_two (P := w.heap.size) hR9 (hlo _ (by have := HPx.out.lt; omega)) (.int .i64 m) (.slice A9 n' c9)) (hlo _ (by have := HPy.out.lt; omega)) (.int .i64 0) (.int .i64 0))
            have hno : Hid (n' = (ordL rs).length) := Lib.hid (by rw [ordL_length]; omega)
            obtain ⟨x0', x1', y0', y1'⟩ := HX9
            obtain ⟨r0', r1', g0', g1'⟩ := HY9
            clear hR9 k9 CO CF p0 p1 f0 f1 HPw hlo
            go_wp2
            obtain ⟨⟨q0, q1, q2, q3⟩, BZ⟩ := HZ.out
            show bodyPost Tryz.prog Tryz.f26 _ _ _ _
            refine bodyPost_ret (v := .tuple #[.agg #[.int .i64 m, .slice A9 n' c9], .int .i64 0, .agg #[.int .i64 0, .int .i64 0]]) ?_ rfl ⟨⟨A9, c9, by rw [hno.out], by show Rls _ A9 (ordL rs).length (ordL rs); rw [← hno.out]; exact RZ.out⟩, BZ⟩
            simp [results, Tryz.results26, go_sem, q0, q1, q2, q3]
end Go.Proofs.YtckaiejbgnhgcaaGreatDoor.Wd
