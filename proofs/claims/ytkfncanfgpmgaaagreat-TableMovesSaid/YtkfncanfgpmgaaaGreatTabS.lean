/- A table in memory: what a sweep does; no conditions but those that each names. -/
import Derived.Test.YtkfncanfgpmgaaaGreatTabR
namespace Go.Proofs.YtkfncanfgpmgaaaGreat.Wd
open Go Go.RowKit Go.Shelf Go.Deep
set_option linter.unusedVariables false
set_option maxRecDepth 100000

/-- Those who are kept anew. -/
def upd2 (c : Int) (R : List (Sl × Int)) : List (Sl × Int) := R.filterMap (fun x => if dueS c x.1 = 0 then none else some (x.1, dueS c x.1))
def lenV : Value → Nat
  | .slice _ n _ => n
  | _ => 0
theorem fst_perm_app {L Lr Rd : List (Sl × Int)} {x : Sl × Int} (ha : ApL Lr) (hp : L.Perm (Lr ++ Rd)) (hx : x ∈ Lr) : L.Perm (offL x.1.key Lr ++ (Rd ++ [x])) := by
  refine hp.trans (((offL_perm ha hx).append_right Rd).trans ?_)
  rw [List.cons_append, ← List.append_assoc]
  exact (List.perm_append_singleton _ _).symm

theorem Tch.bel {S : Nat → Prop} {a b c : World} (h : Tch S a b) (g : Below a.heap.size b c) : Tch S a c :=
  ⟨g.os.trans h.os, g.tape.trans h.tape, g.output.trans h.output, Nat.le_trans h.size g.size, fun k hk hn => (g.block k hk).trans (h.block k hk hn)⟩
def SweepP (T : Nat) (B : Nat → Prop) (m c : Int) (L : List (Sl × Int)) (w : World) (e : Ending) (w' : World) : Prop :=
  e = .returned (.tuple #[]) ∧ Tch B w w' ∧ ∃ Lr Rd L', L.Perm (Lr ++ Rd) ∧ (∀ x ∈ Rd, x.2 ≤ c) ∧ (∀ x ∈ Lr, c < x.2) ∧ TabL w' T (Nx B w) m c L' ∧ L'.Perm (Lr ++ upd2 c Rd)

set_option maxHeartbeats 1000000 in
theorem sweep_any (T : Nat) (B : Nat → Prop) (m c : Int) (L : List (Sl × Int)) (w : World) (h : TabL w T B m c L) (hs : ∀ x ∈ L, Oks x.1) (hc : U c) :
    Calls Tryz.prog 44 #[ptr T] w (SweepP T B m c L w) := by
  have HA := Lib.hid h.ap
  have HF := Lib.hid h.few
  have HS := Lib.hid hs
  have H0 := Lib.hid h.low
  have tl0 := h.cells.2.2.2
  clear h hs
  go_enter Tryz.func44, Tryz.ntmps44
  go_wp2
  go_loopw [2] (fun v wr => ∃ Lr Rd, Hid (TabL wr T (fun k => B k ∧ k < w.heap.size) m c Lr) ∧ Hid (L.Perm (Lr ++ Rd)) ∧ Hid (∀ x ∈ Rd, x.2 ≤ c) ∧ Hid (OwS wr w.heap.size v (Rd.map Prod.fst)) ∧ Tch (fun k => B k ∧ k < w.heap.size) w wr) (fun v _ => L.length - lenV v)
  case atStart => exact ⟨L, [], H0, Lib.hid (by rw [List.append_nil]), Lib.hid (fun x hx => nomatch hx), Lib.hid (OwS.nil _ _), Tch.refl _ _⟩
  case round =>
    obtain ⟨Lr, Rd, hT, hp, hr, ho, hg⟩ := hrel
    obtain ⟨A0, cap0, hv0, hcap, hcap2, hv⟩ := ho.out.form
    rw [List.length_map] at hv0 hcap hv
    subst hv0
    have hvv := Lib.hid hv
    have hlen : Hid (L.length = Lr.length + Rd.length) := Lib.hid (by rw [hp.out.length_eq, List.length_append])
    obtain ⟨t0, t1, tf, tl⟩ := hT.out.cells
    clear H0 hv t0 tf
    go_upto_region 1 with fail
    go_cut [27] from 6 to 27 (fun cv wx => ∃ t : Bool, cv = .bool t ∧ Hid (t = true ↔ ∃ y ∈ Lr, y.2 ≤ c) ∧ Drew wr wx)
    case first =>
      rcases hT.out.first with ⟨e0, a, cap, hc3⟩ | ⟨A, n, cap, b, s, d, hc3, ha, hb, hin, hmin⟩
      · go_wp2
        go_quiet (fail)
        go_wp2
        go_meet
        case rel => exact ⟨false, rfl, Lib.hid (by rw [e0]; simp), Drew.of _ _⟩
      · have hd := hb.cell 8
        simp only [kcs] at hd
        have hd' : wr.cell? ⟨b, 8, none⟩ = some (.int .u64 d) := hd
        have n0 : (0 : Int) < (n : Int) + 1 := by omega
        have HI := Lib.hid hin
        have HM := Lib.hid hmin
        clear hd hin hmin hb
        rcases (show d ≤ c ∨ ¬ d ≤ c by omega) with hdc | hdc
        · have hq := decide_eq_true hdc
          have HD := Lib.hid hdc
          clear hdc
          go_wp2
          go_quiet (fail)
          go_wp2
          go_meet
          case rel => exact ⟨true, rfl, Lib.hid (by simp only [true_iff]; exact ⟨_, HI.out, HD.out⟩), Drew.of _ _⟩
        · have hq := decide_eq_false hdc
          have HD := Lib.hid hdc
          clear hdc
          go_wp2
          go_quiet (fail)
          go_wp2
          go_meet
          case rel => exact ⟨false, rfl, Lib.hid (by simp only [Bool.false_eq_true, false_iff]; rintro ⟨y, hy, h⟩; have := HM.out y hy; have := HD.out; omega), Drew.of _ _⟩
    case rest =>
    obtain ⟨t, rfl, ht, hdr⟩ := hcut
    cases t
    · have hend : Hid (∀ x ∈ Lr, c < x.2) := Lib.hid (fun x hx => by
        by_cases z : c < x.2
        · exact z
        · exact absurd (ht.out.2 ⟨x, hx, by omega⟩) (by decide))
      have HT0 := Lib.hid (hT.out.keep (w' := wc) (fun k _ hl => by obtain ⟨n, rfl⟩ := hdr; rfl))
      have HG := Lib.hid (hg.trans hdr.tch)
      have HV : Hid (0 < Rd.length → ∃ b, A0 = some ⟨b, 0, none⟩ ∧ w.heap.size ≤ b ∧ b < wc.heap.size ∧ ∀ k, k < Rd.length → S8 wc b (k * 8) (atS (Rd.map Prod.fst) k)) := Lib.hid (fun x => by
        obtain ⟨n, rfl⟩ := hdr
        exact hvv.out x)
      have hrd : Rd.length ≤ 1000000 := by have := HF.out; have := hlen.out; omega
      have hwc : w.heap.size ≤ wc.heap.size := HG.out.size
      clear ho hdr hT hg t1 tl hvv ht
      go_wp2_with fail
      go_loopw [47] (fun i wr => ∃ (k : Nat) (Lk : List (Sl × Int)), i = .int .i64 (k : Int) ∧ k ≤ Rd.length ∧ Hid (TabL wr T (Nx (fun k => B k ∧ k < w.heap.size) wc) m c Lk) ∧ Hid (Lk.Perm (Lr ++ upd2 c (Rd.take k))) ∧ Tch (Nx (fun k => B k ∧ k < w.heap.size) wc) wc wr) (fun i _ => Rd.length - (intOf i).toNat)
      case atStart => exact ⟨0, Lr, rfl, Nat.zero_le _, Lib.hid (HT0.out.mono (fun k hk => .inl hk)), Lib.hid (by simp [upd2]), Tch.refl _ _⟩
      case round =>
        clear HT0
        obtain ⟨k, Lk, rfl, hk, hTk, hpk, hgk⟩ := hrel
        by_cases hkn : k < Rd.length
        · obtain ⟨b, rfl, hb1, hb2, hb3⟩ := HV.out (by omega)
          have hbn : ¬ Nx (fun k => B k ∧ k < w.heap.size) wc b := fun x => by
            rcases x with x | x
            · have := x.2; omega
            · omega
          have h8 : S8 wr b (k * 8) (atS (Rd.map Prod.fst) k) := fun j hj => (World.cell?_of_block (hgk.block b hb2 hbn)).trans (hb3 k hkn j hj)
          have hin : Rd[k] ∈ L := hp.out.mem_iff.2 (List.mem_append_right _ (List.getElem_mem hkn))
          have hat : atS (Rd.map Prod.fst) k = Rd[k].1 := by simp [atS, List.getD, hkn]
          rw [hat] at h8
          obtain ⟨z0, z1, z2, z3, z4, z5, z6, z7⟩ := h8.eight
          have hks := Lib.hid (HS.out _ hin)
          have hapk : ApL (Lr ++ Rd) := HA.out.perm hp.out
          have hfresh : ∀ x ∈ Lk, x.1.key ≠ Rd[k].1.key := by
            intro x hx
            rcases List.mem_append.1 (hpk.out.mem_iff.1 hx) with hx | hx
            · exact (List.pairwise_append.1 hapk).2.2 x hx _ (List.getElem_mem hkn)
            · obtain ⟨y, hy, e⟩ := List.mem_filterMap.1 hx
              have e1 : x.1 = y.1 := by
                by_cases q : dueS c y.1 = 0
                · rw [if_pos q] at e; cases e
                · rw [if_neg q] at e; injection e with e; rw [← e]
              rw [e1]
              obtain ⟨i, hi, ei⟩ := List.getElem_of_mem hy
              have hi' : i < k := by simp at hi; omega
              have hpw := (List.pairwise_append.1 hapk).2.1
              have := (List.pairwise_iff_getElem.1 hpw) i k (by omega) hkn hi'
              rw [← ei]; simpa using this
          have hoff := offL_no hfresh
          have hlk : Lk.length < 1000000 := by
            have e1 := hpk.out.length_eq
            have e2 : (upd2 c (Rd.take k)).length ≤ k := Nat.le_trans (List.length_filterMap_le _ _) (by simp; omega)
            have := HF.out
            have := hlen.out
            rw [List.length_append] at e1
            omega
          have hstep : Hid ((putL c Rd[k].1 Lk).Perm (Lr ++ upd2 c (Rd.take (k + 1)))) := Lib.hid (by
            unfold putL
            rw [hoff]
            have e1 : upd2 c (Rd.take (k + 1)) = upd2 c (Rd.take k) ++ (if dueS c Rd[k].1 = 0 then [] else [(Rd[k].1, dueS c Rd[k].1)]) := by
              rw [List.take_succ_eq_append_getElem hkn]
              unfold upd2
              rw [List.filterMap_append]
              congr 1
              by_cases q : dueS c Rd[k].1 = 0 <;> simp [q]
            rw [e1]
            by_cases q : dueS c Rd[k].1 = 0
            · rw [if_pos q, if_pos q, List.append_nil]; exact hpk.out
            · rw [if_neg q, if_neg q, ← List.append_assoc]
              exact (hpk.out.cons _).trans (List.perm_append_singleton _ _).symm)
          have HC := Lib.hid (fun W (g : TabL W T (Nx (fun k => B k ∧ k < w.heap.size) wc) m c Lk) => put_L T _ m c Lk Rd[k].1 W g hks.out hc (by rw [hoff]; exact hlk))
          have HN := Lib.hid (hTk.out.below ((Below.refl _ wr).alloc (Nat.le_refl _) (.cells Rd[k].1.cs Tas)))
          have bx := Blk.new wr Rd[k].1.cs Tas
          have y0 := bx.cell 0
          have y1 := bx.cell 1
          have y2 := bx.cell 2
          have y3 := bx.cell 3
          have y4 := bx.cell 4
          have y5 := bx.cell 5
          have y6 := bx.cell 6
          have y7 := bx.cell 7
          simp at y0 y1 y2 y3 y4 y5 y6 y7
          have hwr : wc.heap.size ≤ wr.heap.size := hgk.size
          have kn1 : (k : Int) < (Rd.length : Int) := by omega
          have kn0 : (0 : Int) ≤ (k : Int) := by omega
          clear hin hat h8 hks hapk hfresh hoff hlk hb3 hTk hpk bx
          generalize Rd[k].1 = s at *
          go_wp2_with (go_at_call 61; refine (HC.out _ HN.out).mono ?_; rintro e w1 ⟨rfl, hT1, g1⟩)
          go_roundw
          case rel => exact ⟨k + 1, putL c s Lk, by go_num, hkn, Lib.hid (hT1.mono (fun x hx => by
            rcases hx with hx | hx
            · exact hx
            · exact .inr (by simp at hx; omega))), hstep, hgk.trans ((Tch.of ((Below.refl _ wr).alloc (Nat.le_refl _) _)).trans g1)⟩
          case measure => simp [intOf]; omega
        · obtain rfl : k = Rd.length := by omega
          have HK := Lib.hid hgk
          clear hgk
          go_wp2
          go_end0
          have hgw : Tch (fun k => B k ∧ k < w.heap.size) w wr := HG.out.next (HK.out.mono (fun x _ hx => by
            rcases hx with hx | hx
            · exact .inl hx
            · exact .inr (by omega)))
          refine ⟨rfl, hgw.mono (fun k _ hk => hk.1), Lr, Rd, Lk, hp.out, hr.out, hend.out, hTk.out.mono (fun x hx => ?_), by have := hpk.out; rwa [List.take_length] at this⟩
          rcases hx with hx | hx
          · exact .inl hx.1
          · exact .inr (by omega)
    · have hTc := Lib.hid (hT.out.keep (w' := wc) (fun k _ hl => by obtain ⟨n, rfl⟩ := hdr; rfl))
      rcases hTc.out.first with ⟨e0, _⟩ | ⟨A, n, cap, b, s, d, hc3, ha, hb, hin, hmin⟩
      · obtain ⟨y, hy, _⟩ := ht.out.1 rfl
        rw [e0] at hy; cases hy
      · have hdc : Hid (d ≤ c) := Lib.hid (by
          obtain ⟨y, hy, h⟩ := ht.out.1 rfl
          have := hmin y hy
          omega)
        have HI := Lib.hid hin
        have k0 := hb.cell 0
        have k1 := hb.cell 1
        have k2 := hb.cell 2
        have k3 := hb.cell 3
        have k4 := hb.cell 4
        have k5 := hb.cell 5
        have k6 := hb.cell 6
        have k7 := hb.cell 7
        simp [kcs] at k0 k1 k2 k3 k4 k5 k6 k7
        have hk : s.key.size ≤ 9223372036854775807 := by
          have := (HS.out (s, d) (hp.out.mem_iff.2 (List.mem_append_left _ hin))).key
          simp only at this; omega
        have HO := Lib.hid (own_tch (S := fun _ => False) ho.out hdr.tch (fun _ _ _ x => x))
        have tlc : T < wc.heap.size := Nat.lt_of_lt_of_le tl0 (hg.trans hdr.tch).size
        have HG := Lib.hid (hg.trans hdr.tch)
        have n0 : (0 : Int) < (n : Int) + 1 := by omega
        have HL := Lib.hid (fun W (g : TabL W T (fun k => B k ∧ k < w.heap.size) m c Lr) => lose_L T _ m c Lr s.key W g hk)
        have HN := Lib.hid (hTc.out.below ((Below.refl _ wc).alloc (Nat.le_refl _) (.cells s.cs Tas)))
        have hwc : w.heap.size ≤ wc.heap.size := HG.out.size
        have bx := Blk.new wc s.cs Tas
        have HP := Lib.hid (fst_perm_app hTc.out.ap hp.out HI.out)
        have HO2 := Lib.hid (own_tch (S := fun _ => False) HO.out (Tch.of ((Below.refl _ wc).alloc (Nat.le_refl _) (.cells s.cs Tas))) (fun _ _ _ x => x))
        clear hin hmin hb ho hdr hT hg t1 tl hvv ht hTc
        go_wp2_with (go_at_call 42; refine (HL.out _ HN.out).mono ?_; rintro e w1 ⟨rfl, hT1, g1⟩; refine stopHere ?_)
        unfold Stop
        have b1 := g1.blk bx (fun x => by have := x.2; omega)
        have G1 : Tch (fun k => B k ∧ k < w.heap.size) wc w1 := (Tch.of ((Below.refl _ wc).alloc (Nat.le_refl _) _)).trans g1
        have O1 := Lib.hid (own_tch HO2.out g1 (fun k h1 h2 x => by have := x.2; omega))
        have x0 := b1.cell 0
        have x1 := b1.cell 1
        have x2 := b1.cell 2
        have x3 := b1.cell 3
        have x4 := b1.cell 4
        have x5 := b1.cell 5
        have x6 := b1.cell 6
        have x7 := b1.cell 7
        simp at x0 x1 x2 x3 x4 x5 x6 x7
        have HT1 := Lib.hid hT1
        have hw1 : w.heap.size ≤ w1.heap.size := Nat.le_trans hwc G1.size
        have HLen : Hid (Rd.length + 1 ≤ L.length) := Lib.hid (by
          have := hlen.out
          have : 0 < Lr.length := List.length_pos_of_mem HI.out
          omega)
        have hrd : Rd.length ≤ 1000000 := by have := HF.out; have := hlen.out; omega
        clear k0 k1 k2 k3 k4 k5 k6 k7 hc3 ha bx HL HN HO HO2 b1 g1 hT1 tlc n0
        have hml : (Rd.map Prod.fst).length = Rd.length := List.length_map _
        go_wp2_with (at_builtin; refine wpList_app_s _ rfl _ _ rfl w.heap.size _ (Rd.map Prod.fst) rfl ?o w1.heap.size 0 1 s rfl ?c1 ?c2 ?c3 ?_)
        case o => exact own_tch (S := fun _ => False) O1.out (Tch.of ((Below.refl _ w1).alloc (Nat.le_refl _) _)) (fun _ _ _ x => x)
        case c1 =>
          intro j hj
          have z := (Blk.new w1 s.cs Tas).cell j
          rw [Nat.zero_add]; exact z
        case c2 => rw [hml]; omega
        case c3 => simp; omega
        intro g cap w2 own bel grow hg2
        have T2 : Hid (TabL w2 T (fun k => B k ∧ k < w.heap.size) m c (offL s.key Lr)) := Lib.hid ((HT1.out.below ((Below.refl _ w1).alloc (Nat.le_refl _) _)).keep (fun k hk hl => bel.block k hk.2))
        have G2 : Tch (fun k => B k ∧ k < w.heap.size) w w2 := (HG.out.trans G1).bel ((((Below.refl w.heap.size w1).alloc hw1 _)).trans bel)
        have OW := Lib.hid own
        clear own bel grow hg2 HT1 O1
        go_wp2
        go_roundw
        case rel => exact ⟨offL s.key Lr, Rd ++ [(s, d)], T2, HP, Lib.hid (fun x hx => by
          rcases List.mem_append.1 hx with hx | hx
          · exact hr.out x hx
          · rw [List.mem_singleton.1 hx]; exact hdc.out), by rw [List.map_append]; exact OW, G2⟩
        case measure =>
          have := HLen.out
          simp [lenV]; omega
end Go.Proofs.YtkfncanfgpmgaaaGreat.Wd
