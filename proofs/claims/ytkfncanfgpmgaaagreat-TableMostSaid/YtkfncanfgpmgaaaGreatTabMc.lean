/- TableMost answers true, for any deeds and choices; no conditions. -/
import Derived.Test.YtkfncanfgpmgaaaGreatTabMb
import Derived.Deep.LoopGhost
import Derived.Deep.CutRange
namespace Go.Proofs.YtkfncanfgpmgaaaGreat.Wd
open Go Go.RowKit Go.Shelf Go.Deep
set_option linter.unusedVariables false
set_option maxRecDepth 100000

/-- Is a key charged by this very rule? -/
def wasB (xs : List Sl) (k : ByteArray) (r : Rl) : Bool := xs.any (fun x => decide (x.key = k) && decide (x.r.e = r.e) && decide (x.r.b = r.b))
theorem was_has {xs : List Sl} {k : ByteArray} {r : Rl} (h : wasB xs k r = true) : hasK xs k = true := by
  unfold wasB at h
  unfold hasK
  rw [List.any_eq_true] at h ⊢
  obtain ⟨x, hx, e⟩ := h
  refine ⟨x, hx, ?_⟩
  simp only [Bool.and_eq_true, decide_eq_true_eq] at e ⊢
  exact e.1.1
theorem drew_cell {w w' : World} (g : Drew w w') (p : Addr) : w'.cell? p = w.cell? p := by obtain ⟨n, rfl⟩ := g; rfl
theorem drew_heap {w w' : World} (g : Drew w w') (k : Nat) : w'.heap[k]? = w.heap[k]? := by obtain ⟨n, rfl⟩ := g; rfl
set_option maxHeartbeats 16000000 in
theorem most_walk (k0 : Int) (A : Option Addr) (n cap : Nat) (ds : List Dd) (w : World) (h : Dds w A n ds) (hk : 0 ≤ k0 ∧ k0 ≤ 255) :
    Calls Tryz.prog 5 #[.int .u8 k0, .slice A n cap] w fun e w' => e = .returned (.bool true) ∧ Below w.heap.size w w' := by
  have K0 := Lib.hid known_any
  have HD := Lib.hid h
  have CH := Lib.hid (heavy_any A n cap ds w h)
  have tm5 : k0.tmod 5 = k0 % 5 := Int.tmod_eq_emod_of_nonneg hk.1
  have wm5 : IntKind.i64.wrap (1 + k0 % 5) = 1 + k0 % 5 := by rw [IntKind.wrap_i64]; omega
  have wk5 : IntKind.i64.wrap (k0 % 5) = k0 % 5 := by rw [IntKind.wrap_i64]; omega
  clear h
  go_enter Tryz.func5, Tryz.ntmps5
  go_wp2_with (go_at_call 8; refine CH.out.mono ?_; rintro e W1 ⟨v, rfl, k1⟩; refine stopHere ?_)
  unfold Stop
  by_cases hv : 500 < v
  · have hq := decide_eq_true hv
    clear CH
    go_wp2_with (go_at_call 9; refine (K0.out _).mono ?_; rintro e W2 ⟨rfl, g⟩)
    go_ret
    exact ⟨rfl, kbq k1 g⟩
  · have hq := decide_eq_false hv
    clear CH
    have CN := Lib.hid (new_any (1 + k0 % 5) W1)
    rw [show mostI (1 + k0 % 5) = 1 + k0 % 5 by unfold mostI; omega] at CN
    have hm1 : 1 ≤ 1 + k0 % 5 := by omega
    have hm5 : 1 + k0 % 5 ≤ 5 := by omega
    go_wp2_with (go_at_call 13; refine CN.out.mono ?_; rintro e W2 ⟨rfl, g2, hT2, hs2⟩; refine stopHere ?_)
    unfold Stop
    clear wm5
    generalize 1 + k0 % 5 = m at *
    obtain ⟨n0, hn0⟩ : ∃ n0, w.heap.size = n0 := ⟨_, rfl⟩
    have hk2 := Lib.hid (kbq k1 g2)
    have hP0 : Hid (Tbl W2 (W1.heap.size + 1) (fun k => n0 ≤ k) m 0 []) := Lib.hid (hT2.mono (fun k hk => by have := k1.size; have := hk.1; omega))
    generalize W1.heap.size + 1 = T at *
    rw [hn0] at hk2
    have HN0 := Lib.hid hn0
    clear g2 hT2 hs2 k1 hn0 CN
    go_wp2_with fail
    go_loopw [7] (fun i wr => ∃ (j : Nat) (c : Int) (S : List Sl), i = .int .i64 (j : Int) ∧ (j ≤ n ∧ j ≤ 40) ∧ (0 ≤ c ∧ c ≤ 40 * (j : Int)) ∧ Hid (Tbl wr T (fun k => n0 ≤ k) m c S) ∧ Hid (Inm c S) ∧ Hid (Below n0 w wr)) (fun i _ => 40 - (intOf i).toNat)
    case atStart => exact ⟨0, 0, [], rfl, ⟨Nat.zero_le _, Nat.zero_le _⟩, ⟨Int.le_refl _, Int.le_refl _⟩, hP0, Lib.hid (fun s hs => nomatch hs), hk2⟩
    case round =>
      clear hP0 hk2
      obtain ⟨j, c, S, rfl, ⟨hjn, hj40⟩, ⟨hc0, hc8⟩, hP, HI, HB⟩ := hrel
      go_upto_region 8 with fail
      go_cut [34] from 27 to 34 (fun v wx => ∃ t : Bool, v = .bool t ∧ Hid (t = true ↔ (j < n ∧ j < 40)) ∧ Hid (wx = wr))
      case first =>
        by_cases q1 : j < n
        · have q1' : (j : Int) < (n : Int) := by omega
          by_cases q2 : j < 40
          · have q2' : (j : Int) < 40 := by omega
            go_wp2
            go_meet
            case rel => exact ⟨true, rfl, Lib.hid (by simp [q1, q2]), Lib.hid rfl⟩
          · have q2' : decide ((j : Int) < 40) = false := decide_eq_false (by omega)
            go_wp2
            go_meet
            case rel => exact ⟨false, rfl, Lib.hid (by simp [q2]), Lib.hid rfl⟩
        · have q1' : decide ((j : Int) < (n : Int)) = false := decide_eq_false (by omega)
          go_wp2
          go_meet
          case rel => exact ⟨false, rfl, Lib.hid (by simp [q1]), Lib.hid rfl⟩
      case rest =>
      obtain ⟨tt, rfl, htt, hwx⟩ := hcut
      obtain rfl := hwx.out.symm
      clear hwx
      have hsz := Lib.hid (show n0 ≤ wr.heap.size by have := HB.out.size; have := HN0.out; omega)
      cases tt
      · clear htt HD
        have hU : U (c + 1000000) := by unfold U; omega
        have wxc : IntKind.u64.wrap (c + 1000000) = c + 1000000 := by rw [IntKind.wrap_u64]; omega
        have hmx : max c (c + 1000000) = c + 1000000 := by omega
        have L1 := Lib.hid (clock_yes T c wr hP.out.cells.2.1)
        have L2 := Lib.hid (tick_any T _ m c (c + 1000000) S wr hP.out hU)
        rw [hmx, HI.out.gone] at L2
        go_wp2_with (first
          | (go_at_call 21; refine L1.out.mono ?_; rintro e _ ⟨rfl, rfl⟩)
          | (go_at_call 20; refine L2.out.mono ?_; rintro e W5 ⟨rfl, g5, hT5⟩; refine stopHere ?_))
        unfold Stop
        have hP5 : Hid (Tbl W5 T (fun k => n0 ≤ k) m (c + 1000000) []) := Lib.hid (hT5.mono (fun k hk => by have := hsz.out; rcases hk with hk | hk <;> omega))
        have hB5 : Hid (Below n0 w W5) := Lib.hid (HB.out.trans (g5.lo (fun k hk => hk) hsz.out))
        have hs5 : Hid (n0 ≤ W5.heap.size) := Lib.hid (Nat.le_trans hsz.out g5.size)
        have hm3 : c + 1000000 ≤ 4611686018427387904 := by omega
        have hc3 : 0 ≤ c + 1000000 := by omega
        clear L1 L2 g5 hT5 hP HB hsz HI hmx wxc
        generalize c + 1000000 = c5 at *
        have CA := Lib.hid (fun V (g : Tbl V T (fun k => n0 ≤ k) m c5 []) => active_any T _ m c5 [] V g)
        have CS := Lib.hid (fun V (g : Tbl V T (fun k => n0 ≤ k) m c5 []) => slots_any T _ m c5 [] V g (sort_few 0 (by omega)))
        have CR0 := Lib.hid (fun V => rule_any 0 V (by omega))
        have CC := Lib.hid (fun V (g : Tbl V T (fun k => n0 ≤ k) m c5 []) => charge_tab T _ m c5 [] ⟨#[110, 101, 119]⟩ (ruleK 0) 1 V g (by decide) (ruleK_okr 0 (by omega)) (by unfold U; decide))
        have hcode := last_code m c5 hm1 hc3 hm3
        generalize chA m c5 [] ⟨#[110, 101, 119]⟩ (ruleK 0) 1 = a at *
        obtain ⟨a0, a1, a2, a3, a4, a5, a6, a7⟩ := a
        dsimp only at hcode
        subst hcode
        dsimp only [An.v, An.cs] at CC
        generalize ruleK 0 = r0 at *
        go_wp2_with (first
          | (go_at_call 9; refine (K0.out _).mono ?_; rintro e W6 ⟨rfl, g⟩; have hP6 := Lib.hid (hP5.out.below g); have hB6 := Lib.hid (hB5.out.trans (g.mono hs5.out)); have hs6 := Lib.hid (Nat.le_trans hs5.out g.size); clear g)
          | (go_at_call 17; refine (CA.out _ hP6.out).mono ?_; rintro e _ ⟨rfl, rfl⟩)
          | (go_at_call 16; refine (CS.out _ hP6.out).mono ?_; rintro e W7 ⟨v7, xs7, rfl, ho7, ht7, g⟩; obtain ⟨A7, cap7, rfl, _⟩ := ho7.form; have hl7 : xs7.length = 0 := ht7.len; rw [hl7]; have hP7 := Lib.hid (hP6.out.below g); have hB7 := Lib.hid (hB6.out.trans (g.mono hs6.out)); have hs7 := Lib.hid (Nat.le_trans hs6.out g.size); clear g ho7 ht7 hl7)
          | (go_at_call 15; refine (CR0.out _).mono ?_; rintro e W8 ⟨rfl, g⟩; have hP8 := Lib.hid (hP7.out.below g); have hB8 := Lib.hid (hB7.out.trans (g.mono hs7.out)); have hs8 := Lib.hid (Nat.le_trans hs7.out g.size); clear g)
          | (go_at_call 18; refine (CC.out _ hP8.out).mono ?_; rintro e W9 ⟨rfl, g, _⟩; have hB9 := Lib.hid (hB8.out.trans (g.lo (n := n0) (fun k hk => hk) hs8.out)); have hfl := fld0 1 a1 a2 a3 a4 a5 a6 a7 W9; clear g))
        go_ret
        exact ⟨rfl, by rw [HN0.out]; exact hB9.out⟩
      · obtain ⟨hj1, hj2⟩ := htt.out.1 rfl
        clear htt
        obtain ⟨b, off, ka, kn, kc, rfl, hd0⟩ := HD.out.2.2.2 j hj1
        have hok := HD.out.ok hj1
        obtain ⟨d, hdd⟩ : ∃ d, ds.getD j dd0 = d := ⟨_, rfl⟩
        rw [hdd] at hd0 hok
        have hbw := cell_lt hd0.c0
        have HBw := Lib.hid (show Below w.heap.size w wr by rw [HN0.out]; exact HB.out)
        have hd := hd0.below HBw.out
        have hD0 := Lib.hid hd0
        have nb : ¬ (n0 ≤ b) := by have := HN0.out; omega
        have hkind := hok.kind
        have hdw := hok.wait
        have hdr := hok.rule
        have jn : (j : Int) < (n : Int) := by omega
        have j0 : (0 : Int) ≤ (j : Int) := by omega
        have tm2 : d.rule.tmod 2 = d.rule % 2 := Int.tmod_eq_emod_of_nonneg hdr.1
        obtain ⟨d0, d1, d2, d3, d4, d5, d6⟩ : wr.cell? ⟨b, off + j * 7, none⟩ = some (.int .u8 d.kind) ∧ wr.cell? ⟨b, off + j * 7 + 1, none⟩ = some (.int .u32 d.wait) ∧ wr.cell? ⟨b, off + j * 7 + 2, none⟩ = some (.int .u8 d.big) ∧ wr.cell? ⟨b, off + j * 7 + 3, none⟩ = some (.slice ka kn kc) ∧ wr.cell? ⟨b, off + j * 7 + 4, none⟩ = some (.int .u8 d.rule) ∧ wr.cell? ⟨b, off + j * 7 + 5, none⟩ = some (.int .u16 d.n) ∧ wr.cell? ⟨b, off + j * 7 + 6, none⟩ = some (.int .u8 d.dest) := ⟨hd.c0, hd.c1, hd.c2, hd.c3, hd.c4, hd.c5, hd.c6⟩
        have CNm := Lib.hid (name_any d ka kn kc wr hkind hd.txt hd.few)
        have CR := Lib.hid (fun W => rule_any (d.rule % 2) W (by omega))
        have hnk := Lib.hid (nameT_ok d)
        have hr2 := Lib.hid (rule2 (d.rule % 2) (by omega))
        have hro := Lib.hid (ruleK_ok (d.rule % 2) (by omega))
        clear hdd hd0 hok hd
        generalize nameT d = nm at *
        generalize ruleK (d.rule % 2) = r at *
        go_wp2_with (first
          | (go_at_call 14; refine CNm.out.mono ?_; rintro e W3 ⟨rfl, g3⟩; refine stopHere ?_))
        unfold Stop
        have d4' := celln g3 d4
        go_wp2_with (first
          | (go_at_call 15; refine (CR.out _).mono ?_; rintro e W4 ⟨rfl, g4⟩; refine stopHere ?_))
        unfold Stop
        have k4 := kbq g3 g4
        have hP4 := Lib.hid (hP.out.low.below k4)
        have hsS : S.length ≤ 12 := by have := hP.out.wf.len; omega
        have CS := Lib.hid (fun V (g : Tbl V T (fun k => n0 ≤ k ∧ k < wr.heap.size) m c S) => slots_any T _ m c S V g (sort_few S.length hsS))
        clear CNm CR g3 g4 d4'
        have bR := Lib.hid (Blk.new W4 #[.string r.p, .int .u64 r.e, .int .u64 r.b, .int .u8 r.k] 42)
        have kR := Lib.hid ((Below.refl _ W4).alloc (Nat.le_refl _) (.cells #[.string r.p, .int .u64 r.e, .int .u64 r.b, .int .u8 r.k] 42))
        go_wp2_with (first
          | (go_at_call 16; refine (CS.out _ (hP4.out.below kR.out)).mono ?_; rintro e W5 ⟨v5, xs, rfl, ho5, ht5, g5⟩; refine stopHere ?_))
        unfold Stop
        have bR5 := Lib.hid (bR.out.below g5)
        have hP5 := Lib.hid ((hP4.out.below kR.out).below g5)
        have k5 := Lib.hid (kbq (kbq k4 kR.out) g5)
        have hR4 : wr.heap.size ≤ W4.heap.size := k4.size
        have hlt5 : W4.heap.size < W5.heap.size := by have := g5.size; simp at this; omega
        generalize hRB : W4.heap.size = RB at *
        have ho5' := Lib.hid ho5
        obtain ⟨A5, cap5, rfl, hcap5, hmx5, hf5⟩ := ho5.form
        have HF5 := Lib.hid hf5
        have HT5 := Lib.hid ht5
        have hxl : xs.length ≤ 12 := by rw [ht5.len]; omega
        have HO5 := Lib.hid (show OwS W5 wr.heap.size (.slice A5 xs.length cap5) xs from Go.Proofs.ownsRow_base_a ho5'.out (by simp; omega))
        have hNR : wr.heap.size ≤ RB := hR4
        have hsz2 := Lib.hid hsz.out
        obtain ⟨N, hN⟩ : ∃ N, wr.heap.size = N := ⟨_, rfl⟩
        have HB5 := Lib.hid (HB.out.trans (k5.out.mono hsz.out))
        have hsz5 : n0 ≤ W5.heap.size := Nat.le_trans hsz.out k5.out.size
        rw [hN] at hP5 HO5 hNR hsz2
        clear ho5' hR4
        clear bR kR g5 CS hP4 k4 ho5 hf5 ht5
        go_wp2_with fail
        go_loopw [10, 12] (fun t i wr2 => ∃ (q : Nat) (tb : Bool), t = .bool tb ∧ i = .int .i64 (q : Int) ∧ q ≤ xs.length ∧ Hid (wasB xs nm r = (tb || wasB (xs.drop q) nm r)) ∧ Hid (Drew W5 wr2)) (fun _ i _ => xs.length - (intOf i).toNat)
        case atStart => exact ⟨0, false, rfl, rfl, Nat.zero_le _, Lib.hid (by simp), Lib.hid (Drew.refl _)⟩
        case round =>
          obtain ⟨q, tb, rfl, rfl, hq5, hws, hdw2⟩ := hrel
          by_cases hlt : q < xs.length
          · obtain ⟨b5, rfl, hb5, hb52, hrow⟩ := HF5.out (by omega)
            obtain ⟨y0, y1, y2, y3, _⟩ := (hrow q hlt).eight
            have hs : xs.drop q = atS xs q :: xs.drop (q + 1) := by
              rw [List.drop_eq_getElem_cons hlt]; simp [atS, List.getD, hlt]
            have hws2 : wasB xs nm r = (tb || ((decide ((atS xs q).key = nm) && decide ((atS xs q).r.e = r.e) && decide ((atS xs q).r.b = r.b)) || wasB (xs.drop (q + 1)) nm r)) := by rw [hws.out, hs]; rfl
            generalize atS xs q = y at *
            obtain ⟨tk, hk1⟩ : ∃ t, decide (y.key = nm) = t := ⟨_, rfl⟩
            obtain ⟨te, hk2⟩ : ∃ t, decide (y.r.e = r.e) = t := ⟨_, rfl⟩
            obtain ⟨tb2, hk3⟩ : ∃ t, decide (y.r.b = r.b) = t := ⟨_, rfl⟩
            rw [hk1, hk2, hk3] at hws2
            have HN := Lib.hid hws2
            have fk : (y.key.toList == nm.toList) = tk := by rw [text_same]; exact hk1
            have fe : (y.r.e == r.e) = te := by rw [← hk2, Bool.eq_iff_iff]; simp
            have fb : (y.r.b == r.b) = tb2 := by rw [← hk3, Bool.eq_iff_iff]; simp
            rw [← drew_cell hdw2.out] at y0 y2 y3
            have r1 := bR5.out.cell 1
            have r2 := bR5.out.cell 2
            simp at r1 r2
            rw [← drew_cell hdw2.out] at r1 r2
            clear hk1 hk2 hk3 hws hws2 hs hrow y1
            cases tb
            · cases tk
              · go_wp2_with fail
                go_quiet (fail)
                go_wp2
                go_roundw
                case rel => exact ⟨q + 1, false, rfl, by go_num, by omega, Lib.hid (by rw [HN.out]; simp), hdw2.out.trans (Drew.of _ _)⟩
                case measure => simp [intOf]; omega
              · cases te
                · go_wp2_with fail
                  go_quiet (fail)
                  go_wp2
                  go_roundw
                  case rel => exact ⟨q + 1, false, rfl, by go_num, by omega, Lib.hid (by rw [HN.out]; simp), hdw2.out.trans (Drew.of _ _)⟩
                  case measure => simp [intOf]; omega
                · cases tb2
                  · go_wp2_with fail
                    go_quiet (fail)
                    go_wp2
                    go_roundw
                    case rel => exact ⟨q + 1, false, rfl, by go_num, by omega, Lib.hid (by rw [HN.out]; simp), hdw2.out.trans (Drew.of _ _)⟩
                    case measure => simp [intOf]; omega
                  · go_wp2_with fail
                    go_quiet (fail)
                    go_wp2
                    go_roundw
                    case rel => exact ⟨q + 1, true, rfl, by go_num, by omega, Lib.hid (by rw [HN.out]; simp), hdw2.out.trans (Drew.of _ _)⟩
                    case measure => simp [intOf]; omega
            · go_wp2_with fail
              go_quiet (fail)
              go_wp2
              go_roundw
              case rel => exact ⟨q + 1, true, rfl, by go_num, by omega, Lib.hid (by rw [HN.out]; simp), hdw2.out.trans (Drew.of _ _)⟩
              case measure => simp [intOf]; omega
          · have HW : Hid (wasB xs nm r = tb) := Lib.hid (by rw [hws.out, List.drop_of_length_le (by omega)]; cases tb <;> rfl)
            have hP6 := Lib.hid (hP5.out.keep (w' := wr) (fun k _ _ => drew_heap hdw2.out k))
            have bR6 := Lib.hid (show Blk wr RB #[.string r.p, .int .u64 r.e, .int .u64 r.b, .int .u8 r.k] 42 from (drew_heap hdw2.out RB).trans bR5.out)
            have HO6 := Lib.hid (show OwS wr N (.slice A5 xs.length cap5) xs from own_tch HO5.out (hdw2.out.tch (S := fun _ => False)) (fun k _ _ h => h))
            have HB6 := Lib.hid (HB5.out.trans (hdw2.out.lo hsz5))
            have hsz6 : n0 ≤ wr.heap.size := by rw [hdw2.out.size]; exact hsz5
            have CA := Lib.hid (active_any T _ m c S wr hP6.out)
            have CC := Lib.hid (charge_tab T _ m c S nm r 1 wr hP6.out (by have := hnk.out.1; omega) hro.out.1 (by unfold U; decide))
            have HW0 := Lib.hid hP6.out.wf
            have hI2 := Lib.hid (HI.out.charge (m := m) (n := 1) (k := nm) (r := r) hr2.out.1 hr2.out.2)
            have hc3 : Hid (nm.size ≠ 0 → ((chA m c S nm r 1).code = 3 ↔ (hasK S nm = false ∧ m ≤ (S.length : Int)))) := Lib.hid (fun hz => code3 hP6.out.wf (by unfold wkE; rw [if_pos (hnk.out.2 hz)]; exact hro.out.2.1))
            obtain ⟨rr0, rr1, rr2, rr3⟩ : wr.cell? ⟨RB, 0, none⟩ = some (.string r.p) ∧ wr.cell? ⟨RB, 1, none⟩ = some (.int .u64 r.e) ∧ wr.cell? ⟨RB, 2, none⟩ = some (.int .u64 r.b) ∧ wr.cell? ⟨RB, 3, none⟩ = some (.int .u8 r.k) := ⟨bR6.out.cell 0, bR6.out.cell 1, bR6.out.cell 2, bR6.out.cell 3⟩
            generalize chA m c S nm r 1 = a at *
            generalize chN m c S nm r 1 = N1 at *
            obtain ⟨a0, a1, a2, a3, a4, a5, a6, a7⟩ := a
            dsimp only at hc3
            dsimp only [An.v, An.cs] at CC
            go_wp2_with (first
              | (go_at_call 17; refine CA.out.mono ?_; rintro e _ ⟨rfl, rfl⟩)
              | (go_at_call 18; refine CC.out.mono ?_; rintro e W6 ⟨rfl, g6, hT6⟩; refine stopHere ?_))
            unfold Stop
            have HO7 := Lib.hid (show OwS W6 N (.slice A5 xs.length cap5) xs from own_tch HO6.out g6 (fun k a _ h => by have := h.2; omega))
            have hT7 := Lib.hid (hT6.mono (C := fun k => n0 ≤ k) (fun k hk => by rcases hk with hk | hk <;> omega))
            have HB7 := Lib.hid (HB6.out.trans (g6.lo (n := n0) (fun k hk => hk.1) hsz6))
            have hsz7 := Nat.le_trans hsz6 g6.size
            have HW1 := hT6.wf.len
            have hd1 : ¬ (nm.size = 0) → rtB (lb nm) = true := hnk.out.2
            clear CA CC hdw2 hP5 HO5 HB5 hsz5 hP6 HO6 HB6 hsz6 bR6 bR5 rr0 rr1 rr2 rr3 g6 hT6 HF5 hsz2 hNR
            go_wp2_with fail
            have bA := Lib.hid (Blk.new W6 #[.int .u8 a0, .int .u16 a1, .int .u64 a2, .int .u64 a3, .int .u64 a4, .int .u64 a5, .int .u64 a6, .bool a7, .int .i64 0, .slice none 0 0] 52)
            have gA := (Below.refl _ W6).alloc (Nat.le_refl _) (.cells #[.int .u8 a0, .int .u16 a1, .int .u64 a2, .int .u64 a3, .int .u64 a4, .int .u64 a5, .int .u64 a6, .bool a7, .int .i64 0, .slice none 0 0] 52)
            have HT8 := Lib.hid (hT7.out.below gA)
            have HO8 := Lib.hid (show OwS (W6.alloc (.cells #[.int .u8 a0, .int .u16 a1, .int .u64 a2, .int .u64 a3, .int .u64 a4, .int .u64 a5, .int .u64 a6, .bool a7, .int .i64 0, .slice none 0 0] 52)) N (.slice A5 xs.length cap5) xs from own_below HO7.out gA)
            have HB8 := Lib.hid (HB7.out.trans (gA.mono hsz7))
            have hsz8 := Nat.le_trans hsz7 gA.size
            generalize hRA : W6.heap.size = RA at *
            generalize hV7 : World.alloc W6 _ = V7 at *
            have cA0 := bA.out.cell 0
            simp at cA0
            have HA := Lib.hid (fun j => (active_any T _ m c N1 (V7.drewN j) (HT8.out.keep (fun k _ _ => rfl))).mono (R' := fun e w' => e = .returned (.int .i64 N1.length) ∧ V7.drewN j = w') (fun _ _ k => ⟨k.1, k.2.symm⟩))
            have HH := Lib.hid (fun j => (holds_any _ N xs nm (V7.drewN j) (show OwS (V7.drewN j) N (.slice A5 xs.length cap5) xs from HO8.out) (by omega)).mono (R' := fun e w' => e = .returned (.bool (hasK xs nm)) ∧ V7.drewN j = w') (fun _ _ k => ⟨k.1, k.2.symm⟩))
            have hact := decide_eq_false (show ¬ m < (N1.length : Int) by omega)
            have hth := hasK_told HT5.out nm
            have hwh : tb = true → hasK xs nm = true := fun e => was_has (by rw [HW.out]; exact e)
            rw [← hth] at hc3
            generalize hasK xs nm = th at *
            clear hV7 bA HO7 hT7 HB7 HO8 hth HW hsz7 hRA gA
            go_upto_region 20 with fail
            go_cut [121] from 95 to 121 (fun v wx => v = .bool false ∧ Hid (Drew V7 wx))
            case first =>
              by_cases hz : nm.size = 0
              · have hz1 : (nm.toList == (⟨#[]⟩ : ByteArray).toList) = true := by rw [text_same]; simp; exact ByteArray.ext (Array.eq_empty_of_size_eq_zero hz)
                have hz2 : (nm.toList == ([] : List UInt8)) = true := by have h9 := hz1; rw [ByteArray.toList_eq ⟨#[]⟩] at h9; exact h9
                clear hc3 HH
                go_quiet ((go_at_call 17; exact still_call (HA.out _)))
                go_wp2
                go_meet
                case rel => exact ⟨rfl, Lib.hid (Drew.of _ _)⟩
              · have hz1 : (nm.toList == (⟨#[]⟩ : ByteArray).toList) = false := by rw [text_same]; simp; intro e; rw [e] at hz; exact hz rfl
                have hz2 : (nm.toList == ([] : List UInt8)) = false := by have h9 := hz1; rw [ByteArray.toList_eq ⟨#[]⟩] at h9; exact h9
                have hc4 := hc3.out hz
                clear hc3 hz
                cases tb
                · by_cases hl : m ≤ (S.length : Int)
                  · have hl2 := decide_eq_true hl
                    cases th
                    · obtain rfl : a0 = 3 := hc4.2 ⟨rfl, hl⟩
                      clear hc4 hwh
                      go_quiet ((first | (go_at_call 17; exact still_call (HA.out _)) | (go_at_call 19; exact still_call (HH.out _))))
                      go_wp2
                      go_meet
                      case rel => exact ⟨rfl, Lib.hid (Drew.of _ _)⟩
                    · have h3 : (a0 == 3) = false := by rw [beq_eq_false_iff_ne]; intro e; exact absurd (hc4.1 e).1 (by decide)
                      clear hc4 hwh
                      go_quiet ((first | (go_at_call 17; exact still_call (HA.out _)) | (go_at_call 19; exact still_call (HH.out _))))
                      go_wp2
                      go_meet
                      case rel => exact ⟨rfl, Lib.hid (Drew.of _ _)⟩
                  · have hl2 := decide_eq_false hl
                    have h3 : (a0 == 3) = false := by rw [beq_eq_false_iff_ne]; intro e; exact hl (hc4.1 e).2
                    clear hc4 hwh
                    go_quiet ((first | (go_at_call 17; exact still_call (HA.out _)) | (go_at_call 19; exact still_call (HH.out _))))
                    go_wp2
                    go_meet
                    case rel => exact ⟨rfl, Lib.hid (Drew.of _ _)⟩
                · have h3 : (a0 == 3) = false := by rw [beq_eq_false_iff_ne]; intro e; have := (hc4.1 e).1; rw [hwh rfl] at this; cases this
                  clear hc4 hwh
                  go_quiet ((first | (go_at_call 17; exact still_call (HA.out _)) | (go_at_call 19; exact still_call (HH.out _))))
                  go_wp2
                  go_meet
                  case rel => exact ⟨rfl, Lib.hid (Drew.of _ _)⟩
            case rest =>
            obtain ⟨rfl, hdw⟩ := hcut
            clear HA HH hact hc3 hwh cA0
            have HT9 := Lib.hid (HT8.out.drew hdw.out)
            have HB9 := Lib.hid (HB8.out.trans (hdw.out.lo hsz8))
            have hsz9 : n0 ≤ wc.heap.size := by rw [hdw.out.size]; exact hsz8
            have hd9 := hD0.out.below (show Below w.heap.size w wc by rw [HN0.out]; exact HB9.out)
            have e0 := hd9.c0
            have e1 := hd9.c1
            have tm4 : d.kind.tmod 4 = d.kind % 4 := Int.tmod_eq_emod_of_nonneg hkind.1
            clear hd9 HT8 HB8 hsz8 hdw
            by_cases h4 : d.kind % 4 = 0
            · have tm40 : d.wait.tmod 40 = d.wait % 40 := Int.tmod_eq_emod_of_nonneg hdw.1
              have wx40 : IntKind.u64.wrap (d.wait % 40) = d.wait % 40 := by rw [IntKind.wrap_u64]; omega
              have wxc : IntKind.u64.wrap (c + d.wait % 40) = c + d.wait % 40 := by rw [IntKind.wrap_u64]; omega
              have hU : U (c + d.wait % 40) := by unfold U; omega
              have hmx : max c (c + d.wait % 40) = c + d.wait % 40 := by omega
              have L1 := Lib.hid (fun V (g : Tbl V T (fun k => n0 ≤ k) m c N1) => clock_yes T c V g.cells.2.1)
              have K1 := Lib.hid (fun V (hs : n0 ≤ V.heap.size) (g : Tbl V T (fun k => n0 ≤ k) m c N1) => (tick_any T _ m c (c + d.wait % 40) N1 V g hU).mono (R' := fun e w' => e = .returned (.int .u64 (c + d.wait % 40)) ∧ Tbl w' T (fun k => n0 ≤ k) m (c + d.wait % 40) (N1.filter (actB (c + d.wait % 40))) ∧ Tch (fun k => n0 ≤ k) V w') (by
                rintro e w' ⟨rfl, q1, q2⟩
                rw [hmx] at q2
                exact ⟨by rw [hmx], q2.mono (fun k hk => by rcases hk with hk | hk <;> omega), q1⟩))
              have NI := Lib.hid (hI2.out.tick (show c ≤ c + d.wait % 40 by omega))
              have hszd : n0 ≤ wc.drew.heap.size := hsz9
              clear hI2 hmx
              go_wp2_with fail
              go_region_held3 (fun w' => w'.cell? ⟨b, off + j * 7 + 1, none⟩ = some (.int .u32 d.wait))
                (first | with_reducible exact e1 | with_reducible exact dcell e1)
                (first
                  | (go_at_call 21; ((with_reducible refine (L1.out _ (by first | exact HT9.out | exact HT9.out.drew (Drew.one _))).mono ?_); rintro r _ ⟨rfl, rfl⟩))
                  | (go_at_call 20; ((with_reducible refine (K1.out _ (by first | exact hsz9 | exact hszd) (by first | exact HT9.out | exact HT9.out.drew (Drew.one _))).mono ?_); rintro r W9 ⟨rfl, hT10, g⟩; (first | with_reducible (have HB10 := Lib.hid (HB9.out.trans (g.lo (n := n0) (fun k h => h) hsz9)); replace e1 := cellT g e1 nb) | with_reducible (have HB10 := Lib.hid (HB9.out.trans ((Drew.lo (Drew.one _) hsz9).trans (g.lo (n := n0) (fun k h => h) hszd))); replace e1 := cellT g (dcell e1) nb)))))
              rename_i hH
              clear hH
              have HT10 := Lib.hid hT10
              clear g hT10 L1 K1 e1 e0
              go_wp2
              go_roundw
              case rel => exact ⟨j + 1, c + d.wait % 40, _, by go_num, ⟨by omega, by omega⟩, ⟨by omega, by omega⟩, HT10, NI, HB10⟩
              case measure => simp [intOf]; omega
            · have h4' : (d.kind % 4 == 0) = false := by simpa using h4
              clear h4
              go_wp2
              go_roundw
              case rel => exact ⟨j + 1, c, N1, by go_num, ⟨by omega, by omega⟩, ⟨by omega, by omega⟩, HT9, hI2, HB9⟩
              case measure => simp [intOf]; omega
end Go.Proofs.YtkfncanfgpmgaaaGreat.Wd
