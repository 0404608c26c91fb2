/- TableNone answers true, for any key, deeds and numbers; no conditions. -/
import Derived.Test.YtkfncanfgpmgaaaGreatTabNn
import Derived.Deep.LoopGhost
import Derived.Deep.CutRange
namespace Go.Proofs.YtkfncanfgpmgaaaGreat.Wd
open Go Go.RowKit Go.Shelf Go.Deep
set_option linter.unusedVariables false
set_option maxRecDepth 100000

/-- A row of slots that may be written. -/
def Rw (w : World) (g n : Nat) : Prop := ∃ cur, Blk w g cur Tas ∧ ∀ q, q < n → (∃ s : ByteArray, cur[q * 8]? = some (.string s)) ∧ ∃ a : Int, U a ∧ cur[q * 8 + 6]? = some (.int .u64 a)
theorem Rw.cells {w : World} {g n : Nat} (h : Rw w g n) {q : Nat} (hq : q < n) : ∃ (s : ByteArray) (a : Int), U a ∧ w.cell? ⟨g, q * 8, none⟩ = some (.string s) ∧ w.cell? ⟨g, q * 8 + 6, none⟩ = some (.int .u64 a) ∧ w.frozen? ⟨g, q * 8, none⟩ = false ∧ w.frozen? ⟨g, q * 8 + 6, none⟩ = false := by
  obtain ⟨cur, hb, hc⟩ := h
  obtain ⟨⟨s, hs⟩, a, ha, he⟩ := hc q hq
  exact ⟨s, a, ha, (hb.cell _).trans hs, (hb.cell _).trans he, hb.fz _, hb.fz _⟩
theorem Rw.put {w : World} {g n : Nat} (h : Rw w g n) {q : Nat} (hq : q < n) (s : ByteArray) (a : Int) (ha : U a) : Rw ((w.setCell ⟨g, q * 8, none⟩ (.string s)).setCell ⟨g, q * 8 + 6, none⟩ (.int .u64 a)) g n := by
  obtain ⟨cur, hb, hc⟩ := h
  refine ⟨_, (hb.set _ _).set _ _, fun p hp => ?_⟩
  obtain ⟨⟨s1, h1⟩, a1, ha1, h2⟩ := hc p hp
  have l1 := (Array.getElem?_eq_some_iff.1 h1).1
  have l2 := (Array.getElem?_eq_some_iff.1 h2).1
  constructor
  · by_cases e : p = q
    · subst e
      exact ⟨s, by rw [Array.getElem?_setIfInBounds_ne (by omega), Array.getElem?_setIfInBounds_self_of_lt l1]⟩
    · exact ⟨s1, by rw [Array.getElem?_setIfInBounds_ne (by omega), Array.getElem?_setIfInBounds_ne (by omega)]; exact h1⟩
  · by_cases e : p = q
    · subst e
      exact ⟨a, ha, by rw [Array.getElem?_setIfInBounds_self_of_lt (by simpa using l2)]⟩
    · exact ⟨a1, ha1, by rw [Array.getElem?_setIfInBounds_ne (by omega), Array.getElem?_setIfInBounds_ne (by omega)]; exact h2⟩
theorem OwS.rw {w : World} {base : Nat} {A : Option Addr} {cap : Nat} {xs : List Sl} (h : OwS w base (.slice A xs.length cap) xs) (hu : ∀ x ∈ xs, U x.a) (hp : 0 < xs.length) : ∃ g, A = some ⟨g, 0, none⟩ ∧ base ≤ g ∧ g < w.heap.size ∧ Rw w g xs.length := by
  rcases h.2 with ⟨e, h0⟩ | ⟨g, cp, cur, e, hb, hgg, h1, h2, h3, h4⟩
  · omega
  · cases e
    have hat : ∀ k, k < xs.length → ∀ j, j < 8 → cur[k * 8 + j]? = (atS xs k).cs[j]? := fun k hk j hj => by
      rw [← flatS_at xs k hk j hj, ← h4, List.getElem?_take, if_pos (by omega)]; simp
    refine ⟨g, rfl, hb, heap_lt hgg, cur, hgg, fun q hq => ⟨⟨_, hat q hq 0 (by omega)⟩, (atS xs q).a, hu _ ?_, hat q hq 6 (by omega)⟩⟩
    simp [atS, List.getD, hq]
theorem Rw.below {w w' : World} {g n : Nat} (h : Rw w g n) (k : Below w.heap.size w w') : Rw w' g n := by
  obtain ⟨cur, hb, hc⟩ := h
  exact ⟨cur, hb.below k, hc⟩
theorem sh4 (V : World) : Calls Tryz.prog 17 #[.pointer none] V fun e w' => e = .returned (.int .i64 0) ∧ Below V.heap.size V w' := active_of none _ _ 1 0 [] V (Ent.no V)
theorem clock_nil (V : World) : Calls Tryz.prog 21 #[.pointer none] V fun e w' => e = .returned (.int .u64 0) ∧ Below V.heap.size V w' := clock_of none _ _ 1 0 [] V (Ent.no V)
theorem slots_nil (V : World) : Calls Tryz.prog 16 #[.pointer none] V fun e w' => ∃ A cap, e = .returned (.slice A 0 cap) ∧ Below V.heap.size V w' :=
  (slots_of none _ _ 1 0 [] V (Ent.no V) (sort_few 0 (by omega))).mono (by
    rintro e w' ⟨v, xs, rfl, h1, h2, h3⟩
    obtain ⟨A, cap, rfl, _⟩ := h1.form
    exact ⟨A, cap, by rw [show xs.length = 0 from h2.len], h3⟩)
theorem entries_nil (V : World) : Calls Tryz.prog 27 #[.pointer none] V fun e w' => ∃ A cap, e = .returned (.slice A 0 cap) ∧ Below V.heap.size V w' :=
  (entries_of none _ _ 1 0 [] V (Ent.no V) (sort_few 0 (by omega))).mono (by
    rintro e w' ⟨v, xs, rfl, h1, h2, h3⟩
    obtain ⟨A, cap, rfl, _⟩ := h1.form
    exact ⟨A, cap, by rw [List.length_map, show xs.length = 0 from h2.len], h3⟩)
theorem move_nil (k : ByteArray) (hk : k.size ≤ 9223372036854775807) (V : World) : Calls Tryz.prog 22 #[.pointer none, .string k, .int .u8 1] V fun e w' => e = .returned (.int .u16 52) ∧ Below V.heap.size V w' :=
  (move_of none _ _ 1 0 [] k 1 V (Ent.no V) hk (.inl rfl)).mono (fun _ _ ⟨a, b, _⟩ => ⟨a, b.lo (n := V.heap.size) (fun k h => h) (Nat.le_refl _)⟩)
theorem move_nine (T : Nat) (k : ByteArray) (V : World) : Calls Tryz.prog 22 #[ptr T, .string k, .int .u8 9] V fun e w' => e = .returned (.int .u16 27) ∧ Below V.heap.size V w' := move_bad (some ⟨T, 0, none⟩) k 9 V (by kernel_rfl)
theorem keep_lo {n0 : Nat} {w a b : World} (h : Below n0 w a) (e : w.heap.size = n0) (g : Below a.heap.size a b) : Below n0 w b := h.trans (g.mono (by have := h.size; omega))
theorem keep_cell {a b : World} {p : Nat} {y : ByteArray} {P : Prop} (h : a.cell? ⟨p, 0, none⟩ = some (.string y) ∧ P) (g : Below a.heap.size a b) : b.cell? ⟨p, 0, none⟩ = some (.string y) ∧ P := ⟨celln g h.1, h.2⟩
theorem tail7 {n0 : Nat} {w wr a b : World} (h : Below n0 w wr) (hz : n0 ≤ wr.heap.size) (k : Below wr.heap.size wr a) (g : Tch (fun k => n0 ≤ k) a b) : Below n0 w b := (h.trans (k.mono hz)).trans (g.lo (n := n0) (fun k h => h) (Nat.le_trans hz k.size))
set_option maxHeartbeats 16000000 in
theorem none_walk (k : ByteArray) (A : Option Addr) (n cap : Nat) (ds : List Dd) (x kd : Int) (w : World) (h : Dds w A n ds) (hk : k.size ≤ 9223372036854775807) (hx : U x) :
    Calls Tryz.prog 7 #[.string k, .slice A n cap, .int .u64 x, .int .u8 kd] w fun e w' => e = .returned (.bool true) ∧ Below w.heap.size w w' := by
  have K0 := Lib.hid known_any
  have HD := Lib.hid h
  have CH := Lib.hid (heavy_any A n cap ds w h)
  clear h
  go_enter Tryz.func7, Tryz.ntmps7
  (try simp only [List.append_eq, List.cons_append, List.nil_append])
  by_cases hk2 : 200 < k.size
  · have hq : (200 : Int) < (k.size : Int) := by omega
    clear CH
    go_wp2_with (go_at_call 9; refine (K0.out _).mono ?_; rintro e W2 ⟨rfl, g⟩)
    go_ret
    exact ⟨rfl, g⟩
  have hq : decide ((200 : Int) < (k.size : Int)) = false := decide_eq_false (by omega)
  go_wp2_with (go_at_call 8; refine CH.out.mono ?_; rintro e W1 ⟨v, rfl, k1⟩; refine stopHere ?_)
  unfold Stop
  clear CH
  by_cases hv : 300 < v
  · have hq2 := decide_eq_true hv
    go_wp2_with (go_at_call 9; refine (K0.out _).mono ?_; rintro e W2 ⟨rfl, g⟩)
    go_ret
    exact ⟨rfl, kbq k1 g⟩
  have hq2 := decide_eq_false hv
  by_cases hn : 30 < n
  · have hq3 : decide ((30 : Int) < (n : Int)) = true := decide_eq_true (by omega)
    go_wp2_with (go_at_call 9; refine (K0.out _).mono ?_; rintro e W2 ⟨rfl, g⟩)
    go_ret
    exact ⟨rfl, kbq k1 g⟩
  have hq3 : decide ((30 : Int) < (n : Int)) = false := decide_eq_false (by omega)
  have CR0 := Lib.hid (fun V => rule_any 0 V (by omega))
  have CC0 := Lib.hid (fun V => charge_nil ⟨#[97]⟩ (ruleK 0) 1 V (by decide) (ruleK_okr 0 (by omega)) (by unfold U; decide) (by kernel_rfl))
  have CM0 := Lib.hid (fun V => mvall_of none (fun _ => True) (fun k => V.heap.size ≤ k) 1 0 1 [] V (Ent.no V) (.inl rfl) (fun s hs => nomatch hs) (sort_few 0 (by omega)))
  generalize ruleK 0 = r0 at *
  go_wp2_with (first
    | (go_at_call 15; refine (CR0.out _).mono ?_; rintro e W2 ⟨rfl, g2⟩; have k2 := Lib.hid (kbq k1 g2); clear g2 k1)
    | (go_at_call 18; (with_reducible refine (CC0.out _).mono ?_); rintro e W3 ⟨⟨v3, rfl⟩, g3⟩; have k3 := Lib.hid (kbq k2.out g3); clear g3 k2)
    | (go_at_call 23; (with_reducible refine (CM0.out _).mono ?_); rintro e W4 ⟨rfl, g4, _⟩; have k4 := Lib.hid (kbq k3.out (g4.lo (n := W3.heap.size) (fun k h => h) (Nat.le_refl _))); clear g4 k3; refine stopHere ?_))
  unfold Stop
  have hs4 := k4.out.size
  clear CR0 CC0 CM0
  go_wp2_with (go_at_call 13; refine (new_any 4 _).mono ?_; rintro e W5 ⟨rfl, g5, hT5, hs5⟩; refine stopHere ?_)
  unfold Stop
  obtain ⟨n0, hn0⟩ : ∃ n0, w.heap.size = n0 := ⟨_, rfl⟩
  have HB5 := Lib.hid (kbq k4.out g5)
  have hP5 : Hid (Tbl W5 (W4.heap.size + 1) (fun k => n0 ≤ k) 4 0 []) := Lib.hid (hT5.mono (fun k hk => by have := hk.1; omega))
  generalize W4.heap.size + 1 = T at *
  rw [hn0] at HB5
  have HN0 := Lib.hid hn0
  clear g5 hT5 hs5 k4 hn0 hs4
  go_wp2_with fail
  go_loopw [13] (fun i wr => ∃ (j : Nat) (S : List Sl), i = .int .i64 (j : Int) ∧ j ≤ n ∧ Hid (Tbl wr T (fun k => n0 ≤ k) 4 0 S) ∧ Hid (Nox S) ∧ Hid (Below n0 w wr)) (fun i _ => n - (intOf i).toNat)
  case atStart => exact ⟨0, [], rfl, Nat.zero_le _, hP5, Lib.hid (fun s hs => nomatch hs), HB5⟩
  case round =>
    clear hP5 HB5
    obtain ⟨j, S, rfl, hjn, hP, HX, HB⟩ := hrel
    have hZ := Lib.hid (show n0 ≤ wr.heap.size by have := HB.out.size; have := HN0.out; omega)
    by_cases hj : j < n
    · obtain ⟨b, off, ka, kn, kc, rfl, hd0⟩ := HD.out.2.2.2 j hj
      have hok := HD.out.ok hj
      obtain ⟨d, hdd⟩ : ∃ d, ds.getD j dd0 = d := ⟨_, rfl⟩
      rw [hdd] at hd0 hok
      have hbw := cell_lt hd0.c0
      have hd := hd0.below (show Below w.heap.size w wr by rw [HN0.out]; exact HB.out)
      have nb : ¬ (n0 ≤ b) := by have := HN0.out; omega
      have hkind := hok.kind
      have hdr := hok.rule
      have jn : (j : Int) < (n : Int) := by omega
      have j0 : (0 : Int) ≤ (j : Int) := by omega
      obtain ⟨e0, e1, e2, e3, e4, e5, e6⟩ : wr.cell? ⟨b, off + j * 7, none⟩ = some (.int .u8 d.kind) ∧ wr.cell? ⟨b, off + j * 7 + 1, none⟩ = some (.int .u32 d.wait) ∧ wr.cell? ⟨b, off + j * 7 + 2, none⟩ = some (.int .u8 d.big) ∧ wr.cell? ⟨b, off + j * 7 + 3, none⟩ = some (.slice ka kn kc) ∧ wr.cell? ⟨b, off + j * 7 + 4, none⟩ = some (.int .u8 d.rule) ∧ wr.cell? ⟨b, off + j * 7 + 5, none⟩ = some (.int .u16 d.n) ∧ wr.cell? ⟨b, off + j * 7 + 6, none⟩ = some (.int .u8 d.dest) := ⟨hd.c0, hd.c1, hd.c2, hd.c3, hd.c4, hd.c5, hd.c6⟩
      have CNm := Lib.hid (fun V (g : Below wr.heap.size wr V) => name_any d ka kn kc V hkind (hd.txt.below g) hd.few)
      have CR := Lib.hid (fun V => rule_any d.rule V (by omega))
      have hnk := nameT_ok d
      have CC := Lib.hid (fun V (g : Below wr.heap.size wr V) => (charge_tab T _ 4 0 S (nameT d) (ruleK d.rule) 1 V (hP.out.below g) (by omega) (ruleK_okr d.rule (by omega)) (by unfold U; decide)).mono (R' := fun e w' => e = .returned (chA 4 0 S (nameT d) (ruleK d.rule) 1).v ∧ Hid (Tbl w' T (fun k => n0 ≤ k) 4 0 (chN 4 0 S (nameT d) (ruleK d.rule) 1)) ∧ Tch (fun k => n0 ≤ k) V w') (by
        rintro e w' ⟨rfl, g1, h1⟩
        exact ⟨rfl, Lib.hid (h1.mono (fun k hk => hk.elim id (fun x => Nat.le_trans (Nat.le_trans hZ.out g.size) x))), g1⟩))
      have HX2 := Lib.hid (Nox.charge (m := 4) (c := 0) (n := 1) (d := d) (r := ruleK d.rule) HX.out)
      clear hdd hd0 hok hd hnk HX
      generalize nameT d = nm at *
      generalize ruleK d.rule = r at *
      dsimp only [An.v, An.cs] at CC
      have kr := Below.refl wr.heap.size wr
      go_wp2_with fail
      go_region_held3 (fun w' => w'.cell? ⟨b, off + j * 7, none⟩ = some (.int .u8 d.kind) ∧ w'.cell? ⟨b, off + j * 7 + 1, none⟩ = some (.int .u32 d.wait) ∧ w'.cell? ⟨b, off + j * 7 + 2, none⟩ = some (.int .u8 d.big) ∧ w'.cell? ⟨b, off + j * 7 + 3, none⟩ = some (.slice ka kn kc) ∧ w'.cell? ⟨b, off + j * 7 + 4, none⟩ = some (.int .u8 d.rule) ∧ w'.cell? ⟨b, off + j * 7 + 5, none⟩ = some (.int .u16 d.n) ∧ w'.cell? ⟨b, off + j * 7 + 6, none⟩ = some (.int .u8 d.dest))
        (first | with_reducible exact ⟨e0, e1, e2, e3, e4, e5, e6⟩ | with_reducible exact ⟨dcell e0, dcell e1, dcell e2, dcell e3, dcell e4, dcell e5, dcell e6⟩)
        (first
          | (go_at_call 14; ((with_reducible refine (CNm.out _ (by first | exact kr | exact kr.drew)).mono ?_); rintro r W5 ⟨rfl, g⟩; (first | with_reducible (replace e0 := celln g e0; replace e1 := celln g e1; replace e2 := celln g e2; replace e3 := celln g e3; replace e4 := celln g e4; replace e5 := celln g e5; replace e6 := celln g e6; replace kr := kbq kr g) | with_reducible (replace e0 := celln g (dcell e0); replace e1 := celln g (dcell e1); replace e2 := celln g (dcell e2); replace e3 := celln g (dcell e3); replace e4 := celln g (dcell e4); replace e5 := celln g (dcell e5); replace e6 := celln g (dcell e6); replace kr := kbq kr.drew g))))
          | (go_at_call 15; ((with_reducible refine (CR.out _).mono ?_); rintro r W6 ⟨rfl, g⟩; (first | with_reducible (replace e0 := celln g e0; replace e1 := celln g e1; replace e2 := celln g e2; replace e3 := celln g e3; replace e4 := celln g e4; replace e5 := celln g e5; replace e6 := celln g e6; replace kr := kbq kr g) | with_reducible (replace e0 := celln g (dcell e0); replace e1 := celln g (dcell e1); replace e2 := celln g (dcell e2); replace e3 := celln g (dcell e3); replace e4 := celln g (dcell e4); replace e5 := celln g (dcell e5); replace e6 := celln g (dcell e6); replace kr := kbq kr.drew g))))
          | (go_at_call 18; ((with_reducible refine (CC.out _ (by first | exact kr | exact kr.drew)).mono ?_); rintro r W7 ⟨rfl, hP7, g⟩; (first | with_reducible (replace e0 := cellT g e0 nb; replace e1 := cellT g e1 nb; replace e2 := cellT g e2 nb; replace e3 := cellT g e3 nb; replace e4 := cellT g e4 nb; replace e5 := cellT g e5 nb; replace e6 := cellT g e6 nb; have HB7 := Lib.hid (tail7 HB.out hZ.out kr g)) | with_reducible (replace e0 := cellT g (dcell e0) nb; replace e1 := cellT g (dcell e1) nb; replace e2 := cellT g (dcell e2) nb; replace e3 := cellT g (dcell e3) nb; replace e4 := cellT g (dcell e4) nb; replace e5 := cellT g (dcell e5) nb; replace e6 := cellT g (dcell e6) nb; have HB7 := Lib.hid (tail7 HB.out hZ.out kr.drew g))))))
      rename_i hH
      clear hH e0 e1 e2 e3 e4 e5 e6 CNm CR CC kr g
      go_wp2
      go_roundw
      case rel => exact ⟨j + 1, _, by go_num, by omega, hP7, HX2, HB7⟩
      case measure => simp [intOf]; omega
    · have hsS : S.length ≤ 12 := by have := hP.out.wf.len; omega
      have CS := Lib.hid (fun V (g : Below wr.heap.size wr V) => slots_any T _ 4 0 S V (hP.out.below g) (sort_few S.length hsS))
      have HU := Lib.hid (fun s (hs : s ∈ S) => (hP.out.wf.ok s hs).oks.a)
      clear HD
      go_wp2_with (go_at_call 16; refine (CS.out _ (Below.refl _ _)).mono ?_; rintro e W5 ⟨v5, xs, rfl, ho5, ht5, g5⟩; refine stopHere ?_)
      unfold Stop
      go_wp2_with (go_at_call 16; refine (CS.out _ g5).mono ?_; rintro e W6 ⟨v6, ys, rfl, ho6, ht6, g6⟩; refine stopHere ?_)
      unfold Stop
      obtain ⟨A5, cap5, e5, _⟩ := id ho5.form
      subst e5
      obtain ⟨A6, cap6, e6, _, _, hf6⟩ := id ho6.form
      subst e6
      have hR6 : Hid (0 < xs.length → ∃ g, A5 = some ⟨g, 0, none⟩ ∧ wr.heap.size ≤ g ∧ g < W5.heap.size ∧ Rw W6 g xs.length) := Lib.hid (fun hp => by
        obtain ⟨g, r1, r2, r3, r4⟩ := OwS.rw ho5 (fun y hy => HU.out y ((ht5.mem y).1 hy)) hp
        exact ⟨g, r1, r2, r3, r4.below g6⟩)
      have hT6 := Lib.hid ((hP.out.low.below g5).below g6)
      have hB6 := Lib.hid (HB.out.trans ((kbq g5 g6).mono hZ.out))
      obtain ⟨b6, y0, hY⟩ : ∃ (b6 : Nat) (y0 : ByteArray), 0 < ys.length → A6 = some ⟨b6, 0, none⟩ ∧ W5.heap.size ≤ b6 ∧ b6 < W6.heap.size ∧ W6.cell? ⟨b6, 0, none⟩ = some (.string y0) ∧ y0 ≠ ⟨#[120]⟩ := by
        by_cases hp : 0 < ys.length
        · obtain ⟨b, q1, q2, q3, q4⟩ := hf6 hp
          have := (q4 0 hp).eight.1
          rw [Nat.zero_mul] at this
          refine ⟨b, (atS ys 0).key, fun _ => ⟨q1, q2, q3, this, HX.out _ ((ht6.mem _).1 ?_)⟩⟩
          simp [atS, List.getD, hp]
        · exact ⟨0, ⟨#[]⟩, fun h => absurd h hp⟩
      have HY := Lib.hid hY
      have hs56 := g6.size
      have hs5 := g5.size
      have hxl : xs.length ≤ 12 := by rw [ht5.len]; exact hsS
      have hyl : ys.length ≤ 12 := by rw [ht6.len]; exact hsS
      clear hY ho5 ho6 ht5 ht6 hf6 g5 g6 CS hP HB HU HX
      generalize wr.heap.size = N at *
      go_wp2_with fail
      go_loopw [16] (fun i wr2 => ∃ q : Nat, i = .int .i64 (q : Int) ∧ q ≤ xs.length ∧ Hid (Tch (fun k => N ≤ k ∧ k < W5.heap.size) W6 wr2) ∧ Hid (0 < xs.length → ∃ g, A5 = some ⟨g, 0, none⟩ ∧ N ≤ g ∧ g < W5.heap.size ∧ Rw wr2 g xs.length)) (fun i _ => xs.length - (intOf i).toNat)
      case atStart => exact ⟨0, rfl, Nat.zero_le _, Lib.hid (Tch.refl _ _), hR6⟩
      case round =>
        clear hR6
        obtain ⟨q, rfl, hqx, hTc, hR⟩ := hrel
        by_cases hq : q < xs.length
        · obtain ⟨g, rfl, hg1, hg2, hrw⟩ := hR.out (by omega)
          obtain ⟨s, a, ha, c0, c6, f0, f6⟩ := hrw.cells hq
          obtain ⟨a', hw, hU'⟩ : ∃ a', IntKind.u64.wrap (a + 1) = a' ∧ U a' := ⟨_, rfl, by rw [IntKind.wrap_u64]; unfold U; omega⟩
          have HR2 := Lib.hid (hrw.put hq ⟨#[120]⟩ a' hU')
          have q1 : (q : Int) < (xs.length : Int) := by omega
          have q0 : (0 : Int) ≤ (q : Int) := by omega
          clear hrw hR
          go_wp2
          go_roundw
          case rel => exact ⟨q + 1, by go_num, by omega, Lib.hid (hTc.out.trans (Tch.trans (Tch.set _ _ _ _ ⟨hg1, hg2⟩) (Tch.set _ _ _ _ ⟨hg1, hg2⟩))), Lib.hid (fun _ => ⟨g, rfl, hg1, hg2, HR2.out⟩)⟩
          case measure => simp [intOf]; omega
        · have q1 : decide ((q : Int) < (xs.length : Int)) = false := decide_eq_false (by omega)
          have hT7 := Lib.hid (show Tbl wr T (fun k => n0 ≤ k ∧ k < N) 4 0 S from hT6.out.keep (fun k hk hl => hTc.out.block k hl (fun h => by omega)))
          have hB7 := Lib.hid (hB6.out.trans (hTc.out.lo (n := n0) (fun k hk => by have := hZ.out; omega) (by have := hZ.out; omega)))
          have hs67 := hTc.out.size
          have HY7 := Lib.hid (show 0 < ys.length → A6 = some ⟨b6, 0, none⟩ ∧ W5.heap.size ≤ b6 ∧ b6 < W6.heap.size ∧ wr.cell? ⟨b6, 0, none⟩ = some (.string y0) ∧ y0 ≠ ⟨#[120]⟩ from fun hp => by
            obtain ⟨z1, z2, z3, z4, z5⟩ := HY.out hp
            exact ⟨z1, z2, z3, cellT hTc.out z4 (fun h => by omega), z5⟩)
          obtain ⟨a1, ha1⟩ : ∃ a1, x / 4 = a1 := ⟨_, rfl⟩
          have hUa : U a1 := by unfold U at *; omega
          have hx4 : (0 : Int) ≤ x ∧ x ≤ 18446744073709551615 := hx
          have CT1 := Lib.hid (tick_any T _ 4 0 a1 S wr hT7.out hUa)
          rw [show max 0 a1 = a1 by unfold U at hUa; omega] at CT1
          clear hT6 hTc hR HY hB6
          go_wp2_with (go_at_call 20; (with_reducible refine CT1.out.mono ?_); rintro e W8 ⟨rfl, g8, hT8⟩; refine stopHere ?_)
          unfold Stop
          have hs78 := g8.size
          have hB8 := Lib.hid (hB7.out.trans (g8.lo (n := n0) (fun k hk => hk.1) (by have := hZ.out; omega)))
          have HY8 := Lib.hid (show 0 < ys.length → A6 = some ⟨b6, 0, none⟩ ∧ W5.heap.size ≤ b6 ∧ b6 < W6.heap.size ∧ W8.cell? ⟨b6, 0, none⟩ = some (.string y0) ∧ y0 ≠ ⟨#[120]⟩ from fun hp => by
            obtain ⟨z1, z2, z3, z4, z5⟩ := HY7.out hp
            exact ⟨z1, z2, z3, cellT g8 z4 (fun h => by omega), z5⟩)
          obtain ⟨bm, hbm⟩ : ∃ bm, max a1 5 = bm := ⟨_, rfl⟩
          have hm : (if a1 < 5 then (5 : Int) else a1) = bm := by rw [← hbm]; split <;> omega
          have CT2 := Lib.hid (tick_any T _ 4 a1 5 _ W8 hT8 (by unfold U; decide))
          rw [hbm] at CT2
          clear CT1 hB7 HY7 g8 hT8 hT7 hbm
          go_wp2_with (go_at_call 20; (with_reducible refine CT2.out.mono ?_); rintro e W9 ⟨rfl, g9, hT9⟩; refine stopHere ?_)
          unfold Stop
          have hB9 := Lib.hid (hB8.out.trans (g9.lo (n := n0) (fun k hk => by have := hZ.out; rcases hk with hk | hk; exact hk.1; omega) (by have := hZ.out; omega)))
          have HY9 := Lib.hid (show 0 < ys.length → A6 = some ⟨b6, 0, none⟩ ∧ W5.heap.size ≤ b6 ∧ b6 < W6.heap.size ∧ W9.cell? ⟨b6, 0, none⟩ = some (.string y0) ∧ y0 ≠ ⟨#[120]⟩ from fun hp => by
            obtain ⟨z1, z2, z3, z4, z5⟩ := HY8.out hp
            exact ⟨z1, z2, z3, cellT g9 z4 (fun h => by rcases h with h | h; have := h.2; omega; have : wr.heap.size ≤ b6 := h; omega), z5⟩)
          have HKP := Lib.hid (fun hp => (HY9.out hp).1)
          have HKC := Lib.hid (fun hp => (HY9.out hp).2.2.2)
          clear CT2 hB8 HY8 g9 hT9 HY9
          go_wp2_with (first
            | (go_at_call 9; (with_reducible refine (K0.out _).mono ?_); rintro e V1 ⟨rfl, g⟩; have hB1 := Lib.hid (keep_lo hB9.out HN0.out g); have HK1 := Lib.hid (fun hp => keep_cell (HKC.out hp) g); clear g hB9 HKC)
            | (go_at_call 17; (with_reducible refine (sh4 _).mono ?_); rintro e V2 ⟨rfl, g⟩; have hB2 := Lib.hid (keep_lo hB1.out HN0.out g); have HK2 := Lib.hid (fun hp => keep_cell (HK1.out hp) g); clear g hB1 HK1)
            | (go_at_call 21; (with_reducible refine (clock_nil _).mono ?_); rintro e V3 ⟨rfl, g⟩; have hB3 := Lib.hid (keep_lo hB2.out HN0.out g); have HK3 := Lib.hid (fun hp => keep_cell (HK2.out hp) g); clear g hB2 HK2)
            | (go_at_call 20; (with_reducible refine (tick_none _ _).mono ?_); rintro e _ ⟨rfl, rfl⟩)
            | (go_at_call 16; (with_reducible refine (slots_nil _).mono ?_); rintro e V4 ⟨sA, sC, rfl, g⟩; have hB4 := Lib.hid (keep_lo hB3.out HN0.out g); have HK4 := Lib.hid (fun hp => keep_cell (HK3.out hp) g); clear g hB3 HK3)
            | (go_at_call 27; (with_reducible refine (entries_nil _).mono ?_); rintro e V5 ⟨eA, eC, rfl, g⟩; have hB5 := Lib.hid (keep_lo hB4.out HN0.out g); have HK5 := Lib.hid (fun hp => keep_cell (HK4.out hp) g); clear g hB4 HK4)
            | (go_at_call 22; (with_reducible refine (move_nil k hk _).mono ?_); rintro e V6 ⟨rfl, g⟩; have hB6 := Lib.hid (keep_lo hB5.out HN0.out g); have HK6 := Lib.hid (fun hp => keep_cell (HK5.out hp) g); clear g hB5 HK5)
            | (go_at_call 22; (with_reducible refine (move_nine T k _).mono ?_); rintro e V7 ⟨rfl, g⟩; have hB7 := Lib.hid (keep_lo hB6.out HN0.out g); have HK7 := Lib.hid (fun hp => keep_cell (HK6.out hp) g); clear g hB6 HK6; refine stopHere ?_))
          unfold Stop
          by_cases hp : 0 < ys.length
          · have eA := HKP.out hp
            subst eA
            obtain ⟨kc, kx⟩ := HK7.out hp
            have hy0 : (((ys.length : Nat) : Int) == 0) = false := by rw [beq_eq_false_iff_ne]; omega
            have hne : (y0.toList == (⟨#[120]⟩ : ByteArray).toList) = false := by rw [text_same]; exact decide_eq_false kx
            have hne2 : (y0.toList == ([120] : List UInt8)) = false := by have h9 := hne; rw [ByteArray.toList_eq ⟨#[120]⟩] at h9; exact h9
            have hyp : (0 : Int) < (ys.length : Int) := by omega
            clear HKP HK7
            go_wp2
            go_ret
            exact ⟨rfl, by rw [HN0.out]; exact hB7.out⟩
          · have hy0 : ys.length = 0 := by omega
            rw [hy0]
            clear HKP HK7
            go_wp2
            go_ret
            exact ⟨rfl, by rw [HN0.out]; exact hB7.out⟩
end Go.Proofs.YtkfncanfgpmgaaaGreat.Wd
