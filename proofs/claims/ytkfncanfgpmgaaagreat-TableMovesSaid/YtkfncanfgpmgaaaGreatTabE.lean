/- A table in memory: what is decided of a key for which there is a place; no conditions but those that each names. -/
import Derived.Test.YtkfncanfgpmgaaaGreatTabF
namespace Go.Proofs.YtkfncanfgpmgaaaGreat.Wd
open Go Go.RowKit Go.Shelf Go.Deep
set_option linter.unusedVariables false
set_option maxRecDepth 100000

/-- An answer, as data. -/
structure An where
  code : Int
  err : Int
  lim : Int
  left : Int
  reset : Int
  after : Int
  nanos : Int
  retry : Bool
abbrev An.cs (a : An) : Array Value := #[.int .u8 a.code, .int .u16 a.err, .int .u64 a.lim, .int .u64 a.left, .int .u64 a.reset, .int .u64 a.after, .int .u64 a.nanos, .bool a.retry, .int .i64 0, .slice none 0 0]
abbrev An.v (a : An) : Value := .agg a.cs
abbrev flT (c : Int) (r : Rl) (s : St) : Int := kfI s.k s.a s.b c (capR r)
/-- In seconds, rounded up. -/
abbrev secI (x : Int) : Int := clI x 1000000000
/-- What is told. -/
def decA (c : Int) (r : Rl) (s : St) (n : Int) : An :=
  ⟨if stIn c r s n = true then 1 else 2, 0, r.b, dvI (sbI (capR r) (flT c r (stNx c r s n))) r.e, secI (flT c r (stNx c r s n)), secI (kwI (flT c r s) (capR r) (wI r n)), kwI (flT c r s) (capR r) (wI r n), kwB (flT c r s) (capR r) (wI r n)⟩
theorem kwI_U (f cap v : Int) (hf : U f) (hc : U cap) (hv : U v) : U (kwI f cap v) := by
  unfold kwI
  split
  · rename_i h
    unfold kwB at h
    simp only [decide_eq_true_eq] at h
    unfold U at *; omega
  · exact U_zero
theorem secs_any (a : Int) (w : World) (ha : U a) :
    Calls Tryz.prog 77 #[.int .u64 a] w fun e w' => e = .returned (.int .u64 (secI a)) ∧ Below w.heap.size w w' := by
  have C := Lib.hid (fun W => num_ceil a 1000000000 W ha (by unfold U; omega))
  go_enter Tryz.func77, Tryz.ntmps77
  go_wp2_with (go_at_call 114; refine (C.out _).mono ?_; rintro e w1 ⟨rfl, g⟩)
  go_ret
  obtain ⟨n, rfl⟩ := g
  exact ⟨rfl, (Drew.kept ⟨n, rfl⟩).2⟩

/-- A slot of a key, a rule and a state. -/
abbrev slOf (k : ByteArray) (r : Rl) (s : St) : Sl := ⟨k, r, s.k, s.a, s.b⟩
def decS (c : Int) (S : List Sl) (k : ByteArray) (r : Rl) (s : St) (n : Int) : List Sl := if stIn c r s n = true then putS c (slOf k r (stNx c r s n)) S else S

set_option maxHeartbeats 2000000 in
theorem decide_tab (T : Nat) (B : Nat → Prop) (m c : Int) (S : List Sl) (k : ByteArray) (r : Rl) (n : Int) (s : St) (w : World) (h : Tbl w T B m c S) (hk : k.size ≤ 281474976710656) (hr : Okr r) (hn : U n) (h0 : wkE k r = 0) (es : stOf c r (getS S k) = s) (hl : getS S k = none → (S.length : Int) < m) :
    Calls Tryz.prog 43 #[ptr T, .string k, r.v, .int .u64 n] w fun e w' => e = .returned (decA c r s n).v ∧ Tch B w w' ∧ Tbl w' T (Nx B w) m c (decS c S k r s n) := by
  obtain ⟨hkr, hru⟩ : rtB (lb k) = true ∧ ruE r.p r.e r.b r.k = 0 := by
    unfold wkE at h0
    cases e : rtB (lb k) with
    | true => rw [e, if_pos rfl] at h0; exact ⟨rfl, h0⟩
    | false => rw [e, if_neg (by decide)] at h0; cases h0
  have so : OkSt s := by rw [← es]; exact stOf_ok h.wf hr hru
  have sa := so.a
  have sb := so.b
  have nx := (so.next h.wf.cu hr hn).1
  have nx := Lib.hid nx
  have HW := Lib.hid h.wf
  have nl : Hid (((offS k S).length : Int) < m) := Lib.hid (by
    cases e : getS S k with
    | none => have := offS_le k S; have := hl e; omega
    | some t => have := offS_lt (getS_some e).1 (getS_some e).2; have := h.wf.len; omega)
  obtain ⟨c0, c1, cf, ct⟩ := h.cells
  have hcu := h.wf.cu
  have hcap := capR_U hr
  have hwU : U (wI r n) := sat_U _ (Int.mul_nonneg hn.1 hr.e.1)
  have CC := Lib.hid (fun W => cap_any r.p r.e r.b r.k W (by have := hr.p; omega) hr.e hr.b)
  have CM := Lib.hid (fun W => num_mul n r.e W hn hr.e)
  have CS := Lib.hid (fun W (g : Tbl W T (fun k => B k ∧ k < w.heap.size) m c S) => state_any T _ m c S k r W g (by omega) hr)
  rw [es] at CS
  have CW := Lib.hid (fun W => kwait_any s.k s.a s.b c (capR r) (wI r n) W sa sb hcu hcap hwU)
  have CD := Lib.hid (fun W => kdecide_any s.k s.a s.b c (capR r) (wI r n) W sa sb hcu hcap hwU)
  have b0 := Lib.hid (((Blk.new w #[.string r.p, .int .u64 r.e, .int .u64 r.b, .int .u8 r.k] 42).alloc (.cells #[.int .u8 0, .int .u16 0, .int .u64 0, .int .u64 0, .int .u64 0, .int .u64 0, .int .u64 0, .bool false, .int .i64 0, .slice none 0 0] 52)))
  have a0 := Lib.hid (Blk.new (w.alloc (.cells #[.string r.p, .int .u64 r.e, .int .u64 r.b, .int .u8 r.k] 42)) #[.int .u8 0, .int .u16 0, .int .u64 0, .int .u64 0, .int .u64 0, .int .u64 0, .int .u64 0, .bool false, .int .i64 0, .slice none 0 0] 52)
  have k0 := Lib.hid (((Below.refl _ w).alloc (Nat.le_refl _) (.cells #[.string r.p, .int .u64 r.e, .int .u64 r.b, .int .u8 r.k] 42)).alloc (by simp) (.cells #[.int .u8 0, .int .u16 0, .int .u64 0, .int .u64 0, .int .u64 0, .int .u64 0, .int .u64 0, .bool false, .int .i64 0, .slice none 0 0] 52))
  have s0 : ((w.alloc (.cells #[.string r.p, .int .u64 r.e, .int .u64 r.b, .int .u8 r.k] 42)).alloc (.cells #[.int .u8 0, .int .u16 0, .int .u64 0, .int .u64 0, .int .u64 0, .int .u64 0, .int .u64 0, .bool false, .int .i64 0, .slice none 0 0] 52)).heap.size = w.heap.size + 2 := by simp
  rw [show (w.alloc (.cells #[.string r.p, .int .u64 r.e, .int .u64 r.b, .int .u8 r.k] 42)).heap.size = w.heap.size + 1 by simp] at a0
  have HL := Lib.hid h.low
  have H0 := Lib.hid (HL.out.below k0.out)
  clear h
  go_enter Tryz.func43, Tryz.ntmps43
  go_wp2_with fail
  generalize ((w.alloc (.cells #[.string r.p, .int .u64 r.e, .int .u64 r.b, .int .u8 r.k] 42)).alloc (.cells #[.int .u8 0, .int .u16 0, .int .u64 0, .int .u64 0, .int .u64 0, .int .u64 0, .int .u64 0, .bool false, .int .i64 0, .slice none 0 0] 52)) = W at *
  obtain ⟨x0, x1, x2, x3⟩ := (show W.cell? ⟨w.heap.size, 0, none⟩ = some (.string r.p) ∧ W.cell? ⟨w.heap.size, 1, none⟩ = some (.int .u64 r.e) ∧ W.cell? ⟨w.heap.size, 2, none⟩ = some (.int .u64 r.b) ∧ W.cell? ⟨w.heap.size, 3, none⟩ = some (.int .u8 r.k) from ⟨b0.out.cell 0, b0.out.cell 1, b0.out.cell 2, b0.out.cell 3⟩)
  have tl : T < W.heap.size := by omega
  have rl : w.heap.size < W.heap.size := by omega
  have hs0 := Lib.hid s0
  clear s0
  have kr := Tch.refl (fun _ => False) W
  go_region_held3 (fun w' => Tch (fun _ => False) W w' ∧ w'.cell? ⟨w.heap.size, 0, none⟩ = some (.string r.p) ∧ w'.cell? ⟨w.heap.size, 1, none⟩ = some (.int .u64 r.e) ∧ w'.cell? ⟨w.heap.size, 2, none⟩ = some (.int .u64 r.b) ∧ w'.cell? ⟨w.heap.size, 3, none⟩ = some (.int .u8 r.k))
    (first | with_reducible exact ⟨kr, x0, x1, x2, x3⟩ | with_reducible exact ⟨(td kr), dcell x0, dcell x1, dcell x2, dcell x3⟩)
    (first
      | (go_at_call 51; ((with_reducible refine (CC.out _).mono ?_); rintro r w' ⟨rfl, _, g⟩; (first | with_reducible (replace kr := tb kr g; replace x0 := celln g x0; replace x1 := celln g x1; replace x2 := celln g x2; replace x3 := celln g x3) | with_reducible (replace kr := tb (td kr) g; replace x0 := celln g (dcell x0); replace x1 := celln g (dcell x1); replace x2 := celln g (dcell x2); replace x3 := celln g (dcell x3)))))
      | (go_at_call 72; ((with_reducible refine (CM.out _).mono ?_); rintro r W1 ⟨rfl, _, g⟩; (first | with_reducible (replace kr := tb kr g; replace x0 := celln g x0; replace x1 := celln g x1; replace x2 := celln g x2; replace x3 := celln g x3) | with_reducible (replace kr := tb (td kr) g; replace x0 := celln g (dcell x0); replace x1 := celln g (dcell x1); replace x2 := celln g (dcell x2); replace x3 := celln g (dcell x3))))))
  rename_i hH
  clear hH
  have k1 := Lib.hid (Tch.belowF k0.out kr)
  have H1 := Lib.hid (H0.out.keep (w' := W1) (fun k _ hl => kr.block k hl (fun x => x)))
  have b1 := Lib.hid (kr.blk b0.out (fun x => x))
  have a1 := Lib.hid (kr.blk a0.out (fun x => x))
  clear CC CM b0 a0 k0 H0
  go_wp2_with (go_at_call 73; refine (CS.out _ H1.out).mono ?_; rintro e W2 ⟨rfl, g⟩; refine stopHere ?_)
  unfold Stop
  have H2 := Lib.hid (H1.out.below g)
  have hz2 := Lib.hid (show w.heap.size + 2 ≤ W2.heap.size by have := hs0.out; have := kr.size; have := g.size; omega)
  have k2 := Lib.hid (kbq k1.out g)
  have b2 := Lib.hid (b1.out.below g)
  have a2 := Lib.hid (a1.out.below g)
  clear kr g H1 k1 b1 a1 CS x0 x1 x2 x3
  go_wp2_with fail
  have s3 := Lib.hid (Blk.new W2 #[.int .u8 s.k, .int .u64 s.a, .int .u64 s.b] 46)
  have k3 := Lib.hid (k2.out.alloc k2.out.size (.cells #[.int .u8 s.k, .int .u64 s.a, .int .u64 s.b] 46))
  have H3 := Lib.hid (H2.out.below ((Below.refl _ W2).alloc (Nat.le_refl _) (.cells #[.int .u8 s.k, .int .u64 s.a, .int .u64 s.b] 46)))
  have b3 := Lib.hid (b2.out.alloc (.cells #[.int .u8 s.k, .int .u64 s.a, .int .u64 s.b] 46))
  have a3 := Lib.hid (a2.out.alloc (.cells #[.int .u8 s.k, .int .u64 s.a, .int .u64 s.b] 46))
  generalize W2.alloc (.cells #[.int .u8 s.k, .int .u64 s.a, .int .u64 s.b] 46) = W3 at *
  obtain ⟨u0, u1, u2, _⟩ := blk3 s3.out
  have c1 := H3.out.cells.2.1
  have tl := H3.out.cells.2.2.2
  have zl := s3.out.lt
  clear H2 k2 b2 a2
  have kr := Tch.refl (fun _ => False) W3
  go_region_held3 (fun w' => Tch (fun _ => False) W3 w' ∧ w'.cell? ⟨T, 1, none⟩ = some (.int .u64 c) ∧ w'.cell? ⟨W2.heap.size, 0, none⟩ = some (.int .u8 s.k) ∧ w'.cell? ⟨W2.heap.size, 1, none⟩ = some (.int .u64 s.a) ∧ w'.cell? ⟨W2.heap.size, 2, none⟩ = some (.int .u64 s.b))
    (first | with_reducible exact ⟨kr, c1, u0, u1, u2⟩ | with_reducible exact ⟨(td kr), dcell c1, dcell u0, dcell u1, dcell u2⟩)
    (first
      | (go_at_call 74; ((with_reducible refine (CW.out _).mono ?_); rintro r W4 ⟨rfl, _, g⟩; (first | with_reducible (replace kr := tb kr g; replace c1 := celln g c1; replace u0 := celln g u0; replace u1 := celln g u1; replace u2 := celln g u2) | with_reducible (replace kr := tb (td kr) g; replace c1 := celln g (dcell c1); replace u0 := celln g (dcell u0); replace u1 := celln g (dcell u1); replace u2 := celln g (dcell u2))))))
  rename_i hH
  clear hH
  have k4 := Lib.hid (Tch.belowF k3.out kr)
  have H4 := Lib.hid (H3.out.keep (w' := W4) (fun k _ hl => kr.block k hl (fun x => x)))
  have b4 := Lib.hid (kr.blk b3.out (fun x => x))
  have a4 := Lib.hid (kr.blk a3.out (fun x => x))
  have zb := kr.blk s3.out (fun x => x)
  obtain ⟨z0, z1, z2, zf0, zf1, zf2⟩ := blk3 zb
  have ZB := Lib.hid zb
  have tl := H4.out.cells.2.2.2
  have zl := zb.lt
  clear kr k3 H3 b3 a3 CW u0 u1 u2 s3
  have kr := Tch.refl (fun k => k = W2.heap.size) W4
  go_wp2_with fail
  go_cut [14] from 37 to 48 (fun v wx => (∃ t, v = .bool t ∧ Hid (stIn c r s n = t)) ∧ Blk wx W2.heap.size #[.int .u8 (stNx c r s n).k, .int .u64 (stNx c r s n).a, .int .u64 (stNx c r s n).b] 46 ∧ Tch (fun k => k = W2.heap.size) W4 wx)
  case first =>
    go_region_with (first
        | (go_at_call 75; ((with_reducible refine (CD.out _).mono ?_); rintro r W5 ⟨rfl, _, g⟩; (first | with_reducible (replace kr := tb kr g; replace c1 := celln g c1; try (replace zb := zb.below g; (try clear z0 z1 z2 zf0 zf1 zf2); obtain ⟨z0, z1, z2, zf0, zf1, zf2⟩ := blk3 zb)) | with_reducible (replace kr := tb (td kr) g; replace c1 := celln g (dcell c1); try (replace zb := (zb.dr).below g; (try clear z0 z1 z2 zf0 zf1 zf2); obtain ⟨z0, z1, z2, zf0, zf1, zf2⟩ := blk3 zb))))))
    all_goals
      have hB := bset3 (p0 := .int .u8 (stNx c r s n).k) (p1 := .int .u64 (stNx c r s n).a) (p2 := .int .u64 (stNx c r s n).b) zb
      have hk9 := ts3 (p0 := .int .u8 (stNx c r s n).k) (p1 := .int .u64 (stNx c r s n).a) (p2 := .int .u64 (stNx c r s n).b) kr (.inl rfl)
      have e1 : kdK s.k s.a s.b c (capR r) (wI r n) = (stNx c r s n).k := rfl
      have e2 : kdA s.k s.a s.b c (capR r) (wI r n) = (stNx c r s n).a := rfl
      have e3 : kdT s.k s.a s.b c (capR r) (wI r n) = (stNx c r s n).b := rfl
      rw [e1, e2, e3]
      clear e1 e2 e3
      generalize ((World.setCell _ _ (.int .u8 (stNx c r s n).k)).setCell _ (.int .u64 (stNx c r s n).a)).setCell _ (.int .u64 (stNx c r s n).b) = W9 at *
      go_wp2
      go_meet
      case rel => exact ⟨⟨_, rfl, Lib.hid rfl⟩, hB, hk9⟩
  case rest =>
  obtain ⟨⟨t, rfl, ht⟩, zb5, hk5⟩ := hcut
  have H5 := Lib.hid (H4.out.keep (w' := wc) (fun k hk hl => hk5.block k hl (fun e => by have := hk.2; have := hz2.out; omega)))
  have b5 := Lib.hid (hk5.blk b4.out (fun e => by have := hz2.out; omega))
  have a5 := Lib.hid (hk5.blk a4.out (fun e => by have := hz2.out; omega))
  have s5 := Lib.hid zb5
  have k5 := Lib.hid (show Tch (fun k => B k ∧ k < w.heap.size) w wc from (Tch.of k4.out).next (hk5.mono (fun k _ e => .inr (by have := hz2.out; omega))))
  clear H4 b4 a4 zb5 hk5 k4 CD ZB zb z0 z1 z2 zf0 zf1 zf2 tl zl kr
  have HO : Hid (∀ W, Calls Tryz.prog 40 #[.agg #[.string k, .string r.p, .int .u64 r.e, .int .u64 r.b, .int .u8 r.k, .int .u8 (stNx c r s n).k, .int .u64 (stNx c r s n).a, .int .u64 (stNx c r s n).b]] W fun e w' => e = .returned (.agg #[.string k, .string r.p, .int .u64 r.e, .int .u64 r.b, .int .u8 r.k, .int .u8 (stNx c r s n).k, .int .u64 (stNx c r s n).a, .int .u64 (stNx c r s n).b]) ∧ Below W.heap.size W w') := Lib.hid (fun W => own_any (slOf k r (stNx c r s n)) W hk hr.p)
  have HP : Hid (∀ W, Tbl W T (fun k => B k ∧ k < w.heap.size) m c S → Calls Tryz.prog 61 #[ptr T, .agg #[.string k, .string r.p, .int .u64 r.e, .int .u64 r.b, .int .u8 r.k, .int .u8 (stNx c r s n).k, .int .u64 (stNx c r s n).a, .int .u64 (stNx c r s n).b]] W fun e w' => e = .returned (.tuple #[]) ∧ Tch (fun k => B k ∧ k < w.heap.size) W w' ∧ Tbl w' T (Nx (fun k => B k ∧ k < w.heap.size) W) m c (putS c (slOf k r (stNx c r s n)) S)) := Lib.hid (fun W g => put_tab T _ m c S (slOf k r (stNx c r s n)) W g ⟨hk, hr, by rcases nx.out.k with e | e | e <;> (show 0 ≤ (stNx c r s n).k ∧ (stNx c r s n).k ≤ 255; rw [e]; omega), nx.out.a, nx.out.b⟩ hkr hru nx.out.k nl.out)
  go_upto_if 48 with fail
  go_cut [15] from 49 to 55 (fun v wx => (∃ q, v = .int .u8 q ∧ Hid (q = (decA c r s n).code)) ∧ Hid (Tbl wx T (fun k => (B k ∧ k < w.heap.size) ∨ w.heap.size + 2 ≤ k) m c (decS c S k r s n)) ∧ Hid (Tch (fun k => B k ∧ k < w.heap.size) w wx) ∧ Hid (Blk wx w.heap.size #[.string r.p, .int .u64 r.e, .int .u64 r.b, .int .u8 r.k] 42) ∧ Hid (Blk wx (w.heap.size + 1) #[.int .u8 0, .int .u16 0, .int .u64 0, .int .u64 0, .int .u64 0, .int .u64 0, .int .u64 0, .bool false, .int .i64 0, .slice none 0 0] 52) ∧ Hid (Blk wx W2.heap.size #[.int .u8 (stNx c r s n).k, .int .u64 (stNx c r s n).a, .int .u64 (stNx c r s n).b] 46))
  case first =>
    cases t
    · go_wp2_with fail
      go_meet
      case rel => exact ⟨⟨_, rfl, Lib.hid (by unfold decA; rw [ht.out]; rfl)⟩, Lib.hid (by unfold decS; rw [ht.out]; exact H5.out.mono (fun k hk => .inl hk)), k5, b5, a5, s5⟩
    · obtain ⟨x0, x1, x2, x3, _⟩ := blk4 b5.out
      obtain ⟨u0, u1, u2, _⟩ := blk3 s5.out
      go_wp2_with (go_at_call 40; with_reducible refine (HO.out _).mono ?_; rintro e W6 ⟨rfl, g⟩; have H6 := Lib.hid (H5.out.below g); have b6 := Lib.hid (b5.out.below g); have a6 := Lib.hid (a5.out.below g); have s6 := Lib.hid (s5.out.below g); have k6 := Lib.hid (k5.out.bel (g.mono k5.out.size)); clear g H5 b5 a5 s5 k5 x0 x1 x2 x3 u0 u1 u2; refine stopHere ?_)
      unfold Stop
      go_wp2_with (go_at_call 61; with_reducible refine (HP.out _ H6.out).mono ?_; rintro e W7 ⟨rfl, g, hT7⟩)
      go_meet
      case rel =>
        have hz := hz2.out
        exact ⟨⟨_, rfl, Lib.hid (by unfold decA; rw [ht.out]; rfl)⟩, Lib.hid (by
          unfold decS; rw [ht.out, if_pos rfl]
          exact hT7.mono (fun k hk => by
            rcases hk with hk | hk
            · exact .inl hk
            · exact .inr (by have := s6.out.lt; have : W6.heap.size ≤ k := hk; omega))), Lib.hid (k6.out.trans g), Lib.hid (g.blk b6.out (fun x => by have := x.2; omega)), Lib.hid (g.blk a6.out (fun x => by have := x.2; omega)), Lib.hid (g.blk s6.out (fun x => by have := x.2; omega))⟩
  case rest =>
  obtain ⟨⟨q, rfl, hq⟩, H7, k7, b7, a7, s7⟩ := hcut
  clear HO HP b5 a5 s5 k5 H5

  obtain ⟨x0, x1, x2, x3, _⟩ := blk4 b7.out
  obtain ⟨u0, u1, u2, _⟩ := blk3 s7.out
  have c1 := H7.out.cells.2.1
  have tn : T ≠ w.heap.size + 1 := by omega
  have wn : w.heap.size ≠ w.heap.size + 1 := by omega
  have zn : W2.heap.size ≠ w.heap.size + 1 := by have := hz2.out; omega
  have fU : U (flT c r (stNx c r s n)) := kfI_U _ _ _ _ _ nx.out.a nx.out.b hcu hcap
  have f0 : U (flT c r s) := kfI_U _ _ _ _ _ sa sb hcu hcap
  have CL := Lib.hid (fun W => kleft_any (stNx c r s n).k (stNx c r s n).a (stNx c r s n).b c (capR r) r.e W nx.out.a nx.out.b hcu hcap hr.e)
  have CF := Lib.hid (fun W => kfill_any (stNx c r s n).k (stNx c r s n).a (stNx c r s n).b c (capR r) W nx.out.a nx.out.b hcu hcap)
  have CS1 := Lib.hid (fun W => secs_any (flT c r (stNx c r s n)) W fU)
  have CS2 := Lib.hid (fun W => secs_any (kwI (flT c r s) (capR r) (wI r n)) W (kwI_U _ _ _ f0 hcap hwU))
  have zb := a7.out
  obtain ⟨z0, z1, z2, z3, z4, z5, z6, z7, z8, z9, zf0, zf1, zf2, zf3, zf4, zf5, zf6, zf7, zf8, zf9⟩ := blk10 zb
  have kr := Tch.refl (fun k => k = w.heap.size + 1) wc
  clear hl hkr hru so fU f0 x0 x3
  have HZ2 := hz2
  clear hz2
  go_wp2_with fail
  go_region_held3 (fun w' => Tch (fun k => k = w.heap.size + 1) wc w' ∧ w'.cell? ⟨T, 1, none⟩ = some (.int .u64 c) ∧ w'.cell? ⟨w.heap.size, 1, none⟩ = some (.int .u64 r.e) ∧ w'.cell? ⟨w.heap.size, 2, none⟩ = some (.int .u64 r.b) ∧ w'.cell? ⟨W2.heap.size, 0, none⟩ = some (.int .u8 (stNx c r s n).k) ∧ w'.cell? ⟨W2.heap.size, 1, none⟩ = some (.int .u64 (stNx c r s n).a) ∧ w'.cell? ⟨W2.heap.size, 2, none⟩ = some (.int .u64 (stNx c r s n).b))
    (first | with_reducible exact ⟨kr, c1, x1, x2, u0, u1, u2⟩ | with_reducible exact ⟨(td kr), dcell c1, dcell x1, dcell x2, dcell u0, dcell u1, dcell u2⟩ | with_reducible exact ⟨(ts10 kr (.inl rfl)), sc10 c1 tn, sc10 x1 wn, sc10 x2 wn, sc10 u0 zn, sc10 u1 zn, sc10 u2 zn⟩ | with_reducible exact ⟨(td (ts10 kr (.inl rfl))), dcell (sc10 c1 tn), dcell (sc10 x1 wn), dcell (sc10 x2 wn), dcell (sc10 u0 zn), dcell (sc10 u1 zn), dcell (sc10 u2 zn)⟩)
    (first
      | (go_at_call 76; ((with_reducible refine (CL.out _).mono ?_); rintro r w' ⟨rfl, _, g⟩; (first | with_reducible (replace kr := tb kr g; replace c1 := celln g c1; replace x1 := celln g x1; replace x2 := celln g x2; replace u0 := celln g u0; replace u1 := celln g u1; replace u2 := celln g u2; try (replace zb := zb.below g; (try clear z0 z1 z2 z3 z4 z5 z6 z7 z8 z9 zf0 zf1 zf2 zf3 zf4 zf5 zf6 zf7 zf8 zf9); obtain ⟨z0, z1, z2, z3, z4, z5, z6, z7, z8, z9, zf0, zf1, zf2, zf3, zf4, zf5, zf6, zf7, zf8, zf9⟩ := blk10 zb)) | with_reducible (replace kr := tb (td kr) g; replace c1 := celln g (dcell c1); replace x1 := celln g (dcell x1); replace x2 := celln g (dcell x2); replace u0 := celln g (dcell u0); replace u1 := celln g (dcell u1); replace u2 := celln g (dcell u2); try (replace zb := (zb.dr).below g; (try clear z0 z1 z2 z3 z4 z5 z6 z7 z8 z9 zf0 zf1 zf2 zf3 zf4 zf5 zf6 zf7 zf8 zf9); obtain ⟨z0, z1, z2, z3, z4, z5, z6, z7, z8, z9, zf0, zf1, zf2, zf3, zf4, zf5, zf6, zf7, zf8, zf9⟩ := blk10 zb)))))
      | (go_at_call 78; ((with_reducible refine (CF.out _).mono ?_); rintro r w' ⟨rfl, _, g⟩; (first | with_reducible (replace kr := tb kr g; replace c1 := celln g c1; replace x1 := celln g x1; replace x2 := celln g x2; replace u0 := celln g u0; replace u1 := celln g u1; replace u2 := celln g u2; try (replace zb := zb.below g; (try clear z0 z1 z2 z3 z4 z5 z6 z7 z8 z9 zf0 zf1 zf2 zf3 zf4 zf5 zf6 zf7 zf8 zf9); obtain ⟨z0, z1, z2, z3, z4, z5, z6, z7, z8, z9, zf0, zf1, zf2, zf3, zf4, zf5, zf6, zf7, zf8, zf9⟩ := blk10 zb)) | with_reducible (replace kr := tb (td kr) g; replace c1 := celln g (dcell c1); replace x1 := celln g (dcell x1); replace x2 := celln g (dcell x2); replace u0 := celln g (dcell u0); replace u1 := celln g (dcell u1); replace u2 := celln g (dcell u2); try (replace zb := (zb.dr).below g; (try clear z0 z1 z2 z3 z4 z5 z6 z7 z8 z9 zf0 zf1 zf2 zf3 zf4 zf5 zf6 zf7 zf8 zf9); obtain ⟨z0, z1, z2, z3, z4, z5, z6, z7, z8, z9, zf0, zf1, zf2, zf3, zf4, zf5, zf6, zf7, zf8, zf9⟩ := blk10 zb)))))
      | (go_at_call 77; ((with_reducible refine (CS1.out _).mono ?_); rintro r w' ⟨rfl, g⟩; (first | with_reducible (replace kr := tb kr g; replace c1 := celln g c1; replace x1 := celln g x1; replace x2 := celln g x2; replace u0 := celln g u0; replace u1 := celln g u1; replace u2 := celln g u2; try (replace zb := zb.below g; (try clear z0 z1 z2 z3 z4 z5 z6 z7 z8 z9 zf0 zf1 zf2 zf3 zf4 zf5 zf6 zf7 zf8 zf9); obtain ⟨z0, z1, z2, z3, z4, z5, z6, z7, z8, z9, zf0, zf1, zf2, zf3, zf4, zf5, zf6, zf7, zf8, zf9⟩ := blk10 zb)) | with_reducible (replace kr := tb (td kr) g; replace c1 := celln g (dcell c1); replace x1 := celln g (dcell x1); replace x2 := celln g (dcell x2); replace u0 := celln g (dcell u0); replace u1 := celln g (dcell u1); replace u2 := celln g (dcell u2); try (replace zb := (zb.dr).below g; (try clear z0 z1 z2 z3 z4 z5 z6 z7 z8 z9 zf0 zf1 zf2 zf3 zf4 zf5 zf6 zf7 zf8 zf9); obtain ⟨z0, z1, z2, z3, z4, z5, z6, z7, z8, z9, zf0, zf1, zf2, zf3, zf4, zf5, zf6, zf7, zf8, zf9⟩ := blk10 zb)))))
      | (go_at_call 77; ((with_reducible refine (CS2.out _).mono ?_); rintro r W9 ⟨rfl, g⟩; (first | with_reducible (replace kr := tb kr g; replace c1 := celln g c1; replace x1 := celln g x1; replace x2 := celln g x2; replace u0 := celln g u0; replace u1 := celln g u1; replace u2 := celln g u2; try (replace zb := zb.below g; (try clear z0 z1 z2 z3 z4 z5 z6 z7 z8 z9 zf0 zf1 zf2 zf3 zf4 zf5 zf6 zf7 zf8 zf9); obtain ⟨z0, z1, z2, z3, z4, z5, z6, z7, z8, z9, zf0, zf1, zf2, zf3, zf4, zf5, zf6, zf7, zf8, zf9⟩ := blk10 zb)) | with_reducible (replace kr := tb (td kr) g; replace c1 := celln g (dcell c1); replace x1 := celln g (dcell x1); replace x2 := celln g (dcell x2); replace u0 := celln g (dcell u0); replace u1 := celln g (dcell u1); replace u2 := celln g (dcell u2); try (replace zb := (zb.dr).below g; (try clear z0 z1 z2 z3 z4 z5 z6 z7 z8 z9 zf0 zf1 zf2 zf3 zf4 zf5 zf6 zf7 zf8 zf9); obtain ⟨z0, z1, z2, z3, z4, z5, z6, z7, z8, z9, zf0, zf1, zf2, zf3, zf4, zf5, zf6, zf7, zf8, zf9⟩ := blk10 zb))))))
  all_goals
    rename_i hH
    clear hH
    have hB := bset10 (p0 := .int .u8 q) (p1 := .int .u16 0) (p2 := .int .u64 r.b) (p3 := .int .u64 (dvI (sbI (capR r) (kfI (stNx c r s n).k (stNx c r s n).a (stNx c r s n).b c (capR r))) r.e)) (p4 := .int .u64 (secI (flT c r (stNx c r s n)))) (p5 := .int .u64 (secI (kwI (flT c r s) (capR r) (wI r n)))) (p6 := .int .u64 (kwI (kfI s.k s.a s.b c (capR r)) (capR r) (wI r n))) (p7 := .bool (kwB (kfI s.k s.a s.b c (capR r)) (capR r) (wI r n))) (p8 := .int .i64 0) (p9 := .slice none 0 0) zb
    have hk9 := ts10 (p0 := .int .u8 q) (p1 := .int .u16 0) (p2 := .int .u64 r.b) (p3 := .int .u64 (dvI (sbI (capR r) (kfI (stNx c r s n).k (stNx c r s n).a (stNx c r s n).b c (capR r))) r.e)) (p4 := .int .u64 (secI (flT c r (stNx c r s n)))) (p5 := .int .u64 (secI (kwI (flT c r s) (capR r) (wI r n)))) (p6 := .int .u64 (kwI (kfI s.k s.a s.b c (capR r)) (capR r) (wI r n))) (p7 := .bool (kwB (kfI s.k s.a s.b c (capR r)) (capR r) (wI r n))) (p8 := .int .i64 0) (p9 := .slice none 0 0) kr (.inl rfl)
    have HB := Lib.hid hB
    clear z0 z1 z2 z3 z4 z5 z6 z7 z8 z9 zf0 zf1 zf2 zf3 zf4 zf5 zf6 zf7 zf8 zf9 zb
    go_wp2
    generalize World.setCell _ ⟨w.heap.size + 1, 9, none⟩ _ = V at *
    obtain ⟨q0, q1, q2, q3, q4, q5, q6, q7, q8, q9, _⟩ := blk10 HB.out
    refine bodyPost_ret (v := .agg #[.int .u8 q, .int .u16 0, .int .u64 r.b, .int .u64 (dvI (sbI (capR r) (kfI (stNx c r s n).k (stNx c r s n).a (stNx c r s n).b c (capR r))) r.e), .int .u64 (secI (flT c r (stNx c r s n))), .int .u64 (secI (kwI (flT c r s) (capR r) (wI r n))), .int .u64 (kwI (kfI s.k s.a s.b c (capR r)) (capR r) (wI r n)), .bool (kwB (kfI s.k s.a s.b c (capR r)) (capR r) (wI r n)), .int .i64 0, .slice none 0 0]) ?_ rfl ⟨?_, ?_, ?_⟩
    · simp [results, Tryz.results43, go_sem, q0, q1, q2, q3, q4, q5, q6, q7, q8, q9]
    · rw [hq.out]; rfl
    · exact (k7.out.next (hk9.mono (fun k _ e => .inr (by omega)))).mono (fun k _ hk => hk.1)
    · refine (H7.out.keep (fun k hk hl => hk9.block k hl (fun e => ?_))).mono (fun k hk => hk.elim (fun x => .inl x.1) (fun x => .inr (by omega)))
      rcases hk with hk | hk
      · have := hk.2; omega
      · omega
end Go.Proofs.YtkfncanfgpmgaaaGreat.Wd
