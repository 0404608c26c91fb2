/- A table in memory: what a charge does; no conditions but those that each names. -/
import Derived.Test.YtkfncanfgpmgaaaGreatTabG
import Derived.BigQuiet
namespace Go.Proofs.YtkfncanfgpmgaaaGreat.Wd
open Go Go.RowKit Go.Shelf Go.Deep
set_option linter.unusedVariables false
set_option maxRecDepth 100000

set_option maxHeartbeats 4000000 in
theorem charge_other (T : Nat) (B : Nat → Prop) (m c : Int) (S : List Sl) (k : ByteArray) (r : Rl) (n : Int) (w : World) (h : Tbl w T B m c S) (hk : k.size ≤ 281474976710656) (hr : Okr r) (hn : U n) (h0 : wkE k r = 0) (s : Sl) (hg : getS S k = some s) (he : ¬ (s.r.e = r.e ∧ s.r.b = r.b)) :
    Calls Tryz.prog 18 #[ptr T, .string k, r.v, .int .u64 n] w fun e w' => e = .returned (chA m c S k r n).v ∧ Tch B w w' ∧ Tbl w' T (Nx B w) m c (chN m c S k r n) := by
  obtain ⟨S1, hS1⟩ : ∃ S1, S1 = offS k S := ⟨_, rfl⟩
  have hd : dropS S k r = S1 := by unfold dropS; rw [hg, hS1]; simp [he]
  have hg1 : getS S1 k = none := by rw [hS1]; exact getS_off k S
  obtain ⟨st, hst⟩ : ∃ st, stOf c r (getS S1 k) = st := ⟨_, rfl⟩
  have hff : ¬ fullB m S1 k = true := by
    unfold fullB; rw [hg1]
    have := offS_lt (getS_some hg).1 (getS_some hg).2
    have := h.wf.len
    rw [← hS1] at *
    simp; omega
  have HA := Lib.hid (show chA m c S k r n = decA c r st n by unfold chA; rw [if_pos h0, hd, if_neg hff, hst])
  have HN := Lib.hid (show chN m c S k r n = decS c S1 k r st n by unfold chN; rw [if_pos h0, hd, if_neg hff, hst])
  have HST := Lib.hid hst
  have hlt : (S1.length : Int) < m := by
    have := offS_lt (getS_some hg).1 (getS_some hg).2
    have := h.wf.len
    rw [← hS1] at *
    omega
  have HLT := Lib.hid (show getS S1 k = none → (S1.length : Int) < m from fun e => hlt)
  have hq := decide_eq_false (show ¬ m ≤ (S1.length : Int) by omega)
  obtain ⟨c0, c1, cf, ct⟩ := h.cells
  have b0 := Lib.hid (((Blk.new w #[.string r.p, .int .u64 r.e, .int .u64 r.b, .int .u8 r.k] 42).alloc (.cells #[.int .u8 0, .int .u16 0, .int .u64 0, .int .u64 0, .int .u64 0, .int .u64 0, .int .u64 0, .bool false, .int .i64 0, .slice none 0 0] 52)))
  have a0 := Lib.hid (Blk.new (w.alloc (.cells #[.string r.p, .int .u64 r.e, .int .u64 r.b, .int .u8 r.k] 42)) #[.int .u8 0, .int .u16 0, .int .u64 0, .int .u64 0, .int .u64 0, .int .u64 0, .int .u64 0, .bool false, .int .i64 0, .slice none 0 0] 52)
  have k0 := Lib.hid (((Below.refl _ w).alloc (Nat.le_refl _) (.cells #[.string r.p, .int .u64 r.e, .int .u64 r.b, .int .u8 r.k] 42)).alloc (by simp) (.cells #[.int .u8 0, .int .u16 0, .int .u64 0, .int .u64 0, .int .u64 0, .int .u64 0, .int .u64 0, .bool false, .int .i64 0, .slice none 0 0] 52))
  have s0 := Lib.hid (show ((w.alloc (.cells #[.string r.p, .int .u64 r.e, .int .u64 r.b, .int .u8 r.k] 42)).alloc (.cells #[.int .u8 0, .int .u16 0, .int .u64 0, .int .u64 0, .int .u64 0, .int .u64 0, .int .u64 0, .bool false, .int .i64 0, .slice none 0 0] 52)).heap.size = w.heap.size + 2 by simp)
  rw [show (w.alloc (.cells #[.string r.p, .int .u64 r.e, .int .u64 r.b, .int .u8 r.k] 42)).heap.size = w.heap.size + 1 by simp] at a0
  have HL := Lib.hid h.low
  have H0 := Lib.hid (HL.out.below k0.out)
  have CN := Lib.hid (ornew_yes T)
  have CW := Lib.hid (fun W => wrongkey_any k r W (by omega) hr)
  rw [h0] at CW
  clear h c0 c1 cf
  go_enter Tryz.func18, Tryz.ntmps18
  go_wp2_with fail
  generalize ((w.alloc (.cells #[.string r.p, .int .u64 r.e, .int .u64 r.b, .int .u8 r.k] 42)).alloc (.cells #[.int .u8 0, .int .u16 0, .int .u64 0, .int .u64 0, .int .u64 0, .int .u64 0, .int .u64 0, .bool false, .int .i64 0, .slice none 0 0] 52)) = W at *
  obtain ⟨x0, x1, x2, x3, _⟩ := blk4 b0.out
  go_wp2_with (first
    | (go_at_call 39; with_reducible refine (CN.out _).mono ?_; rintro e w1 ⟨rfl, rfl⟩)
    | (go_at_call 41; with_reducible refine (CW.out _).mono ?_; rintro e W1 ⟨rfl, g⟩; refine stopHere ?_))
  unfold Stop
  have hz : Hid (w.heap.size + 2 ≤ W1.heap.size) := Lib.hid (by have := s0.out; have := g.size; omega)
  have b1 := Lib.hid (b0.out.below g)
  have zb := a0.out.below g
  have H1 := Lib.hid (H0.out.below g)
  have k1 := Lib.hid (show Tch (fun k => B k ∧ k < w.heap.size) w W1 from Tch.of (kbq k0.out g))
  clear g CN CW b0 a0 H0 k0 s0 x0 x1 x2 x3
  obtain ⟨z0, z1, z2, z3, z4, z5, z6, z7, z8, z9, zf0, zf1, zf2, zf3, zf4, zf5, zf6, zf7, zf8, zf9⟩ := blk10 zb
  obtain ⟨x0, x1, x2, x3, _⟩ := blk4 b1.out
  obtain ⟨M, Ml, hM, hLen, hL⟩ := H1.out.look k (by omega)
  obtain ⟨b, d, i, hl, hb⟩ : ∃ b d i, (∀ j, (Instr.lookup Tmap (.map (some M)) (.string k) true).run Tryz.prog (W1.drewN j) = .ok (.tuple #[ptr b, .bool true]) (W1.drewN j)) ∧ Blk W1 b (kcs (s, d) i) Tsl := by
    rcases hL with ⟨e, _⟩ | ⟨s', b, d, i, e, hL, hb⟩
    · rw [hg] at e; cases e
    · rw [hg] at e; injection e with e; subst e
      exact ⟨b, d, i, fun j => hL (W1.drewN j) rfl, hb⟩
  have hl1 : (Instr.lookup Tmap (.map (some M)) (.string k) true).run Tryz.prog W1 = .ok (.tuple #[ptr b, .bool true]) W1 := hl 0
  obtain ⟨_, _, y2, y3, _⟩ := kcs_cells hb
  clear hL hLen hb
  have ZB := Lib.hid zb
  have BB := b1
  have KT := k1
  have HGN := Lib.hid hg1
  have HS1 := Lib.hid hS1
  have CLo := Lib.hid (fun W (g : Tbl W T (fun k => B k ∧ k < w.heap.size) m c S) => lose_tab T _ m c S k W g (by omega))
  clear zb b1 k1 hd hst hff hg1 hS1 hlt
  have eb : ((s.r.e != r.e) || (s.r.b != r.b)) = true := by
    by_cases z : s.r.e = r.e
    · have : s.r.b ≠ r.b := fun x => he ⟨z, x⟩
      simp [z, this]
    · simp [z]
  have HE := Lib.hid he
  clear he
  cases e1 : (s.r.e != r.e)
  · rw [e1] at eb
    have e2 : (s.r.b != r.b) = true := by simpa using eb
    clear eb
    go_wp2_with fail
    go_quiet (fail)
    have HL1 := Lib.hid (show Tbl (World.drewN W1 nq) T (fun k => B k ∧ k < w.heap.size) m c S from H1.out.keep (fun k _ hl => rfl))
    go_wp2_with fail
    go_at_call 42
    with_reducible refine (CLo.out _ HL1.out).mono ?_
    rintro e V1 ⟨rfl, hT1, g1⟩
    rw [← HS1.out] at hT1
    obtain ⟨M2, Ml2, hM2, hLen2, hL2⟩ := hT1.look k (by omega)
    have hl2 : (Instr.lookup Tmap (.map (some M2)) (.string k) true).run Tryz.prog V1 = .ok (.tuple #[.pointer none, .bool false]) V1 := by
      rcases hL2 with ⟨_, hL⟩ | ⟨s, b, d, i, e, _⟩
      · exact hL V1 rfl
      · rw [HGN.out] at e; cases e
    have hl9 : ∀ (j : Nat) (ty : TypeId), (Builtin.len_ #[Tmap] ty #[.map (some M2)]).run Tryz.prog (V1.drewN j) = .ok (.int .i64 S1.length) (V1.drewN j) := fun j ty => hLen2 (V1.drewN j) rfl ty
    have hl10 : ∀ (ty : TypeId), (Builtin.len_ #[Tmap] ty #[.map (some M2)]).run Tryz.prog V1 = .ok (.int .i64 S1.length) V1 := fun ty => hLen2 V1 rfl ty
    have c0 := hT1.cells.1
    have ZB1 : Blk (World.drewN W1 nq) (w.heap.size + 1) #[.int .u8 0, .int .u16 0, .int .u64 0, .int .u64 0, .int .u64 0, .int .u64 0, .int .u64 0, .bool false, .int .i64 0, .slice none 0 0] 52 := ZB.out
    have ZB := Lib.hid (g1.blk ZB1 (fun x => by have := x.2; omega))
    have BB1 : Blk (World.drewN W1 nq) w.heap.size #[.string r.p, .int .u64 r.e, .int .u64 r.b, .int .u8 r.k] 42 := BB.out
    have BB := Lib.hid (g1.blk BB1 (fun x => by have := x.2; omega))
    have KT := Lib.hid ((KT.out.trans (show Tch (fun k => B k ∧ k < w.heap.size) W1 (World.drewN W1 nq) from ⟨rfl, rfl, rfl, Nat.le_refl _, fun _ _ _ => rfl⟩)).trans g1)
    have HT := Lib.hid hT1
    clear ZB1 BB1 hL2 hLen2 hT1 g1 HL1 H1 x0 x1 x2 x3 hM Ml hl hl1 y2 y3 CLo
    go_wp2_with fail
    go_quiet (fail)
    generalize hV : World.drewN V1 _ = V at *
    have zb : Blk V (w.heap.size + 1) #[.int .u8 0, .int .u16 0, .int .u64 0, .int .u64 0, .int .u64 0, .int .u64 0, .int .u64 0, .bool false, .int .i64 0, .slice none 0 0] 52 := by rw [← hV]; exact ZB.out
    have b2 : Blk V w.heap.size #[.string r.p, .int .u64 r.e, .int .u64 r.b, .int .u8 r.k] 42 := by rw [← hV]; exact BB.out
    have H2 := Lib.hid (show Tbl V T (fun k => B k ∧ k < w.heap.size) m c S1 by rw [← hV]; exact HT.out.keep (fun k _ hl => rfl))
    have k2 := Lib.hid (show Tch (fun k => B k ∧ k < w.heap.size) w V by rw [← hV]; exact KT.out.trans (show Tch _ _ _ from ⟨rfl, rfl, rfl, Nat.le_refl _, fun _ _ _ => rfl⟩))
    clear hV
    obtain ⟨z0, z1, z2, z3, z4, z5, z6, z7, z8, z9, zf0, zf1, zf2, zf3, zf4, zf5, zf6, zf7, zf8, zf9⟩ := blk10 zb
    obtain ⟨x0, x1, x2, x3, _⟩ := blk4 b2
    have CD := Lib.hid (decide_tab T _ m c S1 k r n st V H2.out hk hr hn h0 HST.out HLT.out)
    clear x0 x1 x2 x3 z0 z1 z2 z3 z4 z5 z6 z7 z8 z9 zf0 zf1 zf2 zf3 zf4 zf5 zf6 zf7 zf8 zf9 HLT HST
    obtain ⟨x0, x1, x2, x3, _⟩ := blk4 b2
    have ZB2 := Lib.hid zb
    have hz3 := Lib.hid (show w.heap.size + 2 ≤ V.heap.size by have := zb.lt; omega)
    clear zb b2
    go_wp2_with fail
    go_at_call 43
    with_reducible refine CD.out.mono ?_
    rintro e V3 ⟨rfl, g, hT3⟩
    have zb := g.blk ZB2.out (fun x => by have := x.2; omega)
    have H3 := Lib.hid (hT3.mono (C := fun k => (B k ∧ k < w.heap.size) ∨ w.heap.size + 2 ≤ k) (fun k hk => hk.elim .inl (fun x => .inr (by have := hz3.out; omega))))
    have k3 := Lib.hid (k2.out.trans g)
    obtain ⟨z0, z1, z2, z3, z4, z5, z6, z7, z8, z9, zf0, zf1, zf2, zf3, zf4, zf5, zf6, zf7, zf8, zf9⟩ := blk10 zb
    clear g hT3 x0 x1 x2 x3
    go_wp2
    have hB := bset10 (p0 := .int .u8 (decA c r st n).code) (p1 := .int .u16 (decA c r st n).err) (p2 := .int .u64 (decA c r st n).lim) (p3 := .int .u64 (decA c r st n).left) (p4 := .int .u64 (decA c r st n).reset) (p5 := .int .u64 (decA c r st n).after) (p6 := .int .u64 (decA c r st n).nanos) (p7 := .bool (decA c r st n).retry) (p8 := .int .i64 0) (p9 := .slice none 0 0) zb
    have hk9 := ts10 (p0 := .int .u8 (decA c r st n).code) (p1 := .int .u16 (decA c r st n).err) (p2 := .int .u64 (decA c r st n).lim) (p3 := .int .u64 (decA c r st n).left) (p4 := .int .u64 (decA c r st n).reset) (p5 := .int .u64 (decA c r st n).after) (p6 := .int .u64 (decA c r st n).nanos) (p7 := .bool (decA c r st n).retry) (p8 := .int .i64 0) (p9 := .slice none 0 0) (Tch.refl (fun k => k = w.heap.size + 1) V3) (.inl rfl)
    have HB := Lib.hid hB
    have HK9 := Lib.hid hk9
    clear z0 z1 z2 z3 z4 z5 z6 z7 z8 z9 zf0 zf1 zf2 zf3 zf4 zf5 zf6 zf7 zf8 zf9 zb hB hk9
    have V9 := HB.out
    revert HB HK9 V9
    generalize World.setCell _ ⟨w.heap.size + 1, 9, none⟩ _ = V
    intro HB HK9 V9
    obtain ⟨q0, q1, q2, q3, q4, q5, q6, q7, q8, q9, _⟩ := blk10 HB.out
    refine bodyPost_ret (v := An.v (decA c r st n)) ?_ rfl ⟨?_, ?_, ?_⟩
    · simp [results, Tryz.results18, go_sem, q0, q1, q2, q3, q4, q5, q6, q7, q8, q9]
    · rw [HA.out]
    · exact (k3.out.next (HK9.out.mono (fun k _ e => .inr (by omega)))).mono (fun k _ hk => hk.1)
    · rw [HN.out]
      refine (H3.out.keep (fun k hk hl => HK9.out.block k hl (fun e => ?_))).mono (fun k hk => hk.elim (fun x => .inl x.1) (fun x => .inr (by omega)))
      rcases hk with hk | hk
      · have := hk.2; omega
      · omega
  · clear eb
    go_wp2_with fail
    go_quiet (fail)
    have HL1 := Lib.hid (show Tbl (World.drewN W1 nq) T (fun k => B k ∧ k < w.heap.size) m c S from H1.out.keep (fun k _ hl => rfl))
    go_wp2_with fail
    go_at_call 42
    with_reducible refine (CLo.out _ HL1.out).mono ?_
    rintro e V1 ⟨rfl, hT1, g1⟩
    rw [← HS1.out] at hT1
    obtain ⟨M2, Ml2, hM2, hLen2, hL2⟩ := hT1.look k (by omega)
    have hl2 : (Instr.lookup Tmap (.map (some M2)) (.string k) true).run Tryz.prog V1 = .ok (.tuple #[.pointer none, .bool false]) V1 := by
      rcases hL2 with ⟨_, hL⟩ | ⟨s, b, d, i, e, _⟩
      · exact hL V1 rfl
      · rw [HGN.out] at e; cases e
    have hl9 : ∀ (j : Nat) (ty : TypeId), (Builtin.len_ #[Tmap] ty #[.map (some M2)]).run Tryz.prog (V1.drewN j) = .ok (.int .i64 S1.length) (V1.drewN j) := fun j ty => hLen2 (V1.drewN j) rfl ty
    have hl10 : ∀ (ty : TypeId), (Builtin.len_ #[Tmap] ty #[.map (some M2)]).run Tryz.prog V1 = .ok (.int .i64 S1.length) V1 := fun ty => hLen2 V1 rfl ty
    have c0 := hT1.cells.1
    have ZB1 : Blk (World.drewN W1 nq) (w.heap.size + 1) #[.int .u8 0, .int .u16 0, .int .u64 0, .int .u64 0, .int .u64 0, .int .u64 0, .int .u64 0, .bool false, .int .i64 0, .slice none 0 0] 52 := ZB.out
    have ZB := Lib.hid (g1.blk ZB1 (fun x => by have := x.2; omega))
    have BB1 : Blk (World.drewN W1 nq) w.heap.size #[.string r.p, .int .u64 r.e, .int .u64 r.b, .int .u8 r.k] 42 := BB.out
    have BB := Lib.hid (g1.blk BB1 (fun x => by have := x.2; omega))
    have KT := Lib.hid ((KT.out.trans (show Tch (fun k => B k ∧ k < w.heap.size) W1 (World.drewN W1 nq) from ⟨rfl, rfl, rfl, Nat.le_refl _, fun _ _ _ => rfl⟩)).trans g1)
    have HT := Lib.hid hT1
    clear ZB1 BB1 hL2 hLen2 hT1 g1 HL1 H1 x0 x1 x2 x3 hM Ml hl hl1 y2 y3 CLo
    go_wp2_with fail
    go_quiet (fail)
    generalize hV : World.drewN V1 _ = V at *
    have zb : Blk V (w.heap.size + 1) #[.int .u8 0, .int .u16 0, .int .u64 0, .int .u64 0, .int .u64 0, .int .u64 0, .int .u64 0, .bool false, .int .i64 0, .slice none 0 0] 52 := by rw [← hV]; exact ZB.out
    have b2 : Blk V w.heap.size #[.string r.p, .int .u64 r.e, .int .u64 r.b, .int .u8 r.k] 42 := by rw [← hV]; exact BB.out
    have H2 := Lib.hid (show Tbl V T (fun k => B k ∧ k < w.heap.size) m c S1 by rw [← hV]; exact HT.out.keep (fun k _ hl => rfl))
    have k2 := Lib.hid (show Tch (fun k => B k ∧ k < w.heap.size) w V by rw [← hV]; exact KT.out.trans (show Tch _ _ _ from ⟨rfl, rfl, rfl, Nat.le_refl _, fun _ _ _ => rfl⟩))
    clear hV
    obtain ⟨z0, z1, z2, z3, z4, z5, z6, z7, z8, z9, zf0, zf1, zf2, zf3, zf4, zf5, zf6, zf7, zf8, zf9⟩ := blk10 zb
    obtain ⟨x0, x1, x2, x3, _⟩ := blk4 b2
    have CD := Lib.hid (decide_tab T _ m c S1 k r n st V H2.out hk hr hn h0 HST.out HLT.out)
    clear x0 x1 x2 x3 z0 z1 z2 z3 z4 z5 z6 z7 z8 z9 zf0 zf1 zf2 zf3 zf4 zf5 zf6 zf7 zf8 zf9 HLT HST
    obtain ⟨x0, x1, x2, x3, _⟩ := blk4 b2
    have ZB2 := Lib.hid zb
    have hz3 := Lib.hid (show w.heap.size + 2 ≤ V.heap.size by have := zb.lt; omega)
    clear zb b2
    go_wp2_with fail
    go_at_call 43
    with_reducible refine CD.out.mono ?_
    rintro e V3 ⟨rfl, g, hT3⟩
    have zb := g.blk ZB2.out (fun x => by have := x.2; omega)
    have H3 := Lib.hid (hT3.mono (C := fun k => (B k ∧ k < w.heap.size) ∨ w.heap.size + 2 ≤ k) (fun k hk => hk.elim .inl (fun x => .inr (by have := hz3.out; omega))))
    have k3 := Lib.hid (k2.out.trans g)
    obtain ⟨z0, z1, z2, z3, z4, z5, z6, z7, z8, z9, zf0, zf1, zf2, zf3, zf4, zf5, zf6, zf7, zf8, zf9⟩ := blk10 zb
    clear g hT3 x0 x1 x2 x3
    go_wp2
    have hB := bset10 (p0 := .int .u8 (decA c r st n).code) (p1 := .int .u16 (decA c r st n).err) (p2 := .int .u64 (decA c r st n).lim) (p3 := .int .u64 (decA c r st n).left) (p4 := .int .u64 (decA c r st n).reset) (p5 := .int .u64 (decA c r st n).after) (p6 := .int .u64 (decA c r st n).nanos) (p7 := .bool (decA c r st n).retry) (p8 := .int .i64 0) (p9 := .slice none 0 0) zb
    have hk9 := ts10 (p0 := .int .u8 (decA c r st n).code) (p1 := .int .u16 (decA c r st n).err) (p2 := .int .u64 (decA c r st n).lim) (p3 := .int .u64 (decA c r st n).left) (p4 := .int .u64 (decA c r st n).reset) (p5 := .int .u64 (decA c r st n).after) (p6 := .int .u64 (decA c r st n).nanos) (p7 := .bool (decA c r st n).retry) (p8 := .int .i64 0) (p9 := .slice none 0 0) (Tch.refl (fun k => k = w.heap.size + 1) V3) (.inl rfl)
    have HB := Lib.hid hB
    have HK9 := Lib.hid hk9
    clear z0 z1 z2 z3 z4 z5 z6 z7 z8 z9 zf0 zf1 zf2 zf3 zf4 zf5 zf6 zf7 zf8 zf9 zb hB hk9
    have V9 := HB.out
    revert HB HK9 V9
    generalize World.setCell _ ⟨w.heap.size + 1, 9, none⟩ _ = V
    intro HB HK9 V9
    obtain ⟨q0, q1, q2, q3, q4, q5, q6, q7, q8, q9, _⟩ := blk10 HB.out
    refine bodyPost_ret (v := An.v (decA c r st n)) ?_ rfl ⟨?_, ?_, ?_⟩
    · simp [results, Tryz.results18, go_sem, q0, q1, q2, q3, q4, q5, q6, q7, q8, q9]
    · rw [HA.out]
    · exact (k3.out.next (HK9.out.mono (fun k _ e => .inr (by omega)))).mono (fun k _ hk => hk.1)
    · rw [HN.out]
      refine (H3.out.keep (fun k hk hl => HK9.out.block k hl (fun e => ?_))).mono (fun k hk => hk.elim (fun x => .inl x.1) (fun x => .inr (by omega)))
      rcases hk with hk | hk
      · have := hk.2; omega
      · omega
theorem charge_tab (T : Nat) (B : Nat → Prop) (m c : Int) (S : List Sl) (k : ByteArray) (r : Rl) (n : Int) (w : World) (h : Tbl w T B m c S) (hk : k.size ≤ 281474976710656) (hr : Okr r) (hn : U n) :
    Calls Tryz.prog 18 #[ptr T, .string k, r.v, .int .u64 n] w fun e w' => e = .returned (chA m c S k r n).v ∧ Tch B w w' ∧ Tbl w' T (Nx B w) m c (chN m c S k r n) := by
  by_cases h0 : wkE k r = 0
  · cases hg : getS S k with
    | none => exact charge_none T B m c S k r n w h hk hr hn h0 hg
    | some s =>
      by_cases he : s.r.e = r.e ∧ s.r.b = r.b
      · exact charge_same T B m c S k r n w h hk hr hn h0 s hg he.1 he.2
      · exact charge_other T B m c S k r n w h hk hr hn h0 s hg he
  · exact charge_bad T B m c S k r n w h hk hr hn h0
end Go.Proofs.YtkfncanfgpmgaaaGreat.Wd
