/- A table in memory: what a charge does; no conditions but those that each names. -/
import Derived.Test.YtkfncanfgpmgaaaGreatTabE
import Derived.BigQuiet
namespace Go.Proofs.YtkfncanfgpmgaaaGreat.Wd
open Go Go.RowKit Go.Shelf Go.Deep
set_option linter.unusedVariables false
set_option maxRecDepth 100000

/-- Who is there once one by another rule is gone. -/
def dropS (S : List Sl) (k : ByteArray) (r : Rl) : List Sl := match getS S k with
  | some s => if s.r.e = r.e ∧ s.r.b = r.b then S else offS k S
  | none => S
/-- Is there no place for a key? -/
def fullB (m : Int) (S : List Sl) (k : ByteArray) : Bool := (getS S k).isNone && decide (m ≤ (S.length : Int))
/-- What a charge is told, and who is there behind it. -/
def chA (m c : Int) (S : List Sl) (k : ByteArray) (r : Rl) (n : Int) : An :=
  if wkE k r = 0 then (if fullB m (dropS S k r) k = true then ⟨3, 0, r.b, 0, 0, 0, 0, false⟩ else decA c r (stOf c r (getS (dropS S k r) k)) n) else ⟨5, wkE k r, 0, 0, 0, 0, 0, false⟩
def chN (m c : Int) (S : List Sl) (k : ByteArray) (r : Rl) (n : Int) : List Sl :=
  if wkE k r = 0 then (if fullB m (dropS S k r) k = true then dropS S k r else decS c (dropS S k r) k r (stOf c r (getS (dropS S k r) k)) n) else S
theorem getS_off (k : ByteArray) (S : List Sl) : getS (offS k S) k = none := getS_none.2 (fun s hs => (offS_mem.1 hs).2)

set_option maxHeartbeats 1000000 in
theorem charge_bad (T : Nat) (B : Nat → Prop) (m c : Int) (S : List Sl) (k : ByteArray) (r : Rl) (n : Int) (w : World) (h : Tbl w T B m c S) (hk : k.size ≤ 281474976710656) (hr : Okr r) (hn : U n) (h0 : wkE k r ≠ 0) :
    Calls Tryz.prog 18 #[ptr T, .string k, r.v, .int .u64 n] w fun e w' => e = .returned (chA m c S k r n).v ∧ Tch B w w' ∧ Tbl w' T (Nx B w) m c (chN m c S k r n) := by
  obtain ⟨c0, c1, cf, ct⟩ := h.cells
  have b0 := Lib.hid (((Blk.new w #[.string r.p, .int .u64 r.e, .int .u64 r.b, .int .u8 r.k] 42).alloc (.cells #[.int .u8 0, .int .u16 0, .int .u64 0, .int .u64 0, .int .u64 0, .int .u64 0, .int .u64 0, .bool false, .int .i64 0, .slice none 0 0] 52)))
  have a0 := Lib.hid (Blk.new (w.alloc (.cells #[.string r.p, .int .u64 r.e, .int .u64 r.b, .int .u8 r.k] 42)) #[.int .u8 0, .int .u16 0, .int .u64 0, .int .u64 0, .int .u64 0, .int .u64 0, .int .u64 0, .bool false, .int .i64 0, .slice none 0 0] 52)
  have k0 := Lib.hid (((Below.refl _ w).alloc (Nat.le_refl _) (.cells #[.string r.p, .int .u64 r.e, .int .u64 r.b, .int .u8 r.k] 42)).alloc (by simp) (.cells #[.int .u8 0, .int .u16 0, .int .u64 0, .int .u64 0, .int .u64 0, .int .u64 0, .int .u64 0, .bool false, .int .i64 0, .slice none 0 0] 52))
  have s0 := Lib.hid (show ((w.alloc (.cells #[.string r.p, .int .u64 r.e, .int .u64 r.b, .int .u8 r.k] 42)).alloc (.cells #[.int .u8 0, .int .u16 0, .int .u64 0, .int .u64 0, .int .u64 0, .int .u64 0, .int .u64 0, .bool false, .int .i64 0, .slice none 0 0] 52)).heap.size = w.heap.size + 2 by simp)
  rw [show (w.alloc (.cells #[.string r.p, .int .u64 r.e, .int .u64 r.b, .int .u8 r.k] 42)).heap.size = w.heap.size + 1 by simp] at a0
  have HL := Lib.hid h.low
  have H0 := Lib.hid (HL.out.below k0.out)
  have CN := Lib.hid (ornew_yes T)
  have CW := Lib.hid (fun W => wrongkey_any k r W (by omega) hr)
  clear h c0 c1 cf
  have e0 : (wkE k r != 0) = true := by simpa using h0
  have HE := Lib.hid h0
  have HA := Lib.hid (show chA m c S k r n = ⟨5, wkE k r, 0, 0, 0, 0, 0, false⟩ by unfold chA; rw [if_neg h0])
  have HN := Lib.hid (show chN m c S k r n = S by unfold chN; rw [if_neg h0])
  clear h0
  generalize wkE k r = E at *
  go_enter Tryz.func18, Tryz.ntmps18
  go_wp2_with fail
  generalize ((w.alloc (.cells #[.string r.p, .int .u64 r.e, .int .u64 r.b, .int .u8 r.k] 42)).alloc (.cells #[.int .u8 0, .int .u16 0, .int .u64 0, .int .u64 0, .int .u64 0, .int .u64 0, .int .u64 0, .bool false, .int .i64 0, .slice none 0 0] 52)) = W at *
  obtain ⟨x0, x1, x2, x3, _⟩ := blk4 b0.out
  go_wp2_with (first
    | (go_at_call 39; with_reducible refine (CN.out _).mono ?_; rintro e w1 ⟨rfl, rfl⟩)
    | (go_at_call 41; with_reducible refine (CW.out _).mono ?_; rintro e W1 ⟨rfl, g⟩; refine stopHere ?_))
  unfold Stop
  have hz : Hid (w.heap.size + 2 ≤ W1.heap.size) := Lib.hid (by have := s0.out; have := g.size; omega)
  have b1 := Lib.hid (b0.out.below g)
  have zb := a0.out.below g
  have H1 := Lib.hid (H0.out.below g)
  have k1 := Lib.hid (show Tch (fun k => B k ∧ k < w.heap.size) w W1 from Tch.of (kbq k0.out g))
  clear g CN CW b0 a0 H0 k0 s0 x0 x1 x2 x3
  obtain ⟨z0, z1, z2, z3, z4, z5, z6, z7, z8, z9, zf0, zf1, zf2, zf3, zf4, zf5, zf6, zf7, zf8, zf9⟩ := blk10 zb
  obtain ⟨x0, x1, x2, x3, _⟩ := blk4 b1.out
  have H2 := Lib.hid (show Tbl W1 T (fun k => (B k ∧ k < w.heap.size) ∨ w.heap.size + 2 ≤ k) m c S from H1.out.mono (fun k hk => .inl hk))
  go_wp2
  have hB := bset10 (p0 := .int .u8 5) (p1 := .int .u16 E) (p2 := .int .u64 0) (p3 := .int .u64 0) (p4 := .int .u64 0) (p5 := .int .u64 0) (p6 := .int .u64 0) (p7 := .bool false) (p8 := .int .i64 0) (p9 := .slice none 0 0) zb
  have hk9 := ts10 (p0 := .int .u8 5) (p1 := .int .u16 E) (p2 := .int .u64 0) (p3 := .int .u64 0) (p4 := .int .u64 0) (p5 := .int .u64 0) (p6 := .int .u64 0) (p7 := .bool false) (p8 := .int .i64 0) (p9 := .slice none 0 0) (Tch.refl (fun k => k = w.heap.size + 1) W1) (.inl rfl)
  have HB := Lib.hid hB
  have HK9 := Lib.hid hk9
  clear z0 z1 z2 z3 z4 z5 z6 z7 z8 z9 zf0 zf1 zf2 zf3 zf4 zf5 zf6 zf7 zf8 zf9 zb hB hk9
  have V9 := HB.out
  revert HB HK9 V9
  generalize World.setCell _ ⟨w.heap.size + 1, 9, none⟩ _ = V
  intro HB HK9 V9
  obtain ⟨q0, q1, q2, q3, q4, q5, q6, q7, q8, q9, _⟩ := blk10 HB.out
  refine bodyPost_ret (v := An.v (An.mk 5 E 0 0 0 0 0 false)) ?_ rfl ⟨?_, ?_, ?_⟩
  · simp [results, Tryz.results18, go_sem, q0, q1, q2, q3, q4, q5, q6, q7, q8, q9]
  · rw [HA.out]
  · exact (k1.out.next (HK9.out.mono (fun k _ e => .inr (by omega)))).mono (fun k _ hk => hk.1)
  · rw [HN.out]
    refine (H2.out.keep (fun k hk hl => HK9.out.block k hl (fun e => ?_))).mono (fun k hk => hk.elim (fun x => .inl x.1) (fun x => .inr (by omega)))
    rcases hk with hk | hk
    · have := hk.2; omega
    · omega

set_option maxHeartbeats 4000000 in
theorem charge_none (T : Nat) (B : Nat → Prop) (m c : Int) (S : List Sl) (k : ByteArray) (r : Rl) (n : Int) (w : World) (h : Tbl w T B m c S) (hk : k.size ≤ 281474976710656) (hr : Okr r) (hn : U n) (h0 : wkE k r = 0) (hg : getS S k = none) :
    Calls Tryz.prog 18 #[ptr T, .string k, r.v, .int .u64 n] w fun e w' => e = .returned (chA m c S k r n).v ∧ Tch B w w' ∧ Tbl w' T (Nx B w) m c (chN m c S k r n) := by
  obtain ⟨S1, hS1⟩ : ∃ S1, S1 = S := ⟨S, rfl⟩
  have hd : dropS S k r = S1 := by unfold dropS; rw [hg, hS1]
  have hg1 : getS S1 k = none := by rw [hS1]; exact hg
  have HA0 := Lib.hid (show chA m c S k r n = if fullB m S1 k = true then ⟨3, 0, r.b, 0, 0, 0, 0, false⟩ else decA c r (stOf c r (getS S1 k)) n by unfold chA; rw [if_pos h0, hd])
  have HN0 := Lib.hid (show chN m c S k r n = if fullB m S1 k = true then S1 else decS c S1 k r (stOf c r (getS S1 k)) n by unfold chN; rw [if_pos h0, hd])
  obtain ⟨c0, c1, cf, ct⟩ := h.cells
  have b0 := Lib.hid (((Blk.new w #[.string r.p, .int .u64 r.e, .int .u64 r.b, .int .u8 r.k] 42).alloc (.cells #[.int .u8 0, .int .u16 0, .int .u64 0, .int .u64 0, .int .u64 0, .int .u64 0, .int .u64 0, .bool false, .int .i64 0, .slice none 0 0] 52)))
  have a0 := Lib.hid (Blk.new (w.alloc (.cells #[.string r.p, .int .u64 r.e, .int .u64 r.b, .int .u8 r.k] 42)) #[.int .u8 0, .int .u16 0, .int .u64 0, .int .u64 0, .int .u64 0, .int .u64 0, .int .u64 0, .bool false, .int .i64 0, .slice none 0 0] 52)
  have k0 := Lib.hid (((Below.refl _ w).alloc (Nat.le_refl _) (.cells #[.string r.p, .int .u64 r.e, .int .u64 r.b, .int .u8 r.k] 42)).alloc (by simp) (.cells #[.int .u8 0, .int .u16 0, .int .u64 0, .int .u64 0, .int .u64 0, .int .u64 0, .int .u64 0, .bool false, .int .i64 0, .slice none 0 0] 52))
  have s0 := Lib.hid (show ((w.alloc (.cells #[.string r.p, .int .u64 r.e, .int .u64 r.b, .int .u8 r.k] 42)).alloc (.cells #[.int .u8 0, .int .u16 0, .int .u64 0, .int .u64 0, .int .u64 0, .int .u64 0, .int .u64 0, .bool false, .int .i64 0, .slice none 0 0] 52)).heap.size = w.heap.size + 2 by simp)
  rw [show (w.alloc (.cells #[.string r.p, .int .u64 r.e, .int .u64 r.b, .int .u8 r.k] 42)).heap.size = w.heap.size + 1 by simp] at a0
  have HL := Lib.hid h.low
  have H0 := Lib.hid (HL.out.below k0.out)
  have CN := Lib.hid (ornew_yes T)
  have CW := Lib.hid (fun W => wrongkey_any k r W (by omega) hr)
  rw [h0] at CW
  clear h c0 c1 cf
  go_enter Tryz.func18, Tryz.ntmps18
  go_wp2_with fail
  generalize ((w.alloc (.cells #[.string r.p, .int .u64 r.e, .int .u64 r.b, .int .u8 r.k] 42)).alloc (.cells #[.int .u8 0, .int .u16 0, .int .u64 0, .int .u64 0, .int .u64 0, .int .u64 0, .int .u64 0, .bool false, .int .i64 0, .slice none 0 0] 52)) = W at *
  obtain ⟨x0, x1, x2, x3, _⟩ := blk4 b0.out
  go_wp2_with (first
    | (go_at_call 39; with_reducible refine (CN.out _).mono ?_; rintro e w1 ⟨rfl, rfl⟩)
    | (go_at_call 41; with_reducible refine (CW.out _).mono ?_; rintro e W1 ⟨rfl, g⟩; refine stopHere ?_))
  unfold Stop
  have hz : Hid (w.heap.size + 2 ≤ W1.heap.size) := Lib.hid (by have := s0.out; have := g.size; omega)
  have b1 := Lib.hid (b0.out.below g)
  have zb := a0.out.below g
  have H1 := Lib.hid (H0.out.below g)
  have k1 := Lib.hid (show Tch (fun k => B k ∧ k < w.heap.size) w W1 from Tch.of (kbq k0.out g))
  clear g CN CW b0 a0 H0 k0 s0 x0 x1 x2 x3
  obtain ⟨z0, z1, z2, z3, z4, z5, z6, z7, z8, z9, zf0, zf1, zf2, zf3, zf4, zf5, zf6, zf7, zf8, zf9⟩ := blk10 zb
  obtain ⟨x0, x1, x2, x3, _⟩ := blk4 b1.out
  obtain ⟨M, Ml, hM, hLen, hL⟩ := H1.out.look k (by omega)
  have hl0 : ∀ j, (Instr.lookup Tmap (.map (some M)) (.string k) true).run Tryz.prog (W1.drewN j) = .ok (.tuple #[.pointer none, .bool false]) (W1.drewN j) := fun j => by
    rcases hL with ⟨_, hL⟩ | ⟨s, b, d, i, e, _⟩
    · exact hL (W1.drewN j) rfl
    · rw [hg] at e; cases e
  have hl1 : (Instr.lookup Tmap (.map (some M)) (.string k) true).run Tryz.prog W1 = .ok (.tuple #[.pointer none, .bool false]) W1 := hl0 0
  have hl9 : ∀ (j : Nat) (ty : TypeId), (Builtin.len_ #[Tmap] ty #[.map (some M)]).run Tryz.prog (W1.drewN j) = .ok (.int .i64 S1.length) (W1.drewN j) := fun j ty => by rw [hS1]; exact hLen (W1.drewN j) rfl ty
  have c0 := H1.out.cells.1
  have ZB := Lib.hid zb
  have BB := b1
  have HT := Lib.hid (show Tbl W1 T (fun k => B k ∧ k < w.heap.size) m c S1 by rw [hS1]; exact H1.out)
  have KT := k1
  clear hL hLen zb b1 k1 H1 hd hS1
  by_cases hf : m ≤ (S1.length : Int)
  · have hq := decide_eq_true hf
    have HA := Lib.hid (show chA m c S k r n = ⟨3, 0, r.b, 0, 0, 0, 0, false⟩ by rw [HA0.out, if_pos (by unfold fullB; rw [hg1]; simpa using hf)])
    have HN := Lib.hid (show chN m c S k r n = S1 by rw [HN0.out, if_pos (by unfold fullB; rw [hg1]; simpa using hf)])
    clear HA0 HN0 hf
    go_wp2_with fail
    go_quiet (fail)
    go_wp2_with fail
    go_quiet (fail)
    generalize hV : World.drewN (World.drewN W1 _) _ = V at *
    have zb : Blk V (w.heap.size + 1) #[.int .u8 0, .int .u16 0, .int .u64 0, .int .u64 0, .int .u64 0, .int .u64 0, .int .u64 0, .bool false, .int .i64 0, .slice none 0 0] 52 := by rw [← hV]; exact ZB.out
    have b2 : Blk V w.heap.size #[.string r.p, .int .u64 r.e, .int .u64 r.b, .int .u8 r.k] 42 := by rw [← hV]; exact BB.out
    have H2 := Lib.hid (show Tbl V T (fun k => B k ∧ k < w.heap.size) m c S1 by rw [← hV]; exact HT.out.keep (fun k _ hl => rfl))
    have k2 := Lib.hid (show Tch (fun k => B k ∧ k < w.heap.size) w V by rw [← hV]; exact KT.out.trans (show Tch _ _ _ from ⟨rfl, rfl, rfl, Nat.le_refl _, fun _ _ _ => rfl⟩))
    clear hV
    obtain ⟨z0, z1, z2, z3, z4, z5, z6, z7, z8, z9, zf0, zf1, zf2, zf3, zf4, zf5, zf6, zf7, zf8, zf9⟩ := blk10 zb
    obtain ⟨x0, x1, x2, x3, _⟩ := blk4 b2
    have H3 := Lib.hid (show Tbl V T (fun k => (B k ∧ k < w.heap.size) ∨ w.heap.size + 2 ≤ k) m c S1 from H2.out.mono (fun k hk => .inl hk))
    go_wp2
    have hB := bset10 (p0 := .int .u8 3) (p1 := .int .u16 0) (p2 := .int .u64 r.b) (p3 := .int .u64 0) (p4 := .int .u64 0) (p5 := .int .u64 0) (p6 := .int .u64 0) (p7 := .bool false) (p8 := .int .i64 0) (p9 := .slice none 0 0) zb
    have hk9 := ts10 (p0 := .int .u8 3) (p1 := .int .u16 0) (p2 := .int .u64 r.b) (p3 := .int .u64 0) (p4 := .int .u64 0) (p5 := .int .u64 0) (p6 := .int .u64 0) (p7 := .bool false) (p8 := .int .i64 0) (p9 := .slice none 0 0) (Tch.refl (fun k => k = w.heap.size + 1) V) (.inl rfl)
    have HB := Lib.hid hB
    have HK9 := Lib.hid hk9
    clear z0 z1 z2 z3 z4 z5 z6 z7 z8 z9 zf0 zf1 zf2 zf3 zf4 zf5 zf6 zf7 zf8 zf9 zb hB hk9
    have V9 := HB.out
    revert HB HK9 V9
    generalize World.setCell _ ⟨w.heap.size + 1, 9, none⟩ _ = V
    intro HB HK9 V9
    obtain ⟨q0, q1, q2, q3, q4, q5, q6, q7, q8, q9, _⟩ := blk10 HB.out
    refine bodyPost_ret (v := An.v (An.mk 3 0 r.b 0 0 0 0 false)) ?_ rfl ⟨?_, ?_, ?_⟩
    · simp [results, Tryz.results18, go_sem, q0, q1, q2, q3, q4, q5, q6, q7, q8, q9]
    · rw [HA.out]
    · exact (k2.out.next (HK9.out.mono (fun k _ e => .inr (by omega)))).mono (fun k _ hk => hk.1)
    · rw [HN.out]
      refine (H3.out.keep (fun k hk hl => HK9.out.block k hl (fun e => ?_))).mono (fun k hk => hk.elim (fun x => .inl x.1) (fun x => .inr (by omega)))
      rcases hk with hk | hk
      · have := hk.2; omega
      · omega
  · have hq := decide_eq_false hf
    obtain ⟨st, hst⟩ : ∃ st, stOf c r (getS S1 k) = st := ⟨_, rfl⟩
    have HA := Lib.hid (show chA m c S k r n = decA c r st n by rw [HA0.out, if_neg (by unfold fullB; rw [hg1]; simpa using hf), hst])
    have HN := Lib.hid (show chN m c S k r n = decS c S1 k r st n by rw [HN0.out, if_neg (by unfold fullB; rw [hg1]; simpa using hf), hst])
    have HST := Lib.hid hst
    have HLT := Lib.hid (show getS S1 k = none → (S1.length : Int) < m from fun _ => by omega)
    clear HA0 HN0 hf hst
    go_wp2_with fail
    go_quiet (fail)
    go_wp2_with fail
    go_quiet (fail)
    generalize hV : World.drewN (World.drewN W1 _) _ = V at *
    have zb : Blk V (w.heap.size + 1) #[.int .u8 0, .int .u16 0, .int .u64 0, .int .u64 0, .int .u64 0, .int .u64 0, .int .u64 0, .bool false, .int .i64 0, .slice none 0 0] 52 := by rw [← hV]; exact ZB.out
    have b2 : Blk V w.heap.size #[.string r.p, .int .u64 r.e, .int .u64 r.b, .int .u8 r.k] 42 := by rw [← hV]; exact BB.out
    have H2 := Lib.hid (show Tbl V T (fun k => B k ∧ k < w.heap.size) m c S1 by rw [← hV]; exact HT.out.keep (fun k _ hl => rfl))
    have k2 := Lib.hid (show Tch (fun k => B k ∧ k < w.heap.size) w V by rw [← hV]; exact KT.out.trans (show Tch _ _ _ from ⟨rfl, rfl, rfl, Nat.le_refl _, fun _ _ _ => rfl⟩))
    clear hV
    obtain ⟨z0, z1, z2, z3, z4, z5, z6, z7, z8, z9, zf0, zf1, zf2, zf3, zf4, zf5, zf6, zf7, zf8, zf9⟩ := blk10 zb
    obtain ⟨x0, x1, x2, x3, _⟩ := blk4 b2
    have CD := Lib.hid (decide_tab T _ m c S1 k r n st V H2.out hk hr hn h0 HST.out HLT.out)
    clear x0 x1 x2 x3 z0 z1 z2 z3 z4 z5 z6 z7 z8 z9 zf0 zf1 zf2 zf3 zf4 zf5 zf6 zf7 zf8 zf9 HLT HST
    obtain ⟨x0, x1, x2, x3, _⟩ := blk4 b2
    have ZB2 := Lib.hid zb
    have hz3 := Lib.hid (show w.heap.size + 2 ≤ V.heap.size by have := zb.lt; omega)
    clear zb b2
    go_wp2_with fail
    go_at_call 43
    with_reducible refine CD.out.mono ?_
    rintro e V3 ⟨rfl, g, hT3⟩
    have zb := g.blk ZB2.out (fun x => by have := x.2; omega)
    have H3 := Lib.hid (hT3.mono (C := fun k => (B k ∧ k < w.heap.size) ∨ w.heap.size + 2 ≤ k) (fun k hk => hk.elim .inl (fun x => .inr (by have := hz3.out; omega))))
    have k3 := Lib.hid (k2.out.trans g)
    obtain ⟨z0, z1, z2, z3, z4, z5, z6, z7, z8, z9, zf0, zf1, zf2, zf3, zf4, zf5, zf6, zf7, zf8, zf9⟩ := blk10 zb
    clear g hT3 x0 x1 x2 x3
    go_wp2
    have hB := bset10 (p0 := .int .u8 (decA c r st n).code) (p1 := .int .u16 (decA c r st n).err) (p2 := .int .u64 (decA c r st n).lim) (p3 := .int .u64 (decA c r st n).left) (p4 := .int .u64 (decA c r st n).reset) (p5 := .int .u64 (decA c r st n).after) (p6 := .int .u64 (decA c r st n).nanos) (p7 := .bool (decA c r st n).retry) (p8 := .int .i64 0) (p9 := .slice none 0 0) zb
    have hk9 := ts10 (p0 := .int .u8 (decA c r st n).code) (p1 := .int .u16 (decA c r st n).err) (p2 := .int .u64 (decA c r st n).lim) (p3 := .int .u64 (decA c r st n).left) (p4 := .int .u64 (decA c r st n).reset) (p5 := .int .u64 (decA c r st n).after) (p6 := .int .u64 (decA c r st n).nanos) (p7 := .bool (decA c r st n).retry) (p8 := .int .i64 0) (p9 := .slice none 0 0) (Tch.refl (fun k => k = w.heap.size + 1) V3) (.inl rfl)
    have HB := Lib.hid hB
    have HK9 := Lib.hid hk9
    clear z0 z1 z2 z3 z4 z5 z6 z7 z8 z9 zf0 zf1 zf2 zf3 zf4 zf5 zf6 zf7 zf8 zf9 zb hB hk9
    have V9 := HB.out
    revert HB HK9 V9
    generalize World.setCell _ ⟨w.heap.size + 1, 9, none⟩ _ = V
    intro HB HK9 V9
    obtain ⟨q0, q1, q2, q3, q4, q5, q6, q7, q8, q9, _⟩ := blk10 HB.out
    refine bodyPost_ret (v := An.v (decA c r st n)) ?_ rfl ⟨?_, ?_, ?_⟩
    · simp [results, Tryz.results18, go_sem, q0, q1, q2, q3, q4, q5, q6, q7, q8, q9]
    · rw [HA.out]
    · exact (k3.out.next (HK9.out.mono (fun k _ e => .inr (by omega)))).mono (fun k _ hk => hk.1)
    · rw [HN.out]
      refine (H3.out.keep (fun k hk hl => HK9.out.block k hl (fun e => ?_))).mono (fun k hk => hk.elim (fun x => .inl x.1) (fun x => .inr (by omega)))
      rcases hk with hk | hk
      · have := hk.2; omega
      · omega
set_option maxHeartbeats 4000000 in
theorem charge_same (T : Nat) (B : Nat → Prop) (m c : Int) (S : List Sl) (k : ByteArray) (r : Rl) (n : Int) (w : World) (h : Tbl w T B m c S) (hk : k.size ≤ 281474976710656) (hr : Okr r) (hn : U n) (h0 : wkE k r = 0) (s : Sl) (hg : getS S k = some s) (he : s.r.e = r.e) (hbb : s.r.b = r.b) :
    Calls Tryz.prog 18 #[ptr T, .string k, r.v, .int .u64 n] w fun e w' => e = .returned (chA m c S k r n).v ∧ Tch B w w' ∧ Tbl w' T (Nx B w) m c (chN m c S k r n) := by
  obtain ⟨S1, hS1⟩ : ∃ S1, S1 = S := ⟨S, rfl⟩
  have hd : dropS S k r = S1 := by unfold dropS; rw [hg, hS1]; simp [he, hbb]
  have hg1 : getS S1 k = some s := by rw [hS1]; exact hg
  obtain ⟨st, hst⟩ : ∃ st, stOf c r (getS S1 k) = st := ⟨_, rfl⟩
  have hff : ¬ fullB m S1 k = true := by unfold fullB; rw [hg1]; simp
  have HA := Lib.hid (show chA m c S k r n = decA c r st n by unfold chA; rw [if_pos h0, hd, if_neg hff, hst])
  have HN := Lib.hid (show chN m c S k r n = decS c S1 k r st n by unfold chN; rw [if_pos h0, hd, if_neg hff, hst])
  have HST := Lib.hid hst
  have HLT := Lib.hid (show getS S1 k = none → (S1.length : Int) < m from fun e => by rw [hg1] at e; cases e)
  obtain ⟨c0, c1, cf, ct⟩ := h.cells
  have b0 := Lib.hid (((Blk.new w #[.string r.p, .int .u64 r.e, .int .u64 r.b, .int .u8 r.k] 42).alloc (.cells #[.int .u8 0, .int .u16 0, .int .u64 0, .int .u64 0, .int .u64 0, .int .u64 0, .int .u64 0, .bool false, .int .i64 0, .slice none 0 0] 52)))
  have a0 := Lib.hid (Blk.new (w.alloc (.cells #[.string r.p, .int .u64 r.e, .int .u64 r.b, .int .u8 r.k] 42)) #[.int .u8 0, .int .u16 0, .int .u64 0, .int .u64 0, .int .u64 0, .int .u64 0, .int .u64 0, .bool false, .int .i64 0, .slice none 0 0] 52)
  have k0 := Lib.hid (((Below.refl _ w).alloc (Nat.le_refl _) (.cells #[.string r.p, .int .u64 r.e, .int .u64 r.b, .int .u8 r.k] 42)).alloc (by simp) (.cells #[.int .u8 0, .int .u16 0, .int .u64 0, .int .u64 0, .int .u64 0, .int .u64 0, .int .u64 0, .bool false, .int .i64 0, .slice none 0 0] 52))
  have s0 := Lib.hid (show ((w.alloc (.cells #[.string r.p, .int .u64 r.e, .int .u64 r.b, .int .u8 r.k] 42)).alloc (.cells #[.int .u8 0, .int .u16 0, .int .u64 0, .int .u64 0, .int .u64 0, .int .u64 0, .int .u64 0, .bool false, .int .i64 0, .slice none 0 0] 52)).heap.size = w.heap.size + 2 by simp)
  rw [show (w.alloc (.cells #[.string r.p, .int .u64 r.e, .int .u64 r.b, .int .u8 r.k] 42)).heap.size = w.heap.size + 1 by simp] at a0
  have HL := Lib.hid h.low
  have H0 := Lib.hid (HL.out.below k0.out)
  have CN := Lib.hid (ornew_yes T)
  have CW := Lib.hid (fun W => wrongkey_any k r W (by omega) hr)
  rw [h0] at CW
  clear h c0 c1 cf
  go_enter Tryz.func18, Tryz.ntmps18
  go_wp2_with fail
  generalize ((w.alloc (.cells #[.string r.p, .int .u64 r.e, .int .u64 r.b, .int .u8 r.k] 42)).alloc (.cells #[.int .u8 0, .int .u16 0, .int .u64 0, .int .u64 0, .int .u64 0, .int .u64 0, .int .u64 0, .bool false, .int .i64 0, .slice none 0 0] 52)) = W at *
  obtain ⟨x0, x1, x2, x3, _⟩ := blk4 b0.out
  go_wp2_with (first
    | (go_at_call 39; with_reducible refine (CN.out _).mono ?_; rintro e w1 ⟨rfl, rfl⟩)
    | (go_at_call 41; with_reducible refine (CW.out _).mono ?_; rintro e W1 ⟨rfl, g⟩; refine stopHere ?_))
  unfold Stop
  have hz : Hid (w.heap.size + 2 ≤ W1.heap.size) := Lib.hid (by have := s0.out; have := g.size; omega)
  have b1 := Lib.hid (b0.out.below g)
  have zb := a0.out.below g
  have H1 := Lib.hid (H0.out.below g)
  have k1 := Lib.hid (show Tch (fun k => B k ∧ k < w.heap.size) w W1 from Tch.of (kbq k0.out g))
  clear g CN CW b0 a0 H0 k0 s0 x0 x1 x2 x3
  obtain ⟨z0, z1, z2, z3, z4, z5, z6, z7, z8, z9, zf0, zf1, zf2, zf3, zf4, zf5, zf6, zf7, zf8, zf9⟩ := blk10 zb
  obtain ⟨x0, x1, x2, x3, _⟩ := blk4 b1.out
  obtain ⟨M, Ml, hM, hLen, hL⟩ := H1.out.look k (by omega)
  obtain ⟨b, d, i, hl, hb⟩ : ∃ b d i, (∀ j, (Instr.lookup Tmap (.map (some M)) (.string k) true).run Tryz.prog (W1.drewN j) = .ok (.tuple #[ptr b, .bool true]) (W1.drewN j)) ∧ Blk W1 b (kcs (s, d) i) Tsl := by
    rcases hL with ⟨e, _⟩ | ⟨s', b, d, i, e, hL, hb⟩
    · rw [hg] at e; cases e
    · rw [hg] at e; injection e with e; subst e
      exact ⟨b, d, i, fun j => hL (W1.drewN j) rfl, hb⟩
  have hl1 : (Instr.lookup Tmap (.map (some M)) (.string k) true).run Tryz.prog W1 = .ok (.tuple #[ptr b, .bool true]) W1 := hl 0
  obtain ⟨_, _, y2, y3, _⟩ := kcs_cells hb
  clear hL hLen hb
  rw [he] at y2
  rw [hbb] at y3
  have ZB := Lib.hid zb
  have BB := b1
  have HT := Lib.hid (show Tbl W1 T (fun k => B k ∧ k < w.heap.size) m c S1 by rw [hS1]; exact H1.out)
  have KT := k1
  clear zb b1 k1 H1 hd hS1 hst hff he hbb
  go_wp2_with fail
  go_quiet (fail)
  go_wp2_with fail
  go_quiet (fail)
  generalize hV : World.drewN (World.drewN W1 _) _ = V at *
  have zb : Blk V (w.heap.size + 1) #[.int .u8 0, .int .u16 0, .int .u64 0, .int .u64 0, .int .u64 0, .int .u64 0, .int .u64 0, .bool false, .int .i64 0, .slice none 0 0] 52 := by rw [← hV]; exact ZB.out
  have b2 : Blk V w.heap.size #[.string r.p, .int .u64 r.e, .int .u64 r.b, .int .u8 r.k] 42 := by rw [← hV]; exact BB.out
  have H2 := Lib.hid (show Tbl V T (fun k => B k ∧ k < w.heap.size) m c S1 by rw [← hV]; exact HT.out.keep (fun k _ hl => rfl))
  have k2 := Lib.hid (show Tch (fun k => B k ∧ k < w.heap.size) w V by rw [← hV]; exact KT.out.trans (show Tch _ _ _ from ⟨rfl, rfl, rfl, Nat.le_refl _, fun _ _ _ => rfl⟩))
  clear hV
  obtain ⟨z0, z1, z2, z3, z4, z5, z6, z7, z8, z9, zf0, zf1, zf2, zf3, zf4, zf5, zf6, zf7, zf8, zf9⟩ := blk10 zb
  obtain ⟨x0, x1, x2, x3, _⟩ := blk4 b2
  have CD := Lib.hid (decide_tab T _ m c S1 k r n st V H2.out hk hr hn h0 HST.out HLT.out)
  clear x0 x1 x2 x3 z0 z1 z2 z3 z4 z5 z6 z7 z8 z9 zf0 zf1 zf2 zf3 zf4 zf5 zf6 zf7 zf8 zf9 HLT HST
  obtain ⟨x0, x1, x2, x3, _⟩ := blk4 b2
  have ZB2 := Lib.hid zb
  have hz3 := Lib.hid (show w.heap.size + 2 ≤ V.heap.size by have := zb.lt; omega)
  clear zb b2
  go_wp2_with fail
  go_at_call 43
  with_reducible refine CD.out.mono ?_
  rintro e V3 ⟨rfl, g, hT3⟩
  have zb := g.blk ZB2.out (fun x => by have := x.2; omega)
  have H3 := Lib.hid (hT3.mono (C := fun k => (B k ∧ k < w.heap.size) ∨ w.heap.size + 2 ≤ k) (fun k hk => hk.elim .inl (fun x => .inr (by have := hz3.out; omega))))
  have k3 := Lib.hid (k2.out.trans g)
  obtain ⟨z0, z1, z2, z3, z4, z5, z6, z7, z8, z9, zf0, zf1, zf2, zf3, zf4, zf5, zf6, zf7, zf8, zf9⟩ := blk10 zb
  clear g hT3 x0 x1 x2 x3
  go_wp2
  have hB := bset10 (p0 := .int .u8 (decA c r st n).code) (p1 := .int .u16 (decA c r st n).err) (p2 := .int .u64 (decA c r st n).lim) (p3 := .int .u64 (decA c r st n).left) (p4 := .int .u64 (decA c r st n).reset) (p5 := .int .u64 (decA c r st n).after) (p6 := .int .u64 (decA c r st n).nanos) (p7 := .bool (decA c r st n).retry) (p8 := .int .i64 0) (p9 := .slice none 0 0) zb
  have hk9 := ts10 (p0 := .int .u8 (decA c r st n).code) (p1 := .int .u16 (decA c r st n).err) (p2 := .int .u64 (decA c r st n).lim) (p3 := .int .u64 (decA c r st n).left) (p4 := .int .u64 (decA c r st n).reset) (p5 := .int .u64 (decA c r st n).after) (p6 := .int .u64 (decA c r st n).nanos) (p7 := .bool (decA c r st n).retry) (p8 := .int .i64 0) (p9 := .slice none 0 0) (Tch.refl (fun k => k = w.heap.size + 1) V3) (.inl rfl)
  have HB := Lib.hid hB
  have HK9 := Lib.hid hk9
  clear z0 z1 z2 z3 z4 z5 z6 z7 z8 z9 zf0 zf1 zf2 zf3 zf4 zf5 zf6 zf7 zf8 zf9 zb hB hk9
  have V9 := HB.out
  revert HB HK9 V9
  generalize World.setCell _ ⟨w.heap.size + 1, 9, none⟩ _ = V
  intro HB HK9 V9
  obtain ⟨q0, q1, q2, q3, q4, q5, q6, q7, q8, q9, _⟩ := blk10 HB.out
  refine bodyPost_ret (v := An.v (decA c r st n)) ?_ rfl ⟨?_, ?_, ?_⟩
  · simp [results, Tryz.results18, go_sem, q0, q1, q2, q3, q4, q5, q6, q7, q8, q9]
  · rw [HA.out]
  · exact (k3.out.next (HK9.out.mono (fun k _ e => .inr (by omega)))).mono (fun k _ hk => hk.1)
  · rw [HN.out]
    refine (H3.out.keep (fun k hk hl => HK9.out.block k hl (fun e => ?_))).mono (fun k hk => hk.elim (fun x => .inl x.1) (fun x => .inr (by omega)))
    rcases hk with hk | hk
    · have := hk.2; omega
    · omega
end Go.Proofs.YtkfncanfgpmgaaaGreat.Wd
