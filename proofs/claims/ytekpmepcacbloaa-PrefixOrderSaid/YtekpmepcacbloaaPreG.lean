/- What (*Tree).Find answers; no conditions but those that each names. -/
import Derived.Test.YtekpmepcacbloaaPreF
namespace Go.Proofs.Ytekpmepcacbloaa.Wd
open Go Go.RowKit Go.Shelf
set_option linter.unusedVariables false
set_option maxRecDepth 100000
attribute [local go_sem] Oper.semAt_some

theorem four_sets {W u : World} {H D N : Nat} {z0 z1 z2 z3 : Value} {T : TypeId} {x : Rl} (b : Blk W H #[z0, z1, z2, z3] T) (hK : W.heap[D]? = some (.deferred (some []))) (hD : D ≠ H) (hN : N ≤ H) (hND : N ≤ D) (g : Below N u W) :
    ((((W.setCell ⟨H, 0, none⟩ (.string x.p)).setCell ⟨H, 1, none⟩ (.int .u64 x.e)).setCell ⟨H, 2, none⟩ (.int .u64 x.b)).setCell ⟨H, 3, none⟩ (.int .u8 x.k)).heap[D]? = some (.deferred (some [])) ∧
    ∀ o, Blk (((((W.setCell ⟨H, 0, none⟩ (.string x.p)).setCell ⟨H, 1, none⟩ (.int .u64 x.e)).setCell ⟨H, 2, none⟩ (.int .u64 x.b)).setCell ⟨H, 3, none⟩ (.int .u8 x.k)).putObj D o) H #[.string x.p, .int .u64 x.e, .int .u64 x.b, .int .u8 x.k] T ∧
      Below N u (((((W.setCell ⟨H, 0, none⟩ (.string x.p)).setCell ⟨H, 1, none⟩ (.int .u64 x.e)).setCell ⟨H, 2, none⟩ (.int .u64 x.b)).setCell ⟨H, 3, none⟩ (.int .u8 x.k)).putObj D o) := by
  have e := (((b.set 0 (.string x.p)).set 1 (.int .u64 x.e)).set 2 (.int .u64 x.b)).set 3 (.int .u8 x.k)
  have k := (((g.setCell (p := ⟨H, 0, none⟩) hN (.string x.p)).setCell (p := ⟨H, 1, none⟩) hN (.int .u64 x.e)).setCell (p := ⟨H, 2, none⟩) hN (.int .u64 x.b)).setCell (p := ⟨H, 3, none⟩) hN (.int .u8 x.k)
  have d : ((((W.setCell ⟨H, 0, none⟩ (.string x.p)).setCell ⟨H, 1, none⟩ (.int .u64 x.e)).setCell ⟨H, 2, none⟩ (.int .u64 x.b)).setCell ⟨H, 3, none⟩ (.int .u8 x.k)).heap[D]? = some (.deferred (some [])) :=
    (Below.heap_setCell _ _ _ _ hD).trans ((Below.heap_setCell _ _ _ _ hD).trans ((Below.heap_setCell _ _ _ _ hD).trans ((Below.heap_setCell _ _ _ _ hD).trans hK)))
  refine ⟨d, fun o => ⟨(World.putObj_heap_other (Ne.symm hD)).trans e, k.trans ⟨rfl, rfl, rfl, by simp, fun i hi => World.putObj_heap_other (by omega)⟩⟩⟩

set_option maxHeartbeats 2000000 in
theorem find_in (n : Nat) (hn : 6 ≤ n) (t : Nat) (lo : Nat → Prop) (R : Nat) (c : Int) (K : ByteArray) (rs : List Rl) (F : Nat → Option Nd) (w : World) (hK : K.size ≤ 281474976710656) (hT : w.heap[t]? = some (.cells #[ndp (some R), .int .i64 c] 56)) (hL : Lies w F lo) (hG : Grove F R rs) :
    CallsIn Fence.wide n Try.prog 13 #[.pointer (some ⟨t, 0, none⟩), .string K] w fun e w' => (e = .returned (.tuple #[((findR rs K).getD rl0).v, .bool (findR rs K).isSome])) ∧ Below w.heap.size w w' := by
  have h1 : 1 ≤ n := by omega
  have c0 : w.cell? ⟨t, 0, none⟩ = some (.pointer (some ⟨R, 0, none⟩)) := Blk.cell hT 0
  have htl := heap_lt hT
  have HL := Lib.hid hL
  have HG := Lib.hid hG
  clear hT hL hG
  refine callsIn_of_wp_marks Try.func13 rfl trivial ?_ rfl
  simp only [Try.ntmps13, List.size_toArray, List.length_cons, List.length_nil, Nat.reduceAdd, Nat.reduceSub, Array.replicate_succ, Array.replicate_zero, List.push_toArray, List.append_toArray, List.nil_append, List.cons_append]
  gi_wp2_with (refine ⟨trivial, ?_⟩; gi_at_call 18; refine (way_in (n - 1) (some R) K _).mono ?_; rintro e w' ⟨rfl, rfl⟩)
  have bH := Blk.new w #[.string ⟨#[]⟩, .int .u64 0, .int .u64 0, .int .u8 0] 28
  have bL := ((Boxed.new (w.alloc (.cells #[.string ⟨#[]⟩, .int .u64 0, .int .u64 0, .int .u8 0] 28)) 51 (.pointer none)).alloc (.cells #[ndp (some R)] 51)).alloc (.cells #[.string K] 9)
  have bA := (Boxed.new ((w.alloc (.cells #[.string ⟨#[]⟩, .int .u64 0, .int .u64 0, .int .u8 0] 28)).alloc (.cells #[.pointer none] 51)) 51 (ndp (some R))).alloc (.cells #[.string K] 9)
  have bB := Boxed.new (((w.alloc (.cells #[.string ⟨#[]⟩, .int .u64 0, .int .u64 0, .int .u8 0] 28)).alloc (.cells #[.pointer none] 51)).alloc (.cells #[ndp (some R)] 51)) 9 (.string K)
  simp only [World.size_alloc] at bL bA bB
  have hw1 : (w.alloc (.cells #[.string ⟨#[]⟩, .int .u64 0, .int .u64 0, .int .u8 0] 28)).heap.size = w.heap.size + 1 := by simp
  have hB0 : Below w.heap.size w (w.alloc (.cells #[.string ⟨#[]⟩, .int .u64 0, .int .u64 0, .int .u8 0] 28)) := (Below.refl _ w).alloc (Nat.le_refl _) _
  have hB1 : Below (w.heap.size + 1) (w.alloc (.cells #[.string ⟨#[]⟩, .int .u64 0, .int .u64 0, .int .u8 0] 28)) ((((w.alloc (.cells #[.string ⟨#[]⟩, .int .u64 0, .int .u64 0, .int .u8 0] 28)).alloc (.cells #[.pointer none] 51)).alloc (.cells #[ndp (some R)] 51)).alloc (.cells #[.string K] 9)) := (((Below.refl _ _).alloc (by simp) _).alloc (by simp) _).alloc (by simp) _
  have hsz : ((((w.alloc (.cells #[.string ⟨#[]⟩, .int .u64 0, .int .u64 0, .int .u8 0] 28)).alloc (.cells #[.pointer none] 51)).alloc (.cells #[ndp (some R)] 51)).alloc (.cells #[.string K] 9)).heap.size = w.heap.size + 4 := by simp
  obtain ⟨W0, hW0⟩ : ∃ W0, ((((w.alloc (.cells #[.string ⟨#[]⟩, .int .u64 0, .int .u64 0, .int .u8 0] 28)).alloc (.cells #[.pointer none] 51)).alloc (.cells #[ndp (some R)] 51)).alloc (.cells #[.string K] 9)) = W0 := ⟨_, rfl⟩
  rw [hW0] at bL bA bB hB1 hsz ⊢
  clear hW0
  generalize (w.alloc (.cells #[.string ⟨#[]⟩, .int .u64 0, .int .u64 0, .int .u8 0] 28)) = w1 at hw1 hB0 hB1 bH
  have hu := HL.out.under
  have L1 := HL.out.below hB0
  have L0 := L1.keep (N := w.heap.size + 1) (fun b nd hb => by have := hu b nd hb; exact ⟨by omega, fun m hm => by have := this.2 m hm; omega⟩) hB1
  have hu1 : Under F (w.heap.size + 1) := fun b nd hb => by have := hu b nd hb; exact ⟨by omega, fun m hm => by have := this.2 m hm; omega⟩
  clear c0
  refine wpIn_rangeFunc_ownF rfl h1 (gf := 22) (lb := #[.pointer (some ⟨w.heap.size + 1 + 1, 0, none⟩), .pointer (some ⟨w.heap.size + 1 + 1 + 1, 0, none⟩)]) rfl trivial (enters_of Try.func22 (by kernel_rfl) rfl)
    (way1_stops (n - 1) (by omega) (w.heap.size + 1 + 1) w.heap.size lo R K F HG.out.wood hK W0 L0 hu (by omega) bA bB) belowK_t (belowK_b (by omega)) (Below.refl _ _) (fun _ => rfl)
    (fun pre W => (W.cell? ⟨w.heap.size + 1, 0, none⟩ = some (ndp (lastR F (rawW pre))) ∧ W.frozen? ⟨w.heap.size + 1, 0, none⟩ = false) ∧ Below (w.heap.size + 1) w1 W)
    (fun c pre W => False ∧ Below (w.heap.size + 1) w1 W)
    (OwnFrom.and (Own.from (fun s A B row hs hg hr => ⟨cell_kept hs.1 hg hr, (frozen_kept hs.1 hg hr).trans hs.2⟩) _) (ownFrom_below (by omega) (by omega)))
    (fun c => OwnFrom.and (Own.from (fun s A B row hs hg hr => hs) _) (ownFrom_below (by omega) (by omega)))
    ⟨⟨bL.cell, bL.frozen⟩, hB1⟩
    (fun x => { tmps := #[.pointer (some ⟨t, 0, none⟩), .string K, undef, undef, .pointer (some ⟨w.heap.size, 0, none⟩), .bool false, .pointer (some ⟨w.heap.size + 1, 0, none⟩), .pointer (some ⟨x.1.1, 0, none⟩), .pointer (some ⟨t, 0, none⟩), .bool false, undef, .pointer (some ⟨t, 0, none⟩), .pointer (some ⟨t, 0, none⟩), .pointer (some ⟨t, 0, none⟩), .pointer (some ⟨R, 0, none⟩), .string K, .func (.func 22) #[] #[.pointer (some ⟨w.heap.size + 1 + 1, 0, none⟩), .pointer (some ⟨w.heap.size + 1 + 1 + 1, 0, none⟩)], .pointer (some ⟨x.1.1, 0, none⟩), .string x.1.2, undef, undef, undef, undef, undef, undef, undef, undef, undef, undef, undef, undef, undef], defers := [] }) ?assign ?body ?done ?stop
  case assign =>
    intro l x W K hK
    gi_wp2
    exact hK
  case body =>
    rintro l pre x W ⟨⟨hc, hf⟩, hB⟩ hlen
    obtain ⟨nd, hx⟩ := x.2
    have c6 := ((L1.keep hu1 hB).nc hx).c6
    have hh : hasF F x.1.1 = nd.rule.isSome := by unfold hasF; rw [hx]
    have HN : Hid (lastR F (rawW (pre ++ [x])) = if nd.rule.isSome then some x.1.1 else lastR F (rawW pre)) := Lib.hid (by
      have := last_snoc F (rawW pre) x.1
      rw [hh] at this
      rw [← this]; simp [rawW])
    clear hh hx
    generalize nd.rule.isSome = q at *
    cases q
    · gi_wp2
      exact ⟨KeepsOthers.refl _, Below.refl _ _, ⟨by rw [HN.out]; exact hc, hf⟩, hB⟩
    · gi_wp2
      refine ⟨KeepsOthers.setCell _ _ _, (Below.refl _ _).setCell (p := ⟨w.heap.size + 1, 0, none⟩) (Nat.le_succ _) _, ⟨?_, by rw [World.frozen?_setCell]; exact hf⟩, hB.setCell (p := ⟨w.heap.size + 1, 0, none⟩) (Nat.le_refl _) _⟩
      rw [HN.out]
      exact World.cell?_setCell_same' _ _ _ (by rw [hc]; rfl)
  case done =>
    rintro D ys W hD hw ⟨⟨hc, hf⟩, hB⟩ hK
    have LW := Lib.hid (L1.keep hu1 hB)
    have bZ := Lib.hid (bH.under hB (Nat.lt_succ_self _))
    have z0 := bZ.out.cell 0
    have z1 := bZ.out.cell 1
    have z2 := bZ.out.cell 2
    have z3 := bZ.out.cell 3
    have f0 := bZ.out.fz 0
    have f1 := bZ.out.fz 1
    have f2 := bZ.out.fz 2
    have f3 := bZ.out.fz 3
    simp at z0 z1 z2 z3
    have HB := Lib.hid hB
    have HB0 := Lib.hid hB0
    have HK := Lib.hid hK
    have hDH : D ≠ w.heap.size := by omega
    rcases HG.out.find hw with ⟨e1, e2⟩ | ⟨b, nd, r, e1, e2, e3, e4⟩
    · rw [e1] at hc
      have E := Lib.hid e2
      replace hc : W.cell? ⟨w.heap.size + 1, 0, none⟩ = some (.pointer none) := hc
      clear e1 e2 bH bL bA bB HL L1 L0 hB1 hB0 hB hw hK hu hu1 HG
      gi_wp2
      obtain ⟨y1, y2⟩ := four_sets (x := rl0) (N := w.heap.size) (u := w) bZ.out HK.out hDH (Nat.le_refl _) (by omega) (HB0.out.trans (HB.out.mono (Nat.le_succ _)))
      refine ⟨by simp, .inl ⟨_, _, rfl, run_takeDeferred y1, ?_⟩⟩
      obtain ⟨y3, y4⟩ := y2 (.deferred none)
      have q0 := y3.cell 0
      have q1 := y3.cell 1
      have q2 := y3.cell 2
      have q3 := y3.cell 3
      simp at q0 q1 q2 q3
      refine ⟨.tuple #[rl0.v, .bool false], ?_, by rw [E.out]; rfl, y4⟩
      simp [results, Try.f13, go_sem, q0, q1, q2, q3]
    · rw [e1] at hc
      have E := Lib.hid e4
      replace hc : W.cell? ⟨w.heap.size + 1, 0, none⟩ = some (.pointer (some ⟨b, 0, none⟩)) := hc
      have hn := (LW.out.nc e2)
      have hok := (LW.out.small b nd e2).2
      have hr0 : rlOf nd = r := by unfold rlOf; rw [e3]; rfl
      rw [hr0] at hok
      obtain ⟨r0, r1, r2, r3⟩ := hn.c2
      rw [hr0] at r0 r1 r2 r3
      have C := Lib.hid (fun V => own_any r V hok)
      clear e1 e2 e3 e4 bH bL bA bB HL L1 L0 hB1 hB0 hB hw hK hu hu1 HG hn hok hr0 LW
      gi_wp2_with (refine ⟨trivial, ?_⟩; gi_at_call 19; refine (callsIn_wide.2 (C.out _)).mono ?_; rintro e w5 ⟨rfl, g5⟩; refine stopHere ?_)
      unfold Stop
      have bY := Lib.hid (bZ.out.below g5)
      have HK5 := Lib.hid ((g5.block D (heap_lt HK.out)).trans HK.out)
      have HB5 := Lib.hid ((HB0.out.trans (HB.out.mono (Nat.le_succ _))).trans (g5.mono (Nat.le_trans (Nat.le_of_lt bZ.out.lt) (Nat.le_refl _))))
      clear z0 z1 z2 z3 f0 f1 f2 f3 hc hf g5
      have z0 := bY.out.cell 0
      have z1 := bY.out.cell 1
      have z2 := bY.out.cell 2
      have z3 := bY.out.cell 3
      have f0 := bY.out.fz 0
      have f1 := bY.out.fz 1
      have f2 := bY.out.fz 2
      have f3 := bY.out.fz 3
      simp at z0 z1 z2 z3
      gi_wp2
      obtain ⟨y1, y2⟩ := four_sets (x := r) (N := w.heap.size) (u := w) bY.out HK5.out hDH (Nat.le_refl _) (by omega) HB5.out
      refine ⟨by simp, .inl ⟨_, _, rfl, run_takeDeferred y1, ?_⟩⟩
      obtain ⟨y3, y4⟩ := y2 (.deferred none)
      have q0 := y3.cell 0
      have q1 := y3.cell 1
      have q2 := y3.cell 2
      have q3 := y3.cell 3
      simp at q0 q1 q2 q3
      refine ⟨.tuple #[r.v, .bool true], ?_, by rw [E.out]; rfl, y4⟩
      simp [results, Try.f13, go_sem, q0, q1, q2, q3]
  case stop =>
    rintro D c pre W hD hpre ⟨h, _⟩ hK
    exact h.elim
theorem find_any (t : Nat) (K : ByteArray) (rs : List Rl) (w : World) (hK : K.size ≤ 281474976710656) (hT : TreeAt w t rs) :
    Calls Try.prog 13 #[.pointer (some ⟨t, 0, none⟩), .string K] w fun e w' => (e = .returned (.tuple #[((findR rs K).getD rl0).v, .bool (findR rs K).isSome])) ∧ Below w.heap.size w w' := by
  obtain ⟨F, R, lo, h1, h2, h3⟩ := hT
  exact callsIn_wide.1 (find_in 6 (Nat.le_refl _) t lo R _ K rs F w hK h1 h2 h3)
end Go.Proofs.Ytekpmepcacbloaa.Wd
