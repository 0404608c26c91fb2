/- What (*Tree).add and prefix.New do; no conditions but those that each names. -/
import Derived.Test.YtekpmepcacbloaaPreD
namespace Go.Proofs.Ytekpmepcacbloaa.Wd
open Go Go.RowKit Go.Shelf
set_option linter.unusedVariables false
set_option maxRecDepth 100000

/-- One rule more. -/
def one1 (rs : List Rl) (r : Rl) : Nat := if (fstR rs (lb r.p)).isNone then 1 else 0
set_option maxHeartbeats 2000000 in
theorem add_any (t : Nat) (lo : Nat → Prop) (R : Nat) (c : Int) (r : Rl) (rs : List Rl) (F : Nat → Option Nd) (w : World) (hr : Okr r) (hc : 0 ≤ c ∧ c + 1 ≤ 9223372036854775807) (hT : Blk w t #[ndp (some R), .int .i64 c] 56) (hL : Lies w F lo) (hG : Grove F R rs) (hlo : Fr lo w.heap.size) (hlt : lo t) :
    Calls Try.prog 17 #[.pointer (some ⟨t, 0, none⟩), r.v] w fun e w' => (∃ v, e = .returned v) ∧ ∃ G, Hid (Blk w' t #[ndp (some R), .int .i64 (c + one1 rs r)] 56 ∧ Lies w' G lo ∧ Grove G R (rs ++ [r])) ∧ Tch lo w w' := by
  have htl := hT.lt
  have C := Lib.hid (fun V => own_any r V hr)
  have HT := Lib.hid hT
  have HL := Lib.hid hL
  have HG := Lib.hid hG
  have HLO := Lib.hid hlo
  clear hT hL hG hlo
  go_enter Try.func17, Try.ntmps17
  go_wp2_with (go_at_call 19; refine (C.out _).mono ?_; rintro e w1 ⟨rfl, g1⟩; refine stopHere ?_)
  unfold Stop
  have b0 := Lib.hid ((Blk.new w #[.string r.p, .int .u64 r.e, .int .u64 r.b, .int .u8 r.k] 28).below g1)
  have k1 := Lib.hid (kbq ((Below.refl _ w).alloc (Nat.le_refl _) (.cells #[.string r.p, .int .u64 r.e, .int .u64 r.b, .int .u8 r.k] 28)) g1)
  have c0 := b0.out.cell 0
  have c1 := b0.out.cell 1
  have c2 := b0.out.cell 2
  have c3 := b0.out.cell 3
  have f0 := b0.out.fz 0
  have f1 := b0.out.fz 1
  have f2 := b0.out.fz 2
  have f3 := b0.out.fz 3
  simp at c0 c1 c2 c3
  clear g1 C
  go_wp2_with fail
  have b2 : Blk ((((w1.setCell ⟨w.heap.size, 0, none⟩ (.string r.p)).setCell ⟨w.heap.size, 1, none⟩ (.int .u64 r.e)).setCell ⟨w.heap.size, 2, none⟩ (.int .u64 r.b)).setCell ⟨w.heap.size, 3, none⟩ (.int .u8 r.k)) w.heap.size #[.string r.p, .int .u64 r.e, .int .u64 r.b, .int .u8 r.k] 28 := (((b0.out.set 0 (.string r.p)).set 1 (.int .u64 r.e)).set 2 (.int .u64 r.b)).set 3 (.int .u8 r.k)
  have k2 : Below w.heap.size w ((((w1.setCell ⟨w.heap.size, 0, none⟩ (.string r.p)).setCell ⟨w.heap.size, 1, none⟩ (.int .u64 r.e)).setCell ⟨w.heap.size, 2, none⟩ (.int .u64 r.b)).setCell ⟨w.heap.size, 3, none⟩ (.int .u8 r.k)) := (((k1.out.setCell (p := ⟨w.heap.size, 0, none⟩) (Nat.le_refl _) _).setCell (p := ⟨w.heap.size, 1, none⟩) (Nat.le_refl _) _).setCell (p := ⟨w.heap.size, 2, none⟩) (Nat.le_refl _) _).setCell (p := ⟨w.heap.size, 3, none⟩) (Nat.le_refl _) _
  generalize ((((w1.setCell ⟨w.heap.size, 0, none⟩ (.string r.p)).setCell ⟨w.heap.size, 1, none⟩ (.int .u64 r.e)).setCell ⟨w.heap.size, 2, none⟩ (.int .u64 r.b)).setCell ⟨w.heap.size, 3, none⟩ (.int .u8 r.k)) = W at *
  have B2 := Lib.hid b2
  have K2 := Lib.hid k2
  have LW := Lib.hid (HL.out.below K2.out)
  have TW := Lib.hid (HT.out.under K2.out htl)
  have hXt : t ≠ w.heap.size := Nat.ne_of_lt htl
  clear c0 c1 c2 c3 f0 f1 f2 f3 b0 k1 b2 k2
  go_at_call 21
  refine (callsIn_wide.1 (reach_in 6 (Nat.le_refl _) t (ownB F W.heap.size) R c r.p F W hr.p TW.out (LW.out.own _) HG.out.wood (fun k hk => .inr hk))).mono ?_
  rintro e3 w3 ⟨G, b, rfl, g3, t3⟩
  obtain ⟨a1, a2, a3, nd, a5, a6⟩ := g3.out
  have hown : ∀ k, ownB F W.heap.size k → lo k := fun k hk => by
    rcases hk with ⟨b, nd, hb, rfl | hm⟩ | hk
    · exact (LW.out.low _ nd hb).1
    · exact (LW.out.low b nd hb).2 k hm
    · exact HLO.out k (Nat.le_trans K2.out.size hk)
  have T3 := Lib.hid (t3.blk TW.out (LW.out.notOwn TW.out (fun _ h => by cases h) (fun _ _ h => by cases h)))
  have X3 := Lib.hid (t3.blk B2.out (LW.out.notOwn B2.out (fun _ h => by cases h) (fun _ _ h => by cases h)))
  have L3 := Lib.hid (a1.kind (Q := lo) (fun x y hx => ⟨hown _ (a1.low x y hx).1, fun m hm => hown _ ((a1.low x y hx).2 m hm)⟩))
  have G3 := Lib.hid (HG.out.ext a2 a3)
  have t3' := Lib.hid ((Tch.of (S := lo) K2.out).trans (t3.mono (fun k _ hk => hown k hk)))
  have N3 := Lib.hid (And.intro a5 a6)
  have BK := Lib.hid (show Blk w3 b (cellsN nd) _ from a1.node b nd a5)
  have c6 := (nc_of BK.out).c6
  have hbt : b ≠ t := fun g => by
    have h1 := BK.out
    rw [g] at h1
    have := (show w3.heap[t]? = _ from h1).symm.trans T3.out
    cases this
  have hrl := Lib.hid (G3.out.rule b nd a5)
  clear g3 t3 a1 a2 a3 a5 a6 hown
  cases hq : nd.rule with
  | some r0 =>
    rw [hq] at c6
    simp only [Option.isSome_some] at c6
    have HQ := Lib.hid hq
    clear hq
    go_wp2
    refine bodyPost_ret (results_none rfl _ _ _) rfl ?_
    refine ⟨⟨_, rfl⟩, G, Lib.hid ⟨?_, L3.out, G3.out.not N3.out.1 N3.out.2 HQ.out⟩, t3'.out⟩
    have : one1 rs r = 0 := by
      unfold one1
      rw [← N3.out.2, ← hrl.out, HQ.out]; rfl
    rw [this]
    simpa using T3.out
  | none =>
    rw [hq] at c6
    simp only [Option.isSome_none] at c6
    have HQ := Lib.hid hq
    have hw1 : IntKind.i64.wrap (c + 1) = c + 1 := by rw [IntKind.wrap_i64]; omega
    have n2 := BK.out.cell 2
    have n3 := BK.out.cell 3
    have n4 := BK.out.cell 4
    have n5 := BK.out.cell 5
    have f2 := BK.out.fz 2
    have f3 := BK.out.fz 3
    have f4 := BK.out.fz 4
    have f5 := BK.out.fz 5
    have f6 := BK.out.fz 6
    have x0 := X3.out.cell 0
    have x1 := X3.out.cell 1
    have x2 := X3.out.cell 2
    have x3 := X3.out.cell 3
    have y1 := T3.out.cell 1
    have g1 := T3.out.fz 1
    simp [cellsN] at n2 n3 n4 n5 x0 x1 x2 x3 y1
    have hXb : b ≠ w.heap.size := fun g => by
      have h1 := BK.out
      rw [g] at h1
      have h2 := (show w3.heap[w.heap.size]? = _ from h1).symm.trans X3.out
      have h3 := congrArg (fun o : Option Obj => match o with | some (.cells _ ty _) => ty | _ => 0) h2
      exact absurd (show (54 : Nat) = 28 from h3) (by decide)
    clear hq
    go_wp2
    refine bodyPost_end (results_none rfl _ _ _) rfl ?_
    have Bb := ((((BK.out.set 2 (.string r.p)).set 3 (.int .u64 r.e)).set 4 (.int .u64 r.b)).set 5 (.int .u8 r.k)).set 6 (.bool true)
    have Bt := ((((T3.out.other (c := b) 2 (.string r.p) (Ne.symm hbt)).other (c := b) 3 (.int .u64 r.e) (Ne.symm hbt)).other (c := b) 4 (.int .u64 r.b) (Ne.symm hbt)).other (c := b) 5 (.int .u8 r.k) (Ne.symm hbt)).other (c := b) 6 (.bool true) (Ne.symm hbt)
    have tb : Tch (fun k => k = b) w3 (((((w3.setCell ⟨b, 2, none⟩ (.string r.p)).setCell ⟨b, 3, none⟩ (.int .u64 r.e)).setCell ⟨b, 4, none⟩ (.int .u64 r.b)).setCell ⟨b, 5, none⟩ (.int .u8 r.k)).setCell ⟨b, 6, none⟩ (.bool true)) :=
      ((((Tch.set (S := fun k => k = b) w3 b 2 (.string r.p) rfl).trans (Tch.set (S := fun k => k = b) _ b 3 (.int .u64 r.e) rfl)).trans (Tch.set (S := fun k => k = b) _ b 4 (.int .u64 r.b) rfl)).trans (Tch.set (S := fun k => k = b) _ b 5 (.int .u8 r.k) rfl)).trans (Tch.set (S := fun k => k = b) _ b 6 (.bool true) rfl)
    have ln : Lies (((((w3.setCell ⟨b, 2, none⟩ (.string r.p)).setCell ⟨b, 3, none⟩ (.int .u64 r.e)).setCell ⟨b, 4, none⟩ (.int .u64 r.b)).setCell ⟨b, 5, none⟩ (.int .u8 r.k)).setCell ⟨b, 6, none⟩ (.bool true)) (upd G b { nd with rule := some r }) lo :=
      L3.out.store N3.out.1 rfl rfl Bb tb ⟨(L3.out.small b nd N3.out.1).1, hr⟩
    have lob : lo b := (L3.out.low b nd N3.out.1).1
    generalize (((((w3.setCell ⟨b, 2, none⟩ (.string r.p)).setCell ⟨b, 3, none⟩ (.int .u64 r.e)).setCell ⟨b, 4, none⟩ (.int .u64 r.b)).setCell ⟨b, 5, none⟩ (.int .u8 r.k)).setCell ⟨b, 6, none⟩ (.bool true)) = W6 at *
    have h1 : one1 rs r = 1 := by
      unfold one1
      rw [← N3.out.2, ← hrl.out, HQ.out]; rfl
    have e1 : Blk (W6.setCell ⟨t, 1, none⟩ (.int .i64 (c + 1))) t #[ndp (some R), .int .i64 (c + 1)] 56 := Bt.set 1 (.int .i64 (c + 1))
    refine ⟨⟨_, rfl⟩, upd G b { nd with rule := some r }, Lib.hid ⟨?_, ?_, G3.out.add N3.out.1 N3.out.2 HQ.out⟩, (t3'.out.trans (tb.mono (fun k _ e => by rw [e]; exact lob))).trans (Tch.set W6 t 1 _ hlt)⟩
    · rw [h1]; exact e1
    · refine ⟨fun x y hx => ?_, fun x y m hx hm => ?_, ln.bare, ln.apart, ln.low, ln.small⟩
      · refine (Below.heap_setCell _ _ _ _ (fun g => ?_)).trans (ln.node x y hx)
        have h2 := ln.node x y hx
        rw [g] at h2
        have h3 := congrArg (fun o : Option Obj => match o with | some (.cells _ ty _) => ty | _ => 0) (h2.symm.trans (show W6.heap[t]? = _ from Bt))
        exact absurd (show (54 : Nat) = 56 from h3) (by decide)
      · refine (Below.heap_setCell _ _ _ _ (fun g => ?_)).trans (ln.map x y m hx hm)
        have h2 := ln.map x y m hx hm
        rw [g, show W6.heap[t]? = _ from Bt] at h2
        cases h2

theorem take_succ (rs : List Rl) (k : Nat) (h : k < rs.length) : rs.take (k + 1) = rs.take k ++ [fnOf rs k] := by rw [fn_at h, List.take_succ_eq_append_getElem h]
set_option maxHeartbeats 2000000 in
theorem new_any (A : Option Addr) (n cap : Nat) (rs : List Rl) (w : World) (h : Rls w A n rs) (hn : n ≤ 9223372036854775806) :
    Calls Try.prog 12 #[.slice A n cap] w fun e w' => ∃ t, e = .returned (.pointer (some ⟨t, 0, none⟩)) ∧ Hid (TreeAt w' t rs) ∧ Below w.heap.size w w' := by
  have H := Lib.hid h
  have hl := Lib.hid h.1
  clear h
  go_enter Try.func12, Try.ntmps12
  go_wp2
  have b0 := (Blk.new w #[.string ⟨#[]⟩, .map none, .string ⟨#[]⟩, .int .u64 0, .int .u64 0, .int .u8 0, .bool false] 54).alloc (.cells #[.pointer (some ⟨w.heap.size, 0, none⟩), .int .i64 0] 56)
  have b1 := Blk.new (w.alloc (.cells #[.string ⟨#[]⟩, .map none, .string ⟨#[]⟩, .int .u64 0, .int .u64 0, .int .u8 0, .bool false] 54)) #[.pointer (some ⟨w.heap.size, 0, none⟩), .int .i64 0] 56
  rw [World.size_alloc] at b1
  have k0 := ((Below.refl _ w).alloc (Nat.le_refl _) (.cells #[.string ⟨#[]⟩, .map none, .string ⟨#[]⟩, .int .u64 0, .int .u64 0, .int .u8 0, .bool false] 54)).alloc (by simp) (.cells #[.pointer (some ⟨w.heap.size, 0, none⟩), .int .i64 0] 56)
  generalize (w.alloc (.cells #[.string ⟨#[]⟩, .map none, .string ⟨#[]⟩, .int .u64 0, .int .u64 0, .int .u8 0, .bool false] 54)).alloc (.cells #[.pointer (some ⟨w.heap.size, 0, none⟩), .int .i64 0] 56) = W0 at *
  have L0 : Lies W0 (upd (fun _ => none) w.heap.size ⟨[], ⟨#[]⟩, none, [], none⟩) (fun k => w.heap.size ≤ k) := by
    have bw : ∀ x nx, upd (fun _ => none) w.heap.size (⟨[], ⟨#[]⟩, none, [], none⟩ : Nd) x = some nx → x = w.heap.size ∧ nx = ⟨[], ⟨#[]⟩, none, [], none⟩ := fun x nx h => by
      by_cases e : x = w.heap.size
      · subst e; rw [upd_same] at h; cases h; exact ⟨rfl, rfl⟩
      · rw [upd_other _ _ e] at h; cases h
    refine ⟨fun x y hx => ?_, fun x y m hx hm => ?_, fun x y hx hm => ?_, fun x y c z m hx hz hm _ => ?_, fun x y hx => ?_, fun x y hx => ?_⟩
    · obtain ⟨rfl, rfl⟩ := bw x y hx; exact b0
    · obtain ⟨rfl, rfl⟩ := bw x y hx; cases hm
    · obtain ⟨rfl, rfl⟩ := bw x y hx; rfl
    · obtain ⟨rfl, rfl⟩ := bw x y hx; cases hm
    · obtain ⟨rfl, rfl⟩ := bw x y hx; exact ⟨Nat.le_refl _, fun m hm => by cases hm⟩
    · obtain ⟨rfl, rfl⟩ := bw x y hx; exact ⟨Nat.zero_le _, okr0⟩
  have ST := Lib.hid (And.intro (show Blk W0 (w.heap.size + 1) #[ndp (some w.heap.size), .int .i64 ((cntT rs 0 : Nat) : Int)] 56 from b1) (And.intro L0 (show Grove _ w.heap.size (rs.take 0) from grove_new w.heap.size)))
  clear b0 b1 L0
  go_loopw [12] (fun i wr => ∃ (k : Nat) (F : Nat → Option Nd), i = .int .i64 (k : Int) ∧ k ≤ n ∧ Hid (Blk wr (w.heap.size + 1) #[ndp (some w.heap.size), .int .i64 ((cntT rs k : Nat) : Int)] 56 ∧ Lies wr F (fun j => w.heap.size ≤ j) ∧ Grove F w.heap.size (rs.take k)) ∧ Below w.heap.size w wr) (fun i _ => n - (intOf i).toNat)
  case atStart => exact ⟨0, _, rfl, Nat.zero_le _, ST, k0⟩
  case round =>
    obtain ⟨k, F, rfl, hk, HS, hB⟩ := hrel
    by_cases hlt : k < n
    · obtain ⟨b, off, rfl, hb, hc⟩ := (H.out.below hB).2.2 (by omega)
      obtain ⟨r0, r1, r2, r3⟩ := hc k hlt
      have hok := H.out.ok k
      have hcl := cnt_le rs k
      have HB := Lib.hid hB
      clear hc
      have hrw : Hid ((fnOf rs k) = fnOf rs k) := Lib.hid rfl
      obtain ⟨r, hr⟩ : ∃ r, r = fnOf rs k := ⟨_, rfl⟩
      rw [← hr] at r0 r1 r2 r3 hok
      have HR := Lib.hid hr
      clear hr hrw hB
      go_wp2_with fail
      have ka := (Below.refl _ wr).alloc (Nat.le_refl _) (.cells #[.string r.p, .int .u64 r.e, .int .u64 r.b, .int .u8 r.k] 28)
      have hB1 := HB.out.trans (ka.mono HB.out.size)
      generalize (wr.alloc (.cells #[.string r.p, .int .u64 r.e, .int .u64 r.b, .int .u8 r.k] 28)) = W1 at *
      have HKA := Lib.hid ka
      have HB1 := Lib.hid hB1
      have hw1 : IntKind.i64.wrap ((k : Int) + 1) = (k : Int) + 1 := by rw [IntKind.wrap_i64]; omega
      clear ka hB1 r0 r1 r2 r3
      go_at_call 17
      refine (add_any (w.heap.size + 1) (fun j => w.heap.size ≤ j) w.heap.size _ r (rs.take k) F W1 hok (by omega) (HS.out.1.below HKA.out) (HS.out.2.1.below HKA.out) HS.out.2.2 (fun j hj => Nat.le_trans HB1.out.size hj) (Nat.le_succ _)).mono ?_
      rintro e w2 ⟨⟨v, rfl⟩, G, g2, t2⟩
      have S2 : Hid (Blk w2 (w.heap.size + 1) #[ndp (some w.heap.size), .int .i64 ((cntT rs (k + 1) : Nat) : Int)] 56 ∧ Lies w2 G (fun j => w.heap.size ≤ j) ∧ Grove G w.heap.size (rs.take (k + 1))) := Lib.hid (by
        obtain ⟨p1, p2, p3⟩ := g2.out
        refine ⟨?_, p2, ?_⟩
        · have : ((cntT rs (k + 1) : Nat) : Int) = ((cntT rs k : Nat) : Int) + (one1 (rs.take k) r : Nat) := by
            rw [cntT, Int.natCast_add, HR.out]; rfl
          rw [this]; exact p1
        · rw [take_succ rs k (by rw [hl.out]; exact hlt), ← HR.out]; exact p3)
      have B2 := Lib.hid (HB1.out.trans (t2.below HB1.out.size (fun j hj => hj)))
      clear g2 t2
      go_wp2
      go_roundw
      case rel => exact ⟨k + 1, G, rfl, hlt, S2, B2.out⟩
      case measure => simp [intOf]; omega
    · obtain rfl : k = n := by omega
      go_wp2
      go_ret
      refine ⟨w.heap.size + 1, rfl, Lib.hid ⟨F, w.heap.size, _, ?_, HS.out.2.1, ?_⟩, hB⟩
      · rw [hl.out]; exact HS.out.1
      · have := HS.out.2.2
        rwa [List.take_of_length_le (by rw [hl.out]; exact Nat.le_refl _)] at this
end Go.Proofs.Ytekpmepcacbloaa.Wd
