/- TableMoves answers true, for any deeds; no conditions. -/
import Derived.Test.YtkfncanfgpmgaaaGreatTabTb
import Derived.Test.YtkfncanfgpmgaaaGreatTabY
import Derived.Deep.LoopGhost
import Derived.Deep.CutRange
import Derived.Deep.CutBlock
namespace Go.Proofs.YtkfncanfgpmgaaaGreat.Wd
open Go Go.RowKit Go.Shelf Go.Deep
set_option linter.unusedVariables false
set_option maxRecDepth 100000

/-- Two tables that share no block, nor have any of those from a to b. -/
def PrX (w : World) (n0 a b T Y : Nat) (m1 c1 : Int) (S1 : List Sl) (m2 c2 : Int) (S2 : List Sl) : Prop :=
  n0 ≤ w.heap.size ∧ b ≤ w.heap.size ∧ ∃ B1 B2 : Nat → Prop, Tbl w T B1 m1 c1 S1 ∧ Tbl w Y B2 m2 c2 S2 ∧ (∀ k, B1 k → ¬ B2 k) ∧ (∀ k, B1 k → (n0 ≤ k ∧ k < w.heap.size) ∧ ¬ (a ≤ k ∧ k < b)) ∧ ∀ k, B2 k → (n0 ≤ k ∧ k < w.heap.size) ∧ ¬ (a ≤ k ∧ k < b)
section
variable {w w' : World} {n0 a b T Y : Nat} {m1 c1 m2 c2 : Int} {S1 S2 : List Sl}
theorem Pr.x (h : Pr w n0 T Y m1 c1 S1 m2 c2 S2) (g : Below w.heap.size w w') : PrX w' n0 w.heap.size w'.heap.size T Y m1 c1 S1 m2 c2 S2 := by
  obtain ⟨h0, B1, B2, h1, h2, h3, h4, h5⟩ := h
  have hs := g.size
  exact ⟨Nat.le_trans h0 hs, Nat.le_refl _, B1, B2, h1.below g, h2.below g, h3, fun k x => ⟨⟨(h4 k x).1, by have := (h4 k x).2; omega⟩, fun y => by have := (h4 k x).2; omega⟩, fun k x => ⟨⟨(h5 k x).1, by have := (h5 k x).2; omega⟩, fun y => by have := (h5 k x).2; omega⟩⟩
theorem PrX.pr (h : PrX w n0 a b T Y m1 c1 S1 m2 c2 S2) : Pr w n0 T Y m1 c1 S1 m2 c2 S2 := by
  obtain ⟨h0, _, B1, B2, h1, h2, h3, h4, h5⟩ := h
  exact ⟨h0, B1, B2, h1, h2, h3, fun k x => (h4 k x).1, fun k x => (h5 k x).1⟩
theorem PrX.swap (h : PrX w n0 a b T Y m1 c1 S1 m2 c2 S2) : PrX w n0 a b Y T m2 c2 S2 m1 c1 S1 := by
  obtain ⟨h0, hb, B1, B2, h1, h2, h3, h4, h5⟩ := h
  exact ⟨h0, hb, B2, B1, h2, h1, fun k a b => h3 k b a, h5, h4⟩
theorem PrX.lo (h : PrX w n0 a b T Y m1 c1 S1 m2 c2 S2) : n0 ≤ w.heap.size := h.1
theorem PrX.below (h : PrX w n0 a b T Y m1 c1 S1 m2 c2 S2) (g : Below w.heap.size w w') : PrX w' n0 a b T Y m1 c1 S1 m2 c2 S2 := by
  obtain ⟨h0, hb, B1, B2, h1, h2, h3, h4, h5⟩ := h
  have hs := g.size
  exact ⟨Nat.le_trans h0 hs, Nat.le_trans hb hs, B1, B2, h1.below g, h2.below g, h3, fun k x => ⟨⟨(h4 k x).1.1, by have := (h4 k x).1.2; omega⟩, (h4 k x).2⟩, fun k x => ⟨⟨(h5 k x).1.1, by have := (h5 k x).1.2; omega⟩, (h5 k x).2⟩⟩
theorem PrX.dr (h : PrX w n0 a b T Y m1 c1 S1 m2 c2 S2) : PrX w.drew n0 a b T Y m1 c1 S1 m2 c2 S2 := h.below (Drew.lo (Drew.one w) (Nat.le_refl _))
theorem prx_turn {B1 B2 : Nat → Prop} {m c : Int} {S : List Sl} (h0 : n0 ≤ w.heap.size) (hb : b ≤ w.heap.size) (h2 : Tbl w Y B2 m2 c2 S2) (h3 : ∀ k, B1 k → ¬ B2 k) (h4 : ∀ k, B1 k → (n0 ≤ k ∧ k < w.heap.size) ∧ ¬ (a ≤ k ∧ k < b)) (h5 : ∀ k, B2 k → (n0 ≤ k ∧ k < w.heap.size) ∧ ¬ (a ≤ k ∧ k < b))
    (g : Tch B1 w w') (t : Tbl w' T (Nx B1 w) m c S) : Hid (PrX w' n0 a b T Y m c S m2 c2 S2) ∧ Tch (fun k => n0 ≤ k ∧ ¬ (a ≤ k ∧ k < b)) w w' := by
  have hs := g.size
  refine ⟨Lib.hid ⟨Nat.le_trans h0 hs, Nat.le_trans hb hs, fun k => Nx B1 w k ∧ k < w'.heap.size, B2, t.low, h2.keep (fun k hk hl => g.block k hl (fun x => h3 k x hk)), fun k x y => ?_, fun k x => ⟨⟨?_, x.2⟩, ?_⟩, fun k x => ⟨⟨(h5 k x).1.1, Nat.lt_of_lt_of_le (h5 k x).1.2 hs⟩, (h5 k x).2⟩⟩, g.mono (fun k _ hk => ⟨(h4 k hk).1.1, (h4 k hk).2⟩)⟩
  · rcases x.1 with z | z
    · exact h3 k z y
    · have := (h5 k y).1.2; have : w.heap.size ≤ k := z; omega
  · rcases x.1 with z | z
    · exact (h4 k z).1.1
    · have : w.heap.size ≤ k := z; omega
  · rcases x.1 with z | z
    · exact (h4 k z).2
    · have : w.heap.size ≤ k := z; omega
theorem PrX.charge1 (h : PrX w n0 a b T Y m1 c1 S1 m2 c2 S2) (k : ByteArray) (r : Rl) (n : Int) (hk : k.size ≤ 281474976710656) (hr : Okr r) (hnn : U n) :
    Calls Tryz.prog 18 #[ptr T, .string k, .agg #[.string r.p, .int .u64 r.e, .int .u64 r.b, .int .u8 r.k], .int .u64 n] w fun e w' => e = .returned (chA m1 c1 S1 k r n).v ∧ Hid (PrX w' n0 a b T Y m1 c1 (chN m1 c1 S1 k r n) m2 c2 S2) ∧ Tch (fun k => n0 ≤ k ∧ ¬ (a ≤ k ∧ k < b)) w w' := by
  obtain ⟨h0, hb, B1, B2, h1, h2, h3, h4, h5⟩ := h
  refine (charge_tab T B1 m1 c1 S1 k r n w h1 hk hr hnn).mono ?_
  rintro e w' ⟨rfl, g, t⟩
  exact ⟨rfl, prx_turn h0 hb h2 h3 h4 h5 g t⟩
theorem PrX.charge2 (h : PrX w n0 a b T Y m1 c1 S1 m2 c2 S2) (k : ByteArray) (r : Rl) (n : Int) (hk : k.size ≤ 281474976710656) (hr : Okr r) (hnn : U n) :
    Calls Tryz.prog 18 #[ptr Y, .string k, .agg #[.string r.p, .int .u64 r.e, .int .u64 r.b, .int .u8 r.k], .int .u64 n] w fun e w' => e = .returned (chA m2 c2 S2 k r n).v ∧ Hid (PrX w' n0 a b T Y m1 c1 S1 m2 c2 (chN m2 c2 S2 k r n)) ∧ Tch (fun k => n0 ≤ k ∧ ¬ (a ≤ k ∧ k < b)) w w' :=
  (h.swap.charge1 k r n hk hr hnn).mono (fun _ _ ⟨x, y, z⟩ => ⟨x, Lib.hid y.out.swap, z⟩)
theorem PrX.move1 (h : PrX w n0 a b T Y m1 c1 S1 m2 c2 S2) (k : ByteArray) (k2 : Int) (hk : k.size ≤ 9223372036854775807) (hh : Is3 k2) :
    Calls Tryz.prog 22 #[ptr T, .string k, .int .u8 k2] w fun e w' => e = .returned (.int .u16 (mvE S1 k)) ∧ Hid (PrX w' n0 a b T Y m1 c1 (mvN c1 k2 S1 k) m2 c2 S2) ∧ Tch (fun k => n0 ≤ k ∧ ¬ (a ≤ k ∧ k < b)) w w' := by
  obtain ⟨h0, hb, B1, B2, h1, h2, h3, h4, h5⟩ := h
  refine (move_of (some ⟨T, 0, none⟩) (fun x => x = T) B1 m1 c1 S1 k k2 w (Ent.yes h1) hk hh).mono ?_
  rintro e w' ⟨rfl, g, _, rfl, t⟩
  exact ⟨rfl, prx_turn h0 hb h2 h3 h4 h5 g t⟩
end
theorem ruE_kind {p : ByteArray} {e b k k' : Int} (h : ruE p e b k = 0) (h3 : Is3 k') : ruE p e b k' = 0 := by
  have hk : ¬ isK k' = false := by rw [h3.isK]; decide
  rw [ru_is] at h ⊢
  by_cases c1 : pfB p = false
  · rw [if_pos c1] at h; cases h
  rw [if_neg c1] at h ⊢
  by_cases c2 : ¬ 0 < e
  · rw [if_pos c2] at h; cases h
  rw [if_neg c2] at h ⊢
  by_cases c3 : ¬ 0 < b
  · rw [if_pos c3] at h; cases h
  rw [if_neg c3] at h ⊢
  by_cases c4 : ¬ sat (e * b) ≤ 4611686018427387904
  · rw [if_pos c4] at h; cases h
  rw [if_neg c4, if_neg hk]
theorem is3_or (x : Int) : Is3 x ∨ isK x = false := by
  cases h : isK x with
  | true => exact .inl (isK_yes x h)
  | false => exact .inr rfl
set_option maxHeartbeats 16000000 in
theorem moves_walk (k0 : Int) (A : Option Addr) (n cap : Nat) (ds : List Dd) (w : World) (h : Dds w A n ds) (hk : 0 ≤ k0 ∧ k0 ≤ 255) :
    Calls Tryz.prog 6 #[.int .u8 k0, .slice A n cap] w fun e w' => e = .returned (.bool true) ∧ Below w.heap.size w w' := by
  have K0 := Lib.hid known_any
  have HD := Lib.hid h
  have CH := Lib.hid (heavy_any A n cap ds w h)
  have tm5 : k0.tmod 5 = k0 % 5 := Int.tmod_eq_emod_of_nonneg hk.1
  have wm5 : IntKind.i64.wrap (1 + k0 % 5) = 1 + k0 % 5 := by rw [IntKind.wrap_i64]; omega
  have wk5 : IntKind.i64.wrap (k0 % 5) = k0 % 5 := by rw [IntKind.wrap_i64]; omega
  clear h
  go_enter Tryz.func6, Tryz.ntmps6
  go_wp2_with (go_at_call 8; refine CH.out.mono ?_; rintro e W1 ⟨v, rfl, k1⟩; refine stopHere ?_)
  unfold Stop
  by_cases hv : 500 < v
  · have hq := decide_eq_true hv
    clear CH
    go_wp2_with (go_at_call 9; refine (K0.out _).mono ?_; rintro e W2 ⟨rfl, g⟩)
    go_ret
    exact ⟨rfl, kbq k1 g⟩
  have hq := decide_eq_false hv
  clear CH
  have CN := Lib.hid (fun V => new_any (1 + k0 % 5) V)
  rw [show mostI (1 + k0 % 5) = 1 + k0 % 5 by unfold mostI; omega] at CN
  have hm1 : 1 ≤ 1 + k0 % 5 := by omega
  have hm5 : 1 + k0 % 5 ≤ 5 := by omega
  go_wp2_with (go_at_call 13; refine (CN.out _).mono ?_; rintro e W2 ⟨rfl, g2, hT2, hs2⟩; refine stopHere ?_)
  unfold Stop
  go_wp2_with (go_at_call 13; refine (CN.out _).mono ?_; rintro e W3 ⟨rfl, g3, hT3, hs3⟩; refine stopHere ?_)
  unfold Stop
  clear wm5 wk5
  generalize 1 + k0 % 5 = m at *
  obtain ⟨n0, hn0⟩ : ∃ n0, w.heap.size = n0 := ⟨_, rfl⟩
  have hk3 := Lib.hid (kbq (kbq k1 g2) g3)
  have hP0 : Hid (Pr W3 n0 (W1.heap.size + 1) (W2.heap.size + 1) m 0 [] m 0 []) := Lib.hid (by
    have s1 := k1.size
    have s2 := g2.size
    have s3 := g3.size
    refine ⟨by omega, _, _, (show Tbl W3 _ _ m 0 [] from hT2.below g3), hT3, fun k a b => ?_, fun k a => ?_, fun k a => ?_⟩
    · have := a.2; have := b.1; omega
    · exact ⟨by have := a.1; omega, by have := a.2; omega⟩
    · exact ⟨by have := a.1; omega, a.2⟩)
  generalize W1.heap.size + 1 = T at *
  generalize W2.heap.size + 1 = Y at *
  rw [hn0] at hk3
  have HN0 := Lib.hid hn0
  clear g2 hT2 hs2 g3 hT3 hs3 k1 hn0 CN
  go_wp2_with fail
  go_loopw [7] (fun i wr => ∃ (j : Nat) (c : Int) (S1 S2 : List Sl), i = .int .i64 (j : Int) ∧ (j ≤ n ∧ j ≤ 40) ∧ (0 ≤ c ∧ c ≤ 4294967295 * (j : Int)) ∧ Hid (Pr wr n0 T Y m c S1 m c S2) ∧ Hid (All2 (Twi c) S1 S2) ∧ Hid (Below n0 w wr)) (fun i _ => 40 - (intOf i).toNat)
  case atStart => exact ⟨0, 0, [], [], rfl, ⟨Nat.zero_le _, Nat.zero_le _⟩, ⟨Int.le_refl _, Int.le_refl _⟩, hP0, Lib.hid .nil, hk3⟩
  case round =>
    clear hP0 hk3
    obtain ⟨j, c, S1, S2, rfl, ⟨hjn, hj40⟩, ⟨hc0, hc8⟩, hP, HT, HB⟩ := hrel
    go_upto_region 8 with fail
    go_cut [39] from 32 to 39 (fun v wx => ∃ t : Bool, v = .bool t ∧ Hid (t = true ↔ (j < n ∧ j < 40)) ∧ Hid (wx = wr))
    case first =>
      by_cases q1 : j < n
      · have q1' : (j : Int) < (n : Int) := by omega
        by_cases q2 : j < 40
        · have q2' : (j : Int) < 40 := by omega
          go_wp2
          go_meet
          case rel => exact ⟨true, rfl, Lib.hid (by simp [q1, q2]), Lib.hid rfl⟩
        · have q2' : decide ((j : Int) < 40) = false := decide_eq_false (by omega)
          go_wp2
          go_meet
          case rel => exact ⟨false, rfl, Lib.hid (by simp [q2]), Lib.hid rfl⟩
      · have q1' : decide ((j : Int) < (n : Int)) = false := decide_eq_false (by omega)
        go_wp2
        go_meet
        case rel => exact ⟨false, rfl, Lib.hid (by simp [q1]), Lib.hid rfl⟩
    case rest =>
    obtain ⟨tt, rfl, htt, hwx⟩ := hcut
    obtain rfl := hwx.out.symm
    clear hwx
    have hsz := Lib.hid hP.out.1
    cases tt
    · clear htt HD
      go_wp2_with (go_at_call 9; refine (K0.out _).mono ?_; rintro e W4 ⟨rfl, g⟩; have HB4 := Lib.hid (HB.out.trans (g.mono hsz.out)); clear g)
      go_ret
      exact ⟨rfl, by rw [HN0.out]; exact HB4.out⟩
    · obtain ⟨hj1, hj2⟩ := htt.out.1 rfl
      clear htt
      obtain ⟨b, off, ka, kn, kc, rfl, hd0⟩ := HD.out.2.2.2 j hj1
      have hok := HD.out.ok hj1
      obtain ⟨d, hdd⟩ : ∃ d, ds.getD j dd0 = d := ⟨_, rfl⟩
      rw [hdd] at hd0 hok
      have hbw := cell_lt hd0.c0
      have HBw := Lib.hid (show Below w.heap.size w wr by rw [HN0.out]; exact HB.out)
      have hd := hd0.below HBw.out
      obtain ⟨d0, d1, d2, d3, d4, d5, d6⟩ : wr.cell? ⟨b, off + j * 7, none⟩ = some (.int .u8 d.kind) ∧ wr.cell? ⟨b, off + j * 7 + 1, none⟩ = some (.int .u32 d.wait) ∧ wr.cell? ⟨b, off + j * 7 + 2, none⟩ = some (.int .u8 d.big) ∧ wr.cell? ⟨b, off + j * 7 + 3, none⟩ = some (.slice ka kn kc) ∧ wr.cell? ⟨b, off + j * 7 + 4, none⟩ = some (.int .u8 d.rule) ∧ wr.cell? ⟨b, off + j * 7 + 5, none⟩ = some (.int .u16 d.n) ∧ wr.cell? ⟨b, off + j * 7 + 6, none⟩ = some (.int .u8 d.dest) := ⟨hd.c0, hd.c1, hd.c2, hd.c3, hd.c4, hd.c5, hd.c6⟩
      have hkind := hok.kind
      have hdw := hok.wait
      have hdn := hok.n
      have hdr := hok.rule
      have hdd2 := hok.dest
      have hdb := hok.big
      have jn : (j : Int) < (n : Int) := by omega
      have j0 : (0 : Int) ≤ (j : Int) := by omega
      have tm8 : d.kind.tmod 8 = d.kind % 8 := Int.tmod_eq_emod_of_nonneg hkind.1
      have kD := Lib.hid ((Below.refl _ wr).alloc (Nat.le_refl _) (.cells #[.int .u8 d.kind, .int .u32 d.wait, .int .u8 d.big, .slice ka kn kc, .int .u8 d.rule, .int .u16 d.n, .int .u8 d.dest] 40))
      have bD := Lib.hid (Blk.new wr #[.int .u8 d.kind, .int .u32 d.wait, .int .u8 d.big, .slice ka kn kc, .int .u8 d.rule, .int .u16 d.n, .int .u8 d.dest] 40)
      have hPD := Lib.hid (hP.out.below kD.out)
      have hXD := Lib.hid (hP.out.x kD.out)
      have HBD := Lib.hid (HB.out.trans (kD.out.mono hsz.out))
      have CN := Lib.hid (fun V (g : Below n0 w V) => name_any d ka kn kc V hkind (hd0.txt.below (by rw [HN0.out]; exact g)) hd0.few)
      have hnk := Lib.hid (nameT_ok d)
      have HB0 := HB
      clear hdd hd0 hok hd hbw HBw HB
      go_upto_block 2 with fail
      generalize wr.alloc (.cells #[.int .u8 d.kind, .int .u32 d.wait, .int .u8 d.big, .slice ka kn kc, .int .u8 d.rule, .int .u16 d.n, .int .u8 d.dest] 40) = W at *
      generalize hDB : wr.heap.size = DB at *
      go_cut [9, 10, 11] from 46 to 109 (fun _ _ _ wx => ∃ (c' : Int) (S1' S2' : List Sl), (0 ≤ c' ∧ c' ≤ 4294967295 * ((j : Int) + 1)) ∧ Hid (Pr wx n0 T Y m c' S1' m c' S2') ∧ Hid (All2 (Twi c') S1' S2') ∧ Hid (Below n0 w wx))
      case first =>
        obtain ⟨e0, e1, e2, e3, e4, e5, e6⟩ : W.cell? ⟨DB, 0, none⟩ = some (.int .u8 d.kind) ∧ W.cell? ⟨DB, 1, none⟩ = some (.int .u32 d.wait) ∧ W.cell? ⟨DB, 2, none⟩ = some (.int .u8 d.big) ∧ W.cell? ⟨DB, 3, none⟩ = some (.slice ka kn kc) ∧ W.cell? ⟨DB, 4, none⟩ = some (.int .u8 d.rule) ∧ W.cell? ⟨DB, 5, none⟩ = some (.int .u16 d.n) ∧ W.cell? ⟨DB, 6, none⟩ = some (.int .u8 d.dest) := ⟨bD.out.cell 0, bD.out.cell 1, bD.out.cell 2, bD.out.cell 3, bD.out.cell 4, bD.out.cell 5, bD.out.cell 6⟩
        have hU0 := hP.out.wf1.cu
        have HP0 := hP
        clear d0 d1 d2 d3 d4 d5 d6 hP
        by_cases z0 : d.kind % 8 = 0
        · have y0 : (d.kind % 8 == 0) = true := by simpa using z0
          clear z0
          have HC := Lib.hid (fun i => clock_yes T c (W.drewN i) (show (W.drewN i).cell? ⟨T, 1, none⟩ = _ from hPD.out.clock1))
          have tm32 : d.big.tmod 32 = d.big % 32 := Int.tmod_eq_emod_of_nonneg hdb.1
          have wx32 : IntKind.u64.wrap (d.big % 32) = d.big % 32 := by rw [IntKind.wrap_u64]; omega
          obtain ⟨sh, hsh, hs0, hs1⟩ : ∃ sh, d.wait / 2 ^ (d.big % 32).toNat = sh ∧ 0 ≤ sh ∧ sh ≤ 4294967295 := ⟨_, rfl, Int.ediv_nonneg hdw.1 (Int.le_of_lt (Int.pow_pos (by decide))), Int.le_trans (Int.ediv_le_self _ hdw.1) hdw.2⟩
          have wsh : IntKind.u64.wrap sh = sh := by rw [IntKind.wrap_u64]; omega
          have wat : IntKind.u64.wrap (c + sh) = c + sh := by rw [IntKind.wrap_u64]; omega
          have hU : U (c + sh) := by unfold U; omega
          go_wp2_with fail
          go_quiet ((go_at_call 21; exact still_call (HC.out _)))
          have hP1 := Lib.hid (hPD.out.below (Drew.lo (Drew.of W nq) (Nat.le_refl _)))
          have HB1 := Lib.hid (HBD.out.trans (Drew.lo (Drew.of W nq) hPD.out.1))
          have C1 := Lib.hid (hP1.out.tick1 (c + sh) hU)
          rw [show max c (c + sh) = c + sh by omega] at C1
          clear HC
          go_wp2_with (go_at_call 20; (with_reducible refine C1.out.mono ?_); rintro e W5 ⟨rfl, hP2, g5⟩; refine stopHere ?_)
          unfold Stop
          have C2 := Lib.hid (hP2.out.tick2 (c + sh) hU)
          rw [show max c (c + sh) = c + sh by omega] at C2
          have HB2 := Lib.hid (HB1.out.trans (g5.lo (n := n0) (fun k h => h) hP1.out.1))
          clear C1 g5 hP1 HB1
          go_wp2_with (go_at_call 20; (with_reducible refine C2.out.mono ?_); rintro e W6 ⟨rfl, hP3, g6⟩; refine stopHere ?_)
          unfold Stop
          have HB3 := Lib.hid (HB2.out.trans (g6.lo (n := n0) (fun k h => h) hP2.out.1))
          clear C2 g6 hP2 HB2 hsh wsh wat
          go_wp2
          go_meet
          case rel => exact ⟨c + sh, _, _, ⟨by omega, by omega⟩, hP3, Lib.hid (HT.out.tick (by omega) hU), HB3⟩
        have y0 : (d.kind % 8 == 0) = false := by simpa using z0
        clear z0
        by_cases z1 : d.kind % 8 = 1
        · have y1 : (d.kind % 8 == 1) = true := by simpa using z1
          clear z1
          have tm5d : d.dest.tmod 5 = d.dest % 5 := Int.tmod_eq_emod_of_nonneg hdd2.1
          have hnm := hnk.out.1
          have nbD : ¬ (n0 ≤ DB ∧ ¬ (DB ≤ DB ∧ DB < W.heap.size)) := fun x => x.2 ⟨Nat.le_refl _, bD.out.lt⟩
          have HB := HBD
          have hP := hXD
          clear hPD HBD hXD bD kD
          generalize nameT d = nm at *
          generalize hkk : d.dest % 5 = kk at *
          go_wp2_with fail
          rcases is3_or kk with h3 | h3
          · have CM := Lib.hid (fun V (g : PrX V n0 DB W.heap.size T Y m c S1 m c S2) => g.move1 nm kk (by omega) h3)
            obtain ⟨S3, hp3, ht3⟩ := twi_move (k := nm) HT.out hP.out.pr.wf1 hP.out.pr.wf2 h3 (by omega)
            have HP3 := Lib.hid hp3
            have HT3 := Lib.hid ht3
            clear hp3 ht3
            go_region_held3 (fun w' => w'.cell? ⟨DB, 0, none⟩ = some (.int .u8 d.kind) ∧ w'.cell? ⟨DB, 1, none⟩ = some (.int .u32 d.wait) ∧ w'.cell? ⟨DB, 2, none⟩ = some (.int .u8 d.big) ∧ w'.cell? ⟨DB, 3, none⟩ = some (.slice ka kn kc) ∧ w'.cell? ⟨DB, 4, none⟩ = some (.int .u8 d.rule) ∧ w'.cell? ⟨DB, 5, none⟩ = some (.int .u16 d.n) ∧ w'.cell? ⟨DB, 6, none⟩ = some (.int .u8 d.dest))
              (first | with_reducible exact ⟨e0, e1, e2, e3, e4, e5, e6⟩ | with_reducible exact ⟨dcell e0, dcell e1, dcell e2, dcell e3, dcell e4, dcell e5, dcell e6⟩)
              (first
                | (go_at_call 14; ((with_reducible refine (CN.out _ (by first | exact HB.out | exact HB.out.trans (Drew.lo (Drew.one _) hP.out.lo))).mono ?_); rintro e W5 ⟨rfl, g⟩; (first | with_reducible (replace HB := Lib.hid (HB.out.trans (g.mono hP.out.lo)); replace hP := Lib.hid (hP.out.below g); replace e0 := celln g e0; replace e1 := celln g e1; replace e2 := celln g e2; replace e3 := celln g e3; replace e4 := celln g e4; replace e5 := celln g e5; replace e6 := celln g e6) | with_reducible (replace HB := Lib.hid (HB.out.trans ((Drew.lo (Drew.one _) hP.out.lo).trans (g.mono hP.out.dr.lo))); replace hP := Lib.hid (hP.out.dr.below g); replace e0 := celln g (dcell e0); replace e1 := celln g (dcell e1); replace e2 := celln g (dcell e2); replace e3 := celln g (dcell e3); replace e4 := celln g (dcell e4); replace e5 := celln g (dcell e5); replace e6 := celln g (dcell e6)))))
                | (go_at_call 22; ((with_reducible refine (CM.out _ (by first | exact hP.out | exact hP.out.dr)).mono ?_); rintro e W6 ⟨rfl, hP2, g⟩; (first | with_reducible (replace HB := Lib.hid (HB.out.trans (g.lo (n := n0) (fun k h => h.1) hP.out.lo)); replace e0 := cellT g e0 nbD; replace e1 := cellT g e1 nbD; replace e2 := cellT g e2 nbD; replace e3 := cellT g e3 nbD; replace e4 := cellT g e4 nbD; replace e5 := cellT g e5 nbD; replace e6 := cellT g e6 nbD) | with_reducible (replace HB := Lib.hid (HB.out.trans ((Drew.lo (Drew.one _) hP.out.lo).trans (g.lo (n := n0) (fun k h => h.1) hP.out.dr.lo))); replace e0 := cellT g (dcell e0) nbD; replace e1 := cellT g (dcell e1) nbD; replace e2 := cellT g (dcell e2) nbD; replace e3 := cellT g (dcell e3) nbD; replace e4 := cellT g (dcell e4) nbD; replace e5 := cellT g (dcell e5) nbD; replace e6 := cellT g (dcell e6) nbD)); clear hP; have hP := hP2; clear hP2)))
            rename_i hH
            clear hH
            go_wp2
            go_meet
            case rel => exact ⟨c, _, _, ⟨by omega, by omega⟩, Lib.hid (hP.out.pr.perm2 HP3.out), HT3, HB⟩
          · have CM := Lib.hid (fun V => move_bad (some ⟨T, 0, none⟩) nm kk V h3)
            go_region_held3 (fun w' => w'.cell? ⟨DB, 0, none⟩ = some (.int .u8 d.kind) ∧ w'.cell? ⟨DB, 1, none⟩ = some (.int .u32 d.wait) ∧ w'.cell? ⟨DB, 2, none⟩ = some (.int .u8 d.big) ∧ w'.cell? ⟨DB, 3, none⟩ = some (.slice ka kn kc) ∧ w'.cell? ⟨DB, 4, none⟩ = some (.int .u8 d.rule) ∧ w'.cell? ⟨DB, 5, none⟩ = some (.int .u16 d.n) ∧ w'.cell? ⟨DB, 6, none⟩ = some (.int .u8 d.dest))
              (first | with_reducible exact ⟨e0, e1, e2, e3, e4, e5, e6⟩ | with_reducible exact ⟨dcell e0, dcell e1, dcell e2, dcell e3, dcell e4, dcell e5, dcell e6⟩)
              (first
                | (go_at_call 14; ((with_reducible refine (CN.out _ (by first | exact HB.out | exact HB.out.trans (Drew.lo (Drew.one _) hP.out.lo))).mono ?_); rintro e W5 ⟨rfl, g⟩; (first | with_reducible (replace HB := Lib.hid (HB.out.trans (g.mono hP.out.lo)); replace hP := Lib.hid (hP.out.below g); replace e0 := celln g e0; replace e1 := celln g e1; replace e2 := celln g e2; replace e3 := celln g e3; replace e4 := celln g e4; replace e5 := celln g e5; replace e6 := celln g e6) | with_reducible (replace HB := Lib.hid (HB.out.trans ((Drew.lo (Drew.one _) hP.out.lo).trans (g.mono hP.out.dr.lo))); replace hP := Lib.hid (hP.out.dr.below g); replace e0 := celln g (dcell e0); replace e1 := celln g (dcell e1); replace e2 := celln g (dcell e2); replace e3 := celln g (dcell e3); replace e4 := celln g (dcell e4); replace e5 := celln g (dcell e5); replace e6 := celln g (dcell e6)))))
                | (go_at_call 22; ((with_reducible refine (CM.out _).mono ?_); rintro e W6 ⟨rfl, g⟩; (first | with_reducible (replace HB := Lib.hid (HB.out.trans (g.mono hP.out.lo)); replace hP := Lib.hid (hP.out.below g); replace e0 := celln g e0; replace e1 := celln g e1; replace e2 := celln g e2; replace e3 := celln g e3; replace e4 := celln g e4; replace e5 := celln g e5; replace e6 := celln g e6) | with_reducible (replace HB := Lib.hid (HB.out.trans ((Drew.lo (Drew.one _) hP.out.lo).trans (g.mono hP.out.dr.lo))); replace hP := Lib.hid (hP.out.dr.below g); replace e0 := celln g (dcell e0); replace e1 := celln g (dcell e1); replace e2 := celln g (dcell e2); replace e3 := celln g (dcell e3); replace e4 := celln g (dcell e4); replace e5 := celln g (dcell e5); replace e6 := celln g (dcell e6))))))
            rename_i hH
            clear hH
            go_wp2
            go_meet
            case rel => exact ⟨c, _, _, ⟨by omega, by omega⟩, Lib.hid hP.out.pr, HT, HB⟩
        have y1 : (d.kind % 8 == 1) = false := by simpa using z1
        clear z1
        by_cases z2 : d.kind % 8 = 2
        · have y2 : (d.kind % 8 == 2) = true := by simpa using z2
          clear z2
          have tm5d : d.dest.tmod 5 = d.dest % 5 := Int.tmod_eq_emod_of_nonneg hdd2.1
          clear hXD bD kD CN hnk
          generalize hkk : d.dest % 5 = kk at *
          rcases is3_or kk with h3 | h3
          · have CM := Lib.hid (hPD.out.mvall1 kk h3 (twi_fill HT.out hPD.out.wf1 hPD.out.wf2 h3 (by omega)) (sort_few _ (by have := hPD.out.wf1.len; omega)))
            go_wp2_with (go_at_call 23; (with_reducible refine CM.out.mono ?_); rintro e W6 ⟨rfl, hP3, g6⟩; refine stopHere ?_)
            unfold Stop
            have HB3 := Lib.hid (HBD.out.trans (g6.lo (n := n0) (fun k h => h) hPD.out.1))
            have HT3 := Lib.hid (HT.out.moved hPD.out.wf1.ok h3 hU0 (by omega))
            clear CM g6
            go_wp2
            go_meet
            case rel => exact ⟨c, _, _, ⟨by omega, by omega⟩, hP3, HT3, HB3⟩
          · have CM := Lib.hid (fun V => mvall_bad (some ⟨T, 0, none⟩) kk V h3)
            go_wp2_with (go_at_call 23; (with_reducible refine (CM.out _).mono ?_); rintro e W6 ⟨rfl, g6⟩; refine stopHere ?_)
            unfold Stop
            have HB3 := Lib.hid (HBD.out.trans (g6.mono hPD.out.1))
            have hP3 := Lib.hid (hPD.out.below g6)
            clear CM g6
            go_wp2
            go_meet
            case rel => exact ⟨c, _, _, ⟨by omega, by omega⟩, hP3, HT, HB3⟩
        have y2 : (d.kind % 8 == 2) = false := by simpa using z2
        clear z2
        have tm240 : d.rule.tmod 240 = d.rule % 240 := Int.tmod_eq_emod_of_nonneg hdr.1
        have tm3 : d.dest.tmod 3 = d.dest % 3 := Int.tmod_eq_emod_of_nonneg hdd2.1
        obtain ⟨qk, hqk, hq3⟩ : ∃ qk, 1 + d.dest % 3 = qk ∧ Is3 qk := ⟨_, rfl, by unfold Is3; omega⟩
        have hqb : 0 ≤ qk ∧ qk ≤ 255 := by rcases hq3 with h | h | h <;> omega
        have wqk : IntKind.u8.wrap qk = qk := by rw [IntKind.wrap_u8]; omega
        have CR := Lib.hid (fun V => rule_any (d.rule % 240) V (by omega))
        have hro := Lib.hid (ruleK_ok (d.rule % 240) (by omega))
        have CK := Lib.hid (fun V => cost_any d ka kn kc V hdn)
        have hcU := costI_U hdn
        have hnm := hnk.out.1
        clear hPD HBD hXD hnk
        generalize ruleK (d.rule % 240) = r at *
        generalize costI d = cst at *
        generalize nameT d = nm at *
        go_wp2_with (go_at_call 15; (with_reducible refine (CR.out _).mono ?_); rintro e W5 ⟨rfl, g5⟩; refine stopHere ?_)
        unfold Stop
        replace e0 := celln g5 e0
        replace e1 := celln g5 e1
        replace e2 := celln g5 e2
        replace e3 := celln g5 e3
        replace e4 := celln g5 e4
        replace e5 := celln g5 e5
        replace e6 := celln g5 e6
        have b5 := Lib.hid (bD.out.below g5)
        have k5 := Lib.hid (kD.out.trans (g5.mono (by have := bD.out.lt; omega)))
        clear CR g5 bD kD
        have kR := Lib.hid ((k5.out.alloc (by have := k5.out.size; omega) (.cells #[.string r.p, .int .u64 r.e, .int .u64 r.b, .int .u8 r.k] 42)).alloc (by have := k5.out.size; simp; omega) (.cells #[.string r.p, .int .u64 r.e, .int .u64 r.b, .int .u8 qk] 42))
        have bR := Lib.hid ((Blk.new W5 #[.string r.p, .int .u64 r.e, .int .u64 r.b, .int .u8 r.k] 42).alloc (.cells #[.string r.p, .int .u64 r.e, .int .u64 r.b, .int .u8 qk] 42))
        have bQ := Lib.hid (Blk.new (W5.alloc (.cells #[.string r.p, .int .u64 r.e, .int .u64 r.b, .int .u8 r.k] 42)) #[.string r.p, .int .u64 r.e, .int .u64 r.b, .int .u8 qk] 42)
        rw [show (W5.alloc (.cells #[.string r.p, .int .u64 r.e, .int .u64 r.b, .int .u8 r.k] 42)).heap.size = W5.heap.size + 1 by simp] at bQ
        have b6 := Lib.hid ((b5.out.alloc (.cells #[.string r.p, .int .u64 r.e, .int .u64 r.b, .int .u8 r.k] 42)).alloc (.cells #[.string r.p, .int .u64 r.e, .int .u64 r.b, .int .u8 qk] 42))
        have hs5 : DB < W5.heap.size := b5.out.lt
        go_wp2_with fail
        generalize (W5.alloc (.cells #[.string r.p, .int .u64 r.e, .int .u64 r.b, .int .u8 r.k] 42)).alloc (.cells #[.string r.p, .int .u64 r.e, .int .u64 r.b, .int .u8 qk] 42) = V0 at *
        generalize hRB : W5.heap.size = RB at *
        generalize hQB : RB + 1 = QB at *
        clear e0 e1 e2 e3 e4 e5 e6 hqk wqk tm3 tm240 b5
        obtain ⟨e0, e1, e2, e3, e4, e5, e6⟩ : V0.cell? ⟨DB, 0, none⟩ = some (.int .u8 d.kind) ∧ V0.cell? ⟨DB, 1, none⟩ = some (.int .u32 d.wait) ∧ V0.cell? ⟨DB, 2, none⟩ = some (.int .u8 d.big) ∧ V0.cell? ⟨DB, 3, none⟩ = some (.slice ka kn kc) ∧ V0.cell? ⟨DB, 4, none⟩ = some (.int .u8 d.rule) ∧ V0.cell? ⟨DB, 5, none⟩ = some (.int .u16 d.n) ∧ V0.cell? ⟨DB, 6, none⟩ = some (.int .u8 d.dest) := ⟨b6.out.cell 0, b6.out.cell 1, b6.out.cell 2, b6.out.cell 3, b6.out.cell 4, b6.out.cell 5, b6.out.cell 6⟩
        obtain ⟨r0, r1, r2, r3⟩ : V0.cell? ⟨RB, 0, none⟩ = some (.string r.p) ∧ V0.cell? ⟨RB, 1, none⟩ = some (.int .u64 r.e) ∧ V0.cell? ⟨RB, 2, none⟩ = some (.int .u64 r.b) ∧ V0.cell? ⟨RB, 3, none⟩ = some (.int .u8 r.k) := ⟨bR.out.cell 0, bR.out.cell 1, bR.out.cell 2, bR.out.cell 3⟩
        obtain ⟨q0, q1, q2, q3⟩ : V0.cell? ⟨QB, 0, none⟩ = some (.string r.p) ∧ V0.cell? ⟨QB, 1, none⟩ = some (.int .u64 r.e) ∧ V0.cell? ⟨QB, 2, none⟩ = some (.int .u64 r.b) ∧ V0.cell? ⟨QB, 3, none⟩ = some (.int .u8 qk) := ⟨bQ.out.cell 0, bQ.out.cell 1, bQ.out.cell 2, bQ.out.cell 3⟩
        have hlR := bR.out.lt
        have hlQ := bQ.out.lt
        have hlD := b6.out.lt
        have nbD : ¬ (n0 ≤ DB ∧ ¬ (DB ≤ DB ∧ DB < V0.heap.size)) := fun x => x.2 ⟨Nat.le_refl _, hlD⟩
        have nbR : ¬ (n0 ≤ RB ∧ ¬ (DB ≤ RB ∧ RB < V0.heap.size)) := fun x => x.2 ⟨by omega, hlR⟩
        have nbQ : ¬ (n0 ≤ QB ∧ ¬ (DB ≤ QB ∧ QB < V0.heap.size)) := fun x => x.2 ⟨by omega, hlQ⟩
        have hP : Hid (PrX V0 n0 DB V0.heap.size T Y m c S1 m c S2) := Lib.hid (by
          have z := HP0.out.x (w' := V0) (by rw [hDB]; exact kR.out)
          rw [hDB] at z
          exact z)
        have HB := Lib.hid (HB0.out.trans ((show Below wr.heap.size wr V0 by rw [hDB]; exact kR.out).mono (by have := HP0.out.1; omega)))
        obtain ⟨hok1, hru1, _⟩ := hro.out
        have hok2 : Okr ⟨r.p, r.e, r.b, qk⟩ := ⟨hok1.p, hok1.e, hok1.b, hqb⟩
        have twc := twi_charge (n := cst) (k := nm) (r := r) (q := ⟨r.p, r.e, r.b, qk⟩) HT.out HP0.out.wf1 HP0.out.wf2 hok1 hok2 rfl rfl hru1 (ruE_kind hru1 hq3) (by omega) hcU
        have C1 := fun V (g : PrX V n0 DB V0.heap.size T Y m c S1 m c S2) => g.charge1 nm r cst (by omega) hok1 hcU
        have C2 := fun V (g : PrX V n0 DB V0.heap.size T Y m c (chN m c S1 nm r cst) m c S2) => g.charge2 nm ⟨r.p, r.e, r.b, qk⟩ cst (by omega) hok2 hcU
        rw [← twc.1] at C2
        have HT2 := Lib.hid twc.2
        clear twc hok1 hru1 hok2 hro hcU hq3 hqb kR k5 bR bQ b6 HP0 hRB hQB hs5
        dsimp only at C2
        generalize chN m c S1 nm r cst = N1 at *
        generalize chN m c S2 nm ⟨r.p, r.e, r.b, qk⟩ cst = N2 at *
        generalize chA m c S1 nm r cst = a at *
        obtain ⟨a0, a1, a2, a3, a4, a5, a6, a7⟩ := a
        dsimp only [An.v, An.cs] at C1 C2
        have CA := Lib.hid (fun V => answers_same ⟨a0, a1, a2, a3, a4, a5, a6, a7⟩ V)
        dsimp only [An.v, An.cs] at CA
        replace C1 := Lib.hid C1
        replace C2 := Lib.hid C2
        go_region_held3 (fun w' => w'.cell? ⟨DB, 0, none⟩ = some (.int .u8 d.kind) ∧ w'.cell? ⟨DB, 1, none⟩ = some (.int .u32 d.wait) ∧ w'.cell? ⟨DB, 2, none⟩ = some (.int .u8 d.big) ∧ w'.cell? ⟨DB, 3, none⟩ = some (.slice ka kn kc) ∧ w'.cell? ⟨DB, 4, none⟩ = some (.int .u8 d.rule) ∧ w'.cell? ⟨DB, 5, none⟩ = some (.int .u16 d.n) ∧ w'.cell? ⟨DB, 6, none⟩ = some (.int .u8 d.dest) ∧ w'.cell? ⟨RB, 0, none⟩ = some (.string r.p) ∧ w'.cell? ⟨RB, 1, none⟩ = some (.int .u64 r.e) ∧ w'.cell? ⟨RB, 2, none⟩ = some (.int .u64 r.b) ∧ w'.cell? ⟨RB, 3, none⟩ = some (.int .u8 r.k) ∧ w'.cell? ⟨QB, 0, none⟩ = some (.string r.p) ∧ w'.cell? ⟨QB, 1, none⟩ = some (.int .u64 r.e) ∧ w'.cell? ⟨QB, 2, none⟩ = some (.int .u64 r.b) ∧ w'.cell? ⟨QB, 3, none⟩ = some (.int .u8 qk))
          (first | with_reducible exact ⟨e0, e1, e2, e3, e4, e5, e6, r0, r1, r2, r3, q0, q1, q2, q3⟩ | with_reducible exact ⟨dcell e0, dcell e1, dcell e2, dcell e3, dcell e4, dcell e5, dcell e6, dcell r0, dcell r1, dcell r2, dcell r3, dcell q0, dcell q1, dcell q2, dcell q3⟩)
          (first
            | (go_at_call 14; ((with_reducible refine (CN.out _ (by first | exact HB.out | exact HB.out.trans (Drew.lo (Drew.one _) hP.out.lo))).mono ?_); rintro e W5 ⟨rfl, g⟩; (first | with_reducible (replace HB := Lib.hid (HB.out.trans (g.mono hP.out.lo)); replace hP := Lib.hid (hP.out.below g); replace e0 := celln g e0; replace e1 := celln g e1; replace e2 := celln g e2; replace e3 := celln g e3; replace e4 := celln g e4; replace e5 := celln g e5; replace e6 := celln g e6; replace r0 := celln g r0; replace r1 := celln g r1; replace r2 := celln g r2; replace r3 := celln g r3; replace q0 := celln g q0; replace q1 := celln g q1; replace q2 := celln g q2; replace q3 := celln g q3) | with_reducible (replace HB := Lib.hid (HB.out.trans ((Drew.lo (Drew.one _) hP.out.lo).trans (g.mono hP.out.dr.lo))); replace hP := Lib.hid (hP.out.dr.below g); replace e0 := celln g (dcell e0); replace e1 := celln g (dcell e1); replace e2 := celln g (dcell e2); replace e3 := celln g (dcell e3); replace e4 := celln g (dcell e4); replace e5 := celln g (dcell e5); replace e6 := celln g (dcell e6); replace r0 := celln g (dcell r0); replace r1 := celln g (dcell r1); replace r2 := celln g (dcell r2); replace r3 := celln g (dcell r3); replace q0 := celln g (dcell q0); replace q1 := celln g (dcell q1); replace q2 := celln g (dcell q2); replace q3 := celln g (dcell q3)))))
            | (go_at_call 25; ((with_reducible refine (CK.out _).mono ?_); rintro e W6 ⟨rfl, g⟩; (first | with_reducible (replace HB := Lib.hid (HB.out.trans (g.mono hP.out.lo)); replace hP := Lib.hid (hP.out.below g); replace e0 := celln g e0; replace e1 := celln g e1; replace e2 := celln g e2; replace e3 := celln g e3; replace e4 := celln g e4; replace e5 := celln g e5; replace e6 := celln g e6; replace r0 := celln g r0; replace r1 := celln g r1; replace r2 := celln g r2; replace r3 := celln g r3; replace q0 := celln g q0; replace q1 := celln g q1; replace q2 := celln g q2; replace q3 := celln g q3) | with_reducible (replace HB := Lib.hid (HB.out.trans ((Drew.lo (Drew.one _) hP.out.lo).trans (g.mono hP.out.dr.lo))); replace hP := Lib.hid (hP.out.dr.below g); replace e0 := celln g (dcell e0); replace e1 := celln g (dcell e1); replace e2 := celln g (dcell e2); replace e3 := celln g (dcell e3); replace e4 := celln g (dcell e4); replace e5 := celln g (dcell e5); replace e6 := celln g (dcell e6); replace r0 := celln g (dcell r0); replace r1 := celln g (dcell r1); replace r2 := celln g (dcell r2); replace r3 := celln g (dcell r3); replace q0 := celln g (dcell q0); replace q1 := celln g (dcell q1); replace q2 := celln g (dcell q2); replace q3 := celln g (dcell q3)))))
            | (go_at_call 18; ((with_reducible refine (C1.out _ (by first | exact hP.out | exact hP.out.dr)).mono ?_); rintro e W7 ⟨rfl, hP2, g⟩; (first | with_reducible (replace HB := Lib.hid (HB.out.trans (g.lo (n := n0) (fun k h => h.1) hP.out.lo)); replace e0 := cellT g e0 nbD; replace e1 := cellT g e1 nbD; replace e2 := cellT g e2 nbD; replace e3 := cellT g e3 nbD; replace e4 := cellT g e4 nbD; replace e5 := cellT g e5 nbD; replace e6 := cellT g e6 nbD; replace r0 := cellT g r0 nbR; replace r1 := cellT g r1 nbR; replace r2 := cellT g r2 nbR; replace r3 := cellT g r3 nbR; replace q0 := cellT g q0 nbQ; replace q1 := cellT g q1 nbQ; replace q2 := cellT g q2 nbQ; replace q3 := cellT g q3 nbQ) | with_reducible (replace HB := Lib.hid (HB.out.trans ((Drew.lo (Drew.one _) hP.out.lo).trans (g.lo (n := n0) (fun k h => h.1) hP.out.dr.lo))); replace e0 := cellT g (dcell e0) nbD; replace e1 := cellT g (dcell e1) nbD; replace e2 := cellT g (dcell e2) nbD; replace e3 := cellT g (dcell e3) nbD; replace e4 := cellT g (dcell e4) nbD; replace e5 := cellT g (dcell e5) nbD; replace e6 := cellT g (dcell e6) nbD; replace r0 := cellT g (dcell r0) nbR; replace r1 := cellT g (dcell r1) nbR; replace r2 := cellT g (dcell r2) nbR; replace r3 := cellT g (dcell r3) nbR; replace q0 := cellT g (dcell q0) nbQ; replace q1 := cellT g (dcell q1) nbQ; replace q2 := cellT g (dcell q2) nbQ; replace q3 := cellT g (dcell q3) nbQ)); clear hP; have hP := hP2; clear hP2))
            | (go_at_call 18; ((with_reducible refine (C2.out _ (by first | exact hP.out | exact hP.out.dr)).mono ?_); rintro e W8 ⟨rfl, hP2, g⟩; (first | with_reducible (replace HB := Lib.hid (HB.out.trans (g.lo (n := n0) (fun k h => h.1) hP.out.lo)); replace e0 := cellT g e0 nbD; replace e1 := cellT g e1 nbD; replace e2 := cellT g e2 nbD; replace e3 := cellT g e3 nbD; replace e4 := cellT g e4 nbD; replace e5 := cellT g e5 nbD; replace e6 := cellT g e6 nbD; replace r0 := cellT g r0 nbR; replace r1 := cellT g r1 nbR; replace r2 := cellT g r2 nbR; replace r3 := cellT g r3 nbR; replace q0 := cellT g q0 nbQ; replace q1 := cellT g q1 nbQ; replace q2 := cellT g q2 nbQ; replace q3 := cellT g q3 nbQ) | with_reducible (replace HB := Lib.hid (HB.out.trans ((Drew.lo (Drew.one _) hP.out.lo).trans (g.lo (n := n0) (fun k h => h.1) hP.out.dr.lo))); replace e0 := cellT g (dcell e0) nbD; replace e1 := cellT g (dcell e1) nbD; replace e2 := cellT g (dcell e2) nbD; replace e3 := cellT g (dcell e3) nbD; replace e4 := cellT g (dcell e4) nbD; replace e5 := cellT g (dcell e5) nbD; replace e6 := cellT g (dcell e6) nbD; replace r0 := cellT g (dcell r0) nbR; replace r1 := cellT g (dcell r1) nbR; replace r2 := cellT g (dcell r2) nbR; replace r3 := cellT g (dcell r3) nbR; replace q0 := cellT g (dcell q0) nbQ; replace q1 := cellT g (dcell q1) nbQ; replace q2 := cellT g (dcell q2) nbQ; replace q3 := cellT g (dcell q3) nbQ)); clear hP; have hP := hP2; clear hP2))
            | (go_at_call 24; ((with_reducible refine (CA.out _).mono ?_); rintro e W9 ⟨rfl, g⟩; (first | with_reducible (replace HB := Lib.hid (HB.out.trans (g.mono hP.out.lo)); replace hP := Lib.hid (hP.out.below g); replace e0 := celln g e0; replace e1 := celln g e1; replace e2 := celln g e2; replace e3 := celln g e3; replace e4 := celln g e4; replace e5 := celln g e5; replace e6 := celln g e6; replace r0 := celln g r0; replace r1 := celln g r1; replace r2 := celln g r2; replace r3 := celln g r3; replace q0 := celln g q0; replace q1 := celln g q1; replace q2 := celln g q2; replace q3 := celln g q3) | with_reducible (replace HB := Lib.hid (HB.out.trans ((Drew.lo (Drew.one _) hP.out.lo).trans (g.mono hP.out.dr.lo))); replace hP := Lib.hid (hP.out.dr.below g); replace e0 := celln g (dcell e0); replace e1 := celln g (dcell e1); replace e2 := celln g (dcell e2); replace e3 := celln g (dcell e3); replace e4 := celln g (dcell e4); replace e5 := celln g (dcell e5); replace e6 := celln g (dcell e6); replace r0 := celln g (dcell r0); replace r1 := celln g (dcell r1); replace r2 := celln g (dcell r2); replace r3 := celln g (dcell r3); replace q0 := celln g (dcell q0); replace q1 := celln g (dcell q1); replace q2 := celln g (dcell q2); replace q3 := celln g (dcell q3))))))
        rename_i hH
        clear hH
        go_wp2
        go_meet
        case rel => exact ⟨c, _, _, ⟨by omega, by omega⟩, Lib.hid hP.out.pr, HT2, HB⟩
      case rest =>
      obtain ⟨c', S1', S2', ⟨hc0', hc8'⟩, hP', HT', HB'⟩ := hcut
      have hl1 : S1'.length ≤ 12 := by have := hP'.out.wf1.len; omega
      have hl2 : S2'.length ≤ 12 := by have := hP'.out.wf2.len; omega
      have E1 := Lib.hid (hP'.out.entries1 (sort_few _ hl1))
      clear hP hPD hXD CN hnk bD kD HBD HT d0 d1 d2 d3 d4 d5 d6
      go_wp2_with (go_at_call 27; (with_reducible refine E1.out.mono ?_); rintro e V1 ⟨v1, xs, rfl, ho1, hm1x, ha1, g1⟩; refine stopHere ?_)
      unfold Stop
      have hP2' := Lib.hid (hP'.out.below g1)
      have E2 := Lib.hid (hP2'.out.swap.entries1 (sort_few _ hl2))
      clear E1
      go_wp2_with (go_at_call 27; (with_reducible refine E2.out.mono ?_); rintro e V2 ⟨v2, ys, rfl, ho2, hm2x, ha2, g2⟩; refine stopHere ?_)
      unfold Stop
      have hes := ents_same HT'.out hP'.out.wf1.cu hP'.out.wf1.ap hP'.out.wf2.ap hm1x hm2x ha1 ha2
      have hl3 : xs.length ≤ 12 := by
        obtain ⟨dd, p1, _, p3⟩ := ha1
        have e1 := congrArg List.length p3
        have e2 := p1.length_eq
        simp only [List.length_map] at e1 e2
        omega
      have E3 := Lib.hid (entry_same v1 v2 wc.heap.size V1.heap.size (xs.map (entS c')) V2 (own_below ho1 g2) (by rw [hes]; exact ho2) (by rw [List.length_map]; omega))
      have hP3' := Lib.hid (hP2'.out.below g2)
      have HB3 := Lib.hid ((HB'.out.trans (g1.mono hP'.out.1)).trans (g2.mono hP2'.out.1))
      clear E2 hm1x hm2x ha1 ha2 hes ho1 ho2 g1 g2 hP' hP2' HB'
      go_wp2_with (go_at_call 26; (with_reducible refine E3.out.mono ?_); rintro e V3 ⟨rfl, g3⟩)
      go_roundw
      case rel =>
       exact ⟨j + 1, c', S1', S2', by go_num, ⟨by omega, by omega⟩, ⟨hc0', by omega⟩, Lib.hid (hP3'.out.below (g3.lo (Nat.le_refl _))), HT', Lib.hid (HB3.out.trans (g3.lo hP3'.out.1))⟩
      case measure => simp [intOf]; omega
end Go.Proofs.YtkfncanfgpmgaaaGreat.Wd
