/- PrefixMore; no conditions but those that each names. -/
import Derived.Test.YtekpmepcacbloaaPreW3
import Derived.Test.YtekpmepcacbloaaPreN
namespace Go.Proofs.Ytekpmepcacbloaa.Wd
open Go Go.RowKit Go.Shelf
set_option linter.unusedVariables false
set_option maxRecDepth 100000

set_option maxHeartbeats 4000000 in
theorem more_walk (most : Int) (A : Option Addr) (n cap : Nat) (X : Option Addr) (n1 c1 : Nat) (Z : Option Addr) (n2 c2 : Nat) (w : World) (hm : 0 ≤ most ∧ most ≤ 65535) (h : Nmr w A n) (hn : n ≤ 9223372036854775807) (hX : Byts w X n1) (hn1 : n1 ≤ 9223372036854775807) (hZ : Byts w Z n2) (hn2 : n2 ≤ 9223372036854775807) :
    Calls Try.prog 6 #[.int .u16 most, .slice A n cap, .slice X n1 c1, .slice Z n2 c2] w fun e w' => e = .returned (.bool true) ∧ Below w.heap.size w w' := by
  have K0 := Lib.hid known_any
  have CP := Lib.hid (policy_any most A n cap w hm h hn)
  have HX := Lib.hid hX
  have HZ := Lib.hid hZ
  clear h hX hZ
  go_enter Try.func6, Try.ntmps6
  go_wp2_with (go_at_call 9; refine CP.out.mono ?_; rintro e w1 ⟨⟨m, rs, v, rfl, hO, hlen, hP⟩, g1⟩; refine stopHere ?_)
  unfold Stop
  obtain ⟨A1, cp1, rfl, hc1, hR, hn1', hs1⟩ := hO.form3 (polr_ok hP.out) rfl
  have hpos := polr_len hP.out
  have hw1 := g1.size
  have ka := (Below.refl _ w1).alloc (Nat.le_refl _) (.cells #[.int .i64 m, .slice A1 rs.length cp1] 31)
  have k2 := Lib.hid (kbq g1 ka)
  have R2 := Lib.hid (hR.below ka)
  have p2 := Lib.hid (Blk.new w1 #[.int .i64 m, .slice A1 rs.length cp1] 31)
  obtain ⟨b, off, rfl, hb, _⟩ := R2.out.2.2 hpos
  have hb2 : b < w1.heap.size + 1 := by rw [World.size_alloc] at hb; exact hb
  have CK := Lib.hid (key_any X n1 c1 _ (HX.out.below k2.out) hn1)
  clear hO hR g1 ka CP hc1 hn1' hs1
  go_wp2_with (go_at_call 10; refine CK.out.mono ?_; rintro e w3 ⟨K, rfl, hS, hK, g3⟩; refine stopHere ?_)
  unfold Stop
  have k3 := Lib.hid (kbq k2.out g3)
  have R3 := Lib.hid (R2.out.below g3)
  have p3 := Lib.hid (p2.out.below g3)
  have hsz3 : w1.heap.size + 1 ≤ w3.heap.size := by have := g3.size; rwa [World.size_alloc] at this
  have cp := p3.out.cell 1
  simp at cp
  obtain ⟨b', off', e', _, hc⟩ := R3.out.2.2 hpos
  simp only [Option.some.injEq, Addr.mk.injEq, and_true] at e'
  obtain ⟨rfl, rfl⟩ := e'
  obtain ⟨r0, r1, r2, r3⟩ := hc 0 hpos
  simp only [Nat.zero_mul, Nat.add_zero] at r0 r1 r2 r3
  have hok := R3.out.ok 0
  obtain ⟨x, hx⟩ : ∃ x, x = fnOf rs 0 := ⟨_, rfl⟩
  rw [← hx] at r0 r1 r2 r3 hok
  have HX0 := Lib.hid hx
  clear hx g3 hc CK k2 R2 p2
  have kb := (Below.refl _ w3).alloc (Nat.le_refl _) (.cells #[.string x.p, .int .u64 x.e, .int .u64 x.b, .int .u8 x.k] 28)
  have k4 := Lib.hid (kbq k3.out kb)
  have R4' := Lib.hid (R3.out.below kb)
  have p4 := Lib.hid (p3.out.below kb)
  have x4 := Lib.hid (Blk.new w3 #[.string x.p, .int .u64 x.e, .int .u64 x.b, .int .u8 x.k] 28)
  have CZ := Lib.hid (key_any Z n2 c2 _ (HZ.out.below k4.out) hn2)
  go_wp2_with (go_at_call 10; refine CZ.out.mono ?_; rintro e w5 ⟨D, rfl, hS2, hD, g5⟩; refine stopHere ?_)
  unfold Stop
  have k5 := Lib.hid (kbq k4.out g5)
  have R5 := Lib.hid (R4'.out.below g5)
  have p5 := Lib.hid (p4.out.below g5)
  have x5 := Lib.hid (x4.out.below g5)
  have y0 := x5.out.cell 0
  have y1 := x5.out.cell 1
  have z0 := x5.out.fz 0
  have z1 := x5.out.fz 1
  simp at y0 y1
  clear cp r0 r1 r2 r3 kb g5 CZ k3 k4 R3 R4' p3 p4 x4
  go_wp2_with fail
  have X6 := Lib.hid ((x5.out.set 0 (.string D)).set 1 (.int .u64 77))
  have v6 : Below w3.heap.size w5 ((w5.setCell ⟨w3.heap.size, 0, none⟩ (.string D)).setCell ⟨w3.heap.size, 1, none⟩ (.int .u64 77)) := ((Below.refl _ _).setCell (p := ⟨w3.heap.size, 0, none⟩) (Nat.le_refl _) _).setCell (p := ⟨w3.heap.size, 1, none⟩) (Nat.le_refl _) _
  have R6 := Lib.hid (rls_under R5.out v6 (by omega))
  have p6 := Lib.hid (p5.out.under v6 (by omega))
  have k6 := Lib.hid (k5.out.trans (v6.mono (by omega)))
  clear y0 y1 z0 z1 x5 v6 R5 p5 k5
  generalize ((w5.setCell ⟨w3.heap.size, 0, none⟩ (.string D)).setCell ⟨w3.heap.size, 1, none⟩ (.int .u64 77)) = V at *
  replace X6 : Hid (Blk V w3.heap.size #[.string D, .int .u64 77, .int .u64 x.b, .int .u8 x.k] 28) := X6
  have hX3 : w3.heap.size < V.heap.size := X6.out.lt
  go_loopw [12] (fun i wr => ∃ k : Nat, i = .int .i64 (k : Int) ∧ k ≤ rs.length ∧ Hid (∀ j, j < k → (fnOf rs j).p ≠ D) ∧ Below V.heap.size V wr) (fun i _ => rs.length - (intOf i).toNat)
  case atStart => exact ⟨0, rfl, Nat.zero_le _, Lib.hid (fun j hj => absurd hj (Nat.not_lt_zero _)), Below.refl _ _⟩
  case round =>
    obtain ⟨k, rfl, hk, HN, hB⟩ := hrel
    have p7 := Lib.hid (p6.out.below hB)
    have X7 := Lib.hid (X6.out.below hB)
    have c0 := p7.out.cell 1
    simp at c0
    have k7 := Lib.hid (kbq k6.out hB)
    have R7 := Lib.hid (R6.out.below hB)
    have HB := Lib.hid hB
    clear hB
    by_cases hlt : k < rs.length
    · obtain ⟨b', off', e', _, hc⟩ := R7.out.2.2 hpos
      simp only [Option.some.injEq, Addr.mk.injEq, and_true] at e'
      obtain ⟨rfl, rfl⟩ := e'
      have e0 := (hc k hlt).1
      have d0 := X7.out.cell 0
      simp at d0
      have hw1 : IntKind.i64.wrap ((k : Int) + 1) = (k : Int) + 1 := by rw [IntKind.wrap_i64]; omega
      have HN2 : Hid ((fnOf rs k).p ≠ D → ∀ j, j < k + 1 → (fnOf rs j).p ≠ D) := Lib.hid (fun hne j hj => by
        by_cases c : j = k
        · subst c; exact hne
        · exact HN.out j (by omega))
      generalize (fnOf rs k).p = pk at *
      clear hc
      have ts := text_same (a := pk) (b := D)
      cases hd : decide (pk = D)
      · rw [hd] at ts
        have HE := Lib.hid (of_decide_eq_false hd)
        clear hd
        go_wp2
        go_region
        go_wp2
        go_roundw
        case rel => exact ⟨k + 1, rfl, hlt, Lib.hid (HN2.out HE.out), HB.out.drew⟩
        case measure => simp [intOf]; omega
      · rw [hd] at ts
        clear hd
        go_wp2
        go_region
        go_wp2_with (go_at_call 8; refine (K0.out _).mono ?_; rintro e w8 ⟨rfl, g8⟩)
        go_ret
        exact ⟨rfl, kbq (kbq k7.out (Below.refl _ _).drew) g8⟩
    · obtain rfl : k = rs.length := by omega
      have HD := Lib.hid (fst_new HN.out)
      have CN := Lib.hid (new_any (some ⟨b, off, none⟩) rs.length cp1 rs wr R7.out (by omega))
      go_wp2_with (go_at_call 12; refine CN.out.mono ?_; rintro e w8 ⟨t, rfl, T8, g8⟩; refine stopHere ?_)
      unfold Stop
      have CF := Lib.hid (find_any t K rs w8 (by omega) T8.out)
      obtain ⟨ja, hfa, BA⟩ := polr_find hP.out K
      have hap := polr_p hP.out ja
      obtain ⟨a, ha⟩ : ∃ a, a = fnOf rs ja := ⟨_, rfl⟩
      rw [← ha] at hfa hap
      rw [hfa] at CF
      have HFA := Lib.hid hfa
      have n8 := Lib.hid g8
      clear c0 g8 CN hfa BA ha
      go_wp2_with (go_at_call 13; refine CF.out.mono ?_; rintro e w9 ⟨rfl, g9⟩; refine stopHere ?_)
      unfold Stop
      have a9 := (Below.refl _ w9).alloc (Nat.le_refl _) (.cells (cs4 a) 28)
      have b9 := Blk.new w9 (cs4 a) 28
      have n10 := Lib.hid (kbq (kbq n8.out g9) a9)
      clear g9 a9 CF T8 n8
      go_upto_region 13 with fail
      generalize hU : w9.alloc (.cells (cs4 a) 28) = U at *
      have p10 := Lib.hid (p7.out.below n10.out)
      have X10 := Lib.hid (X7.out.below n10.out)
      have R10 := Lib.hid (R7.out.below n10.out)
      have Y10 := Lib.hid b9
      have k10 := Lib.hid (kbq k7.out n10.out)
      have O10 := Lib.hid (ORls.nil U U.heap.size)
      have c10 := p10.out.cell 1
      simp at c10
      have hY9 : w9.heap.size < U.heap.size := Y10.out.lt
      have hX9 : w3.heap.size < U.heap.size := X10.out.lt
      have hP9 : w1.heap.size < U.heap.size := p10.out.lt
      have hbU : b < U.heap.size := by omega
      have hwU : w.heap.size ≤ U.heap.size := k10.out.size
      clear b9 hU n10 p7 X7 R7 k7
      go_wp2_with (at_builtin; refine wpList_app_rls _ rfl _ _ rfl U.heap.size (.slice none 0 0) [] rfl O10.out (some ⟨b, off, none⟩) rs.length cp1 rs rfl R10.out (fun e => by cases e) (fun ad e => by cases e; rfl) (by simp; omega) (Nat.le_refl _) ?_; intro v4 w11 hO4 b4 gw4; refine stopHere ?_)
      unfold Stop
      rw [List.nil_append] at hO4
      obtain ⟨A4, cp4, rfl, hc4, hR4, hn4, hs4⟩ := hO4.form3 (polr_ok hP.out) rfl
      have p11 := Lib.hid (p10.out.below b4)
      have X11 := Lib.hid (X10.out.below b4)
      have Y11 := Lib.hid (Y10.out.below b4)
      have k11 := Lib.hid (kbq k10.out b4)
      obtain ⟨xe, hxe⟩ : ∃ xe : Rl, xe = ⟨D, 77, x.b, x.k⟩ := ⟨_, rfl⟩
      have hxo : Okr xe := by rw [hxe]; exact ⟨by show D.size ≤ _; omega, ⟨by show (0 : Int) ≤ 77; omega, by show (77 : Int) ≤ _; omega⟩, hok.b, hok.k⟩
      have x40 := X11.out.cell 0
      have x41 := X11.out.cell 1
      have x42 := X11.out.cell 2
      have x43 := X11.out.cell 3
      simp at x40 x41 x42 x43
      have kc := (Below.refl _ w11).alloc (Nat.le_refl _) (.cells #[.string D, .int .u64 77, .int .u64 x.b, .int .u8 x.k] 28)
      have O5 := Lib.hid (ownR_below hO4 kc)
      have S5 : Hid (Rls (w11.alloc (.cells #[.string D, .int .u64 77, .int .u64 x.b, .int .u8 x.k] 28)) (some ⟨w11.heap.size, 0, none⟩) 1 [xe]) := Lib.hid (by have := rls_one w11 xe hxo; rw [hxe] at this ⊢; exact this)
      have hsz5 : U.heap.size ≤ (w11.alloc (.cells #[.string D, .int .u64 77, .int .u64 x.b, .int .u8 x.k] 28)).heap.size := Nat.le_trans b4.size kc.size
      have p12 := Lib.hid (p11.out.below kc)
      have X12 := Lib.hid (X11.out.below kc)
      have Y12 := Lib.hid (Y11.out.below kc)
      have k12 := Lib.hid (kbq k11.out kc)
      have C4 := Lib.hid hc4
      have HXE := Lib.hid hxe
      have HXO := Lib.hid hxo
      clear hO4 kc b4 gw4 hR4 hn4 hs4 R10 O10 p10 X10 Y10 k10 c10 p11 X11 Y11 k11 hc4 hxe hxo hb
      go_wp2_with (at_builtin; refine wpList_app_rls _ rfl _ _ rfl U.heap.size (.slice A4 rs.length cp4) rs rfl O5.out (some ⟨w11.heap.size, 0, none⟩) 1 1 [xe] rfl S5.out (fun e => by cases e) (fun ad e => by cases e; rfl) (by omega) hsz5 ?_; intro v6 w13 hO6 b6 gw6; refine stopHere ?_)
      unfold Stop
      obtain ⟨A6, cp6, rfl, hc6, hR6, hn6, hs6⟩ := hO6.form3 (ok_more (polr_ok hP.out) HXO.out) rfl
      have hlx : (rs ++ [xe]).length = rs.length + 1 := by simp
      rw [hlx] at hR6 ⊢
      have R13 := Lib.hid hR6
      have p13 := Lib.hid (p12.out.under b6 hP9)
      have X13 := Lib.hid (X12.out.under b6 hX9)
      have Y13 := Lib.hid (Y12.out.under b6 hY9)
      have k13 := Lib.hid (k12.out.trans (b6.mono hwU))
      have HC6 := Lib.hid hc6
      have hfm := find_more hP.out K xe HFA.out
      have hxp : xe.p = D := by rw [HXE.out]
      rw [hxp] at hfm
      have HFM := Lib.hid hfm
      have HCN := Lib.hid (show cntT (rs ++ [xe]) (rs ++ [xe]).length = rs.length + 1 by rw [cnt_more hP.out xe, hxp, HD.out]; rfl)
      have CN := Lib.hid (new_any A6 (rs.length + 1) cp6 (rs ++ [xe]) w13 R13.out (by omega))
      clear hR6 hO6 b6 gw6 hn6 hs6 x40 x41 x42 x43 O5 S5 hsz5 p12 X12 Y12 k12 hc6 hfm
      go_wp2_with (go_at_call 12; refine CN.out.mono ?_; rintro e w14 ⟨t2, rfl, T14, g14⟩; refine stopHere ?_)
      unfold Stop
      have CF := Lib.hid (find_any t2 K (rs ++ [xe]) w14 (by omega) T14.out)
      obtain ⟨z, hz⟩ : ∃ z, z = (if hsK K D && decide (a.p.size < D.size) then xe else a) := ⟨_, rfl⟩
      rw [HFM.out, ← hz] at CF
      have HZ := Lib.hid hz
      have n14 := Lib.hid g14
      clear g14 CN hz
      go_wp2_with (go_at_call 13; refine CF.out.mono ?_; rintro e w15 ⟨rfl, g15⟩; refine stopHere ?_)
      unfold Stop
      have a15 := (Below.refl _ w15).alloc (Nat.le_refl _) (.cells (cs4 z) 28)
      have Z16 := Lib.hid (Blk.new w15 (cs4 z) 28)
      have n16 := Lib.hid (kbq (kbq n14.out g15) a15)
      clear g15 a15 CF T14 n14
      go_upto_region 16 with fail
      have p16 := Lib.hid (p13.out.below n16.out)
      have X16 := Lib.hid (X13.out.below n16.out)
      have Y16 := Lib.hid (Y13.out.below n16.out)
      have R16 := Lib.hid (R13.out.below n16.out)
      have k16 := Lib.hid (kbq k13.out n16.out)
      generalize hU2 : w15.alloc (.cells (cs4 z) 28) = U2 at *
      have hZ15 : w15.heap.size < U2.heap.size := Z16.out.lt
      clear hU2 n16 p13 X13 Y13 R13 k13
      have x0 := X16.out.cell 0
      simp at x0
      go_cut [18] from 73 to 88 (fun c wx => ∃ tb : Bool, c = .bool tb ∧ Hid (tb = hsK K D) ∧ Below U2.heap.size U2 wx)
      case first =>
        by_cases c : D.size ≤ K.size
        · have s1 := sl_front K D.size c
          have ts := text_same (a := K.extract 0 D.size) (b := D)
          rw [hs_front K D c] at ts
          have c' : decide ((D.size : Int) ≤ (K.size : Int)) = true := decide_eq_true (by omega)
          generalize hsK K D = q at *
          generalize K.extract 0 D.size = KD at *
          go_wp2
          go_region
          go_wp2
          go_meet
          case rel => exact ⟨q, rfl, Lib.hid rfl, (Below.refl _ _).drew⟩
        · have hl := hs_long K D (by omega)
          have c' : decide ((D.size : Int) ≤ (K.size : Int)) = false := decide_eq_false (by omega)
          go_wp2
          go_region
          go_wp2
          go_meet
          case rel => exact ⟨false, rfl, Lib.hid hl.symm, (Below.refl _ _).drew⟩
      case rest =>
      obtain ⟨tb, rfl, HT, n17⟩ := hcut
      have X17 := Lib.hid (X16.out.below n17)
      have Y17 := Lib.hid (Y16.out.below n17)
      have Z17 := Lib.hid (Z16.out.below n17)
      have R17 := Lib.hid (R16.out.below n17)
      have k17 := Lib.hid (kbq k16.out n17)
      have y0 := Y17.out.cell 0
      have y1 := Y17.out.cell 1
      have y2 := Y17.out.cell 2
      have y3 := Y17.out.cell 3
      have x1 := X17.out.cell 0
      have hX17 : w3.heap.size < wc.heap.size := X17.out.lt
      have hY17 : w9.heap.size < wc.heap.size := Y17.out.lt
      have hZ17 : w15.heap.size < wc.heap.size := Z17.out.lt
      have xx1 := X17.out.cell 1
      have xx2 := X17.out.cell 2
      have xx3 := X17.out.cell 3
      simp at y0 y1 y2 y3 x1 xx1 xx2 xx3
      have ka := (Below.refl _ wc).alloc (Nat.le_refl _) (.cells (cs4 a) 28)
      clear x0 n17 p16 X16 Y16 Z16 R16 k16
      have way : (z = a ∧ (tb = false ∨ ¬ a.p.size < D.size)) ∨ (z = xe ∧ tb = true ∧ a.p.size < D.size) := by
        rw [HZ.out, ← HT.out]
        cases tb
        · exact .inl ⟨rfl, .inl rfl⟩
        · by_cases c : a.p.size < D.size
          · right; rw [decide_eq_true c]; exact ⟨rfl, rfl, c⟩
          · left; rw [decide_eq_false c]; exact ⟨rfl, .inr c⟩
      rcases way with ⟨rfl, way⟩ | ⟨rfl, rfl, cs⟩
      · rcases way with rfl | way
        · go_wp2_with fail
          have ka := (Below.refl _ wc).alloc (Nat.le_refl _) (.cells (cs4 z) 28)
          have bw := Blk.new wc (cs4 z) 28
          have Z18 := Lib.hid (Z17.out.below ka)
          have R18 := Lib.hid (R17.out.below ka)
          have k18 := Lib.hid (kbq k17.out ka)
          go_at_call 8
          refine (K0.out _).mono ?_
          rintro e w20 ⟨rfl, g20⟩
          have bw2 := bw.below g20
          have Z20 := Z18.out.below g20
          have d0 := bw2.cell 0
          have d1 := bw2.cell 1
          have d2 := bw2.cell 2
          have d3 := bw2.cell 3
          have e0 := Z20.cell 0
          have e1 := Z20.cell 1
          have e2 := Z20.cell 2
          have e3 := Z20.cell 3
          simp at d0 d1 d2 d3 e0 e1 e2 e3
          have k20 := Lib.hid (kbq k18.out g20)
          have CN := Lib.hid (new_any A6 (rs.length + 1) cp6 _ w20 (R18.out.below g20) (by omega))
          clear ka bw bw2 Z18 R18 k18 g20 Z20 y0 y1 y2 y3 x1 xx1 xx2 xx3
          go_wp2_with (go_at_call 12; refine CN.out.mono ?_; rintro e w21 ⟨t3, rfl, T21, g21⟩; refine stopHere ?_)
          unfold Stop
          have CL := Lib.hid (len_any t3 _ w21 T21.out)
          rw [HCN.out] at CL
          have k21 := Lib.hid (kbq k20.out g21)
          generalize rs.length + 1 = L at *
          go_wp2_with (go_at_call 14; refine CL.out.mono ?_; rintro e w22 ⟨rfl, rfl⟩)
          go_ret
          exact ⟨rfl, k21.out⟩
        · have cs : ¬ z.p.size < D.size := way
          cases tb
          · go_wp2_with fail
            have ka := (Below.refl _ wc).alloc (Nat.le_refl _) (.cells (cs4 z) 28)
            have bw := Blk.new wc (cs4 z) 28
            have Z18 := Lib.hid (Z17.out.below ka)
            have R18 := Lib.hid (R17.out.below ka)
            have k18 := Lib.hid (kbq k17.out ka)
            go_at_call 8
            refine (K0.out _).mono ?_
            rintro e w20 ⟨rfl, g20⟩
            have bw2 := bw.below g20
            have Z20 := Z18.out.below g20
            have d0 := bw2.cell 0
            have d1 := bw2.cell 1
            have d2 := bw2.cell 2
            have d3 := bw2.cell 3
            have e0 := Z20.cell 0
            have e1 := Z20.cell 1
            have e2 := Z20.cell 2
            have e3 := Z20.cell 3
            simp at d0 d1 d2 d3 e0 e1 e2 e3
            have k20 := Lib.hid (kbq k18.out g20)
            have CN := Lib.hid (new_any A6 (rs.length + 1) cp6 _ w20 (R18.out.below g20) (by omega))
            clear ka bw bw2 Z18 R18 k18 g20 Z20 y0 y1 y2 y3 x1 xx1 xx2 xx3
            go_wp2_with (go_at_call 12; refine CN.out.mono ?_; rintro e w21 ⟨t3, rfl, T21, g21⟩; refine stopHere ?_)
            unfold Stop
            have CL := Lib.hid (len_any t3 _ w21 T21.out)
            rw [HCN.out] at CL
            have k21 := Lib.hid (kbq k20.out g21)
            generalize rs.length + 1 = L at *
            go_wp2_with (go_at_call 14; refine CL.out.mono ?_; rintro e w22 ⟨rfl, rfl⟩)
            go_ret
            exact ⟨rfl, k21.out⟩
          · go_wp2_with fail
            have ka := (Below.refl _ wc).alloc (Nat.le_refl _) (.cells (cs4 z) 28)
            have bw := Blk.new wc (cs4 z) 28
            have Z18 := Lib.hid (Z17.out.below ka)
            have R18 := Lib.hid (R17.out.below ka)
            have k18 := Lib.hid (kbq k17.out ka)
            go_at_call 8
            refine (K0.out _).mono ?_
            rintro e w20 ⟨rfl, g20⟩
            have bw2 := bw.below g20
            have Z20 := Z18.out.below g20
            have d0 := bw2.cell 0
            have d1 := bw2.cell 1
            have d2 := bw2.cell 2
            have d3 := bw2.cell 3
            have e0 := Z20.cell 0
            have e1 := Z20.cell 1
            have e2 := Z20.cell 2
            have e3 := Z20.cell 3
            simp at d0 d1 d2 d3 e0 e1 e2 e3
            have k20 := Lib.hid (kbq k18.out g20)
            have CN := Lib.hid (new_any A6 (rs.length + 1) cp6 _ w20 (R18.out.below g20) (by omega))
            clear ka bw bw2 Z18 R18 k18 g20 Z20 y0 y1 y2 y3 x1 xx1 xx2 xx3
            go_wp2_with (go_at_call 12; refine CN.out.mono ?_; rintro e w21 ⟨t3, rfl, T21, g21⟩; refine stopHere ?_)
            unfold Stop
            have CL := Lib.hid (len_any t3 _ w21 T21.out)
            rw [HCN.out] at CL
            have k21 := Lib.hid (kbq k20.out g21)
            generalize rs.length + 1 = L at *
            go_wp2_with (go_at_call 14; refine CL.out.mono ?_; rintro e w22 ⟨rfl, rfl⟩)
            go_ret
            exact ⟨rfl, k21.out⟩
      · have hq := HXE.out
        subst hq
        go_wp2_with fail
        have ka := (Below.refl _ wc).alloc (Nat.le_refl _) (.cells #[.string D, .int .u64 77, .int .u64 x.b, .int .u8 x.k] 28)
        have bw := Blk.new wc #[.string D, .int .u64 77, .int .u64 x.b, .int .u8 x.k] 28
        have Z18 := Lib.hid (Z17.out.below ka)
        have R18 := Lib.hid (R17.out.below ka)
        have k18 := Lib.hid (kbq k17.out ka)
        go_at_call 8
        refine (K0.out _).mono ?_
        rintro e w20 ⟨rfl, g20⟩
        have bw2 := bw.below g20
        have Z20 := Z18.out.below g20
        have d0 := bw2.cell 0
        have d1 := bw2.cell 1
        have d2 := bw2.cell 2
        have d3 := bw2.cell 3
        have e0 := Z20.cell 0
        have e1 := Z20.cell 1
        have e2 := Z20.cell 2
        have e3 := Z20.cell 3
        simp at d0 d1 d2 d3 e0 e1 e2 e3
        have k20 := Lib.hid (kbq k18.out g20)
        have CN := Lib.hid (new_any A6 (rs.length + 1) cp6 _ w20 (R18.out.below g20) (by omega))
        clear ka bw bw2 Z18 R18 k18 g20 Z20 y0 y1 y2 y3 x1 xx1 xx2 xx3
        go_wp2_with (go_at_call 12; refine CN.out.mono ?_; rintro e w21 ⟨t3, rfl, T21, g21⟩; refine stopHere ?_)
        unfold Stop
        have CL := Lib.hid (len_any t3 _ w21 T21.out)
        rw [HCN.out] at CL
        have k21 := Lib.hid (kbq k20.out g21)
        generalize rs.length + 1 = L at *
        go_wp2_with (go_at_call 14; refine CL.out.mono ?_; rintro e w22 ⟨rfl, rfl⟩)
        go_ret
        exact ⟨rfl, k21.out⟩
end Go.Proofs.Ytekpmepcacbloaa.Wd
