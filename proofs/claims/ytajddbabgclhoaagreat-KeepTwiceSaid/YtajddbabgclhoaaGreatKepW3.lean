/- KeepTwice answers true, for any deeds and choices; no conditions. -/
import Derived.Test.YtajddbabgclhoaaGreatZAF
import Derived.Test.YtajddbabgclhoaaGreatZAG
namespace Go.Proofs.YtajddbabgclhoaaGreat.Wd
open Go Go.RowKit Go.Deep Go.Shelf
set_option linter.unusedVariables false
set_option maxRecDepth 100000
attribute [local go_sem] Oper.semAt_some
set_option maxHeartbeats 4000000 in
theorem twice_walk (k0 : Int) (A0 : Option Addr) (n cap : Nat) (ds : List Dd) (m0 : Int) (A3 : Option Addr) (n3 cap3 : Nat) (bs : List UInt8) (w : World) (h : Dds w A0 n ds) (h3 : Txt w A3 n3 bs) (hk : 0 ≤ k0 ∧ k0 ≤ 255) (hm0 : 0 ≤ m0 ∧ m0 ≤ 255) (hn3 : n3 ≤ 9223372036854775807) :
    Calls Tryz.prog 8 #[.int .u8 k0, .slice A0 n cap, .int .u8 m0, .slice A3 n3 cap3] w fun e w' => e = .returned (.bool true) ∧ Below w.heap.size w w' := by
  have K0 := Lib.hid (fun V => kknown_any V)
  have HD := Lib.hid h
  have HX := Lib.hid h3
  have CH := Lib.hid (heavy_any A0 n cap ds w h)
  have CR := Lib.hid (fun V (g : Below w.heap.size w V) => rules_any m0 A3 n3 cap3 bs V (h3.below g) hn3 hm0)
  clear h h3
  go_enter Tryz.func8, Tryz.ntmps8
  go_wp2_with (go_at_call 11; refine CH.out.mono ?_; rintro e W1 ⟨v, rfl, k1⟩; refine stopHere ?_)
  unfold Stop
  by_cases hv : 400 < v
  · have hq := decide_eq_true hv
    clear CH CR
    go_wp2_with (go_at_call 16; refine (K0.out _).mono ?_; rintro e W2 ⟨rfl, g⟩)
    go_ret
    exact ⟨rfl, kbq k1 g⟩
  have hq := decide_eq_false hv
  have CB := Lib.hid (both_any k0 A0 n cap ds W1 (HD.out.below k1) hk)
  clear CH
  go_wp2_with (go_at_call 22; refine CB.out.mono ?_; rintro e W2 ⟨T, u, c, S, A, rfl, HI, hc, hF, g⟩; refine stopHere ?_)
  unfold Stop
  have K2 := Lib.hid (kbq k1 g)
  obtain ⟨B, base, hT, _, hO, _⟩ := hF
  obtain ⟨Au, capu, rfl, _⟩ := hO.rds
  have HT := Lib.hid hT
  have HS := Lib.hid (HI.out.tw.diag)
  have HC := Lib.hid (show c ≤ 4611686018427387904 by omega)
  have HM := Lib.hid (show 1 + k0 % 9 ≤ 50 by omega)
  clear hT hO g CB k1 HI HD hc
  generalize 1 + k0 % 9 = m at *
  have H3 := Lib.hid (HT.out.below ((Below.refl _ W2).alloc (Nat.le_refl _) (.cells (rcs m c (.slice Au A.length capu)) Trf)))
  have K3 := Lib.hid (K2.out.alloc K2.out.size (.cells (rcs m c (.slice Au A.length capu)) Trf))
  go_upto_region 4 with fail
  revert H3 K3
  generalize W2.alloc (.cells (rcs m c (.slice Au A.length capu)) Trf) = W3
  intro H3 K3
  clear HT K2
  go_wp2_with (go_at_call 20; refine (CR.out _ K3.out).mono ?_; rintro e W4 ⟨vr, rs, rfl, O, hokr, hl9, g⟩; refine stopHere ?_)
  unfold Stop
  obtain ⟨N, hN⟩ : ∃ N, rs.length = N := ⟨_, rfl⟩
  obtain ⟨Ar, capr, rfl, _, R4, _, _⟩ := O.form3 hokr hN
  have K4 := Lib.hid (kbq K3.out g)
  have H4 := Lib.hid (H3.out.below g)
  have hN9 : N ≤ 1000000 := by omega
  clear O g H3 K3 CR hokr hl9 hN
  generalize 1 + m0 % 9 = mo at *
  have g5 : Below W4.heap.size W4 (W4.alloc (.cells #[.int .i64 50, .slice Ar N capr] 35)) := (Below.refl _ W4).alloc (Nat.le_refl _) _
  have H5 := Lib.hid (H4.out.below g5)
  have K5 := Lib.hid (kbq K4.out g5)
  have R5 := Lib.hid (R4.below g5)
  have B5 := Lib.hid (Blk.new W4 #[.int .i64 50, .slice Ar N capr] 35)
  clear g5 R4 H4 K4
  go_upto_region 8 with fail
  revert H5 K5 R5 B5
  generalize W4.alloc (.cells #[.int .i64 50, .slice Ar N capr] 35) = W5
  intro H5 K5 R5 B5
  obtain ⟨P, hP⟩ : ∃ P, W4.heap.size = P := ⟨_, rfl⟩
  rw [hP] at B5 ⊢
  obtain ⟨p0, p1⟩ : W5.cell? ⟨P, 0, none⟩ = some (.int .i64 50) ∧ W5.cell? ⟨P, 1, none⟩ = some (.slice Ar N capr) := ⟨B5.out.cell 0, B5.out.cell 1⟩
  clear hP
  have C1 := Lib.hid (keep_stay T B m c 50 S Ar N capr rs W5 H5.out HS.out HC.out R5.out hN9 HM.out (by decide))
  go_wp2_with (go_at_call 23; refine C1.out.mono ?_; rintro e W6 ⟨T2, B2, S2, gn, rfl, h2, hz, g⟩; refine stopHere ?_)
  unfold Stop
  have K6 := Lib.hid (kbq K5.out g)
  have U6 := Lib.hid h2
  have Z6 := Lib.hid hz
  have R6 := Lib.hid (R5.out.below g)
  have B6 := Lib.hid (B5.out.below g)
  clear C1 H5 K5 R5 B5 p0 p1 h2 hz g HS HM
  obtain ⟨p0, p1⟩ : W6.cell? ⟨P, 0, none⟩ = some (.int .i64 50) ∧ W6.cell? ⟨P, 1, none⟩ = some (.slice Ar N capr) := ⟨B6.out.cell 0, B6.out.cell 1⟩
  have C1 := Lib.hid (keep_all T2 B2 50 c 50 S2 Ar N capr rs W6 U6.out Z6.out HC.out R6.out hN9 (by decide) (by decide))
  go_wp2_with (go_at_call 23; refine C1.out.mono ?_; rintro e W7 ⟨T3, B3, S3, rfl, h2, hp, g⟩; refine stopHere ?_)
  unfold Stop
  have K7 := Lib.hid (kbq K6.out g)
  have U7 := Lib.hid (U6.out.below g)
  have V7 := Lib.hid h2
  have P7 := Lib.hid hp
  have R7 := Lib.hid (R6.out.below g)
  have B7 := Lib.hid (B6.out.below g)
  clear C1 K6 U6 R6 B6 p0 p1 h2 hp g
  go_wp2_with (go_at_call 16; refine (K0.out _).mono ?_; rintro e W8 ⟨rfl, g⟩; refine stopHere ?_)
  unfold Stop
  have K8 := Lib.hid (kbq K7.out g)
  have U8 := Lib.hid (U7.out.below g)
  have V8 := Lib.hid (V7.out.below g)
  have R8 := Lib.hid (R7.out.below g)
  have B8 := Lib.hid (B7.out.below g)
  clear K7 U7 V7 R7 B7 g
  have l2 : S2.length ≤ 1000000 := by have h1 := U8.out.wf.len; omega
  have l3 : S3.length ≤ 1000000 := by have h1 := V8.out.wf.len; omega
  have CS := Lib.hid (slots_any T2 B2 50 c S2 W8 U8.out (sort_all _ (by omega)))
  go_wp2_with (go_at_call 28; refine CS.out.mono ?_; rintro e W9 ⟨vs, xs, rfl, O9, TL, g⟩; refine stopHere ?_)
  unfold Stop
  have K9 := Lib.hid (kbq K8.out g)
  have U9 := Lib.hid (U8.out.below g)
  have V9 := Lib.hid (V8.out.below g)
  have R9 := Lib.hid (R8.out.below g)
  have B9 := Lib.hid (B8.out.below g)
  have X9 := Lib.hid O9
  have L9 := Lib.hid TL
  clear K8 U8 V8 R8 B8 g CS O9 TL
  have CS := Lib.hid (slots_any T3 B3 50 c S3 W9 V9.out (sort_all _ (by omega)))
  go_wp2_with (go_at_call 28; refine CS.out.mono ?_; rintro e W10 ⟨vs2, ys, rfl, O9, TL, g⟩; refine stopHere ?_)
  unfold Stop
  have exy : ys = xs := told_one (TL.perm P7.out) L9.out U9.out.wf.ap
  subst exy
  have K10 := Lib.hid (kbq K9.out g)
  have U10 := Lib.hid (U9.out.below g)
  have R10 := Lib.hid (R9.out.below g)
  have B10 := Lib.hid (B9.out.below g)
  have CM := Lib.hid (slots_same vs vs2 _ _ ys W10 (own_below X9.out g) O9 (by rw [TL.len]; omega))
  clear K9 U9 V9 R9 B9 g CS O9 TL L9 X9
  go_wp2_with (go_at_call 29; refine CM.out.mono ?_; rintro e W11 ⟨rfl, g⟩; refine stopHere ?_)
  unfold Stop
  have g11 := g.lo (Nat.le_refl W10.heap.size)
  have K11 := Lib.hid (kbq K10.out g11)
  have U11 := Lib.hid (U10.out.below g11)
  have R11 := Lib.hid (R10.out.below g11)
  have B11 := Lib.hid (B10.out.below g11)
  clear K10 U10 R10 B10 g CM
  obtain ⟨p0, p1⟩ : W11.cell? ⟨P, 0, none⟩ = some (.int .i64 50) ∧ W11.cell? ⟨P, 1, none⟩ = some (.slice Ar N capr) := ⟨B11.out.cell 0, B11.out.cell 1⟩
  have CL := Lib.hid (lost_none T2 B2 50 c 50 S2 Ar N capr rs W11 U11.out (fun z hz => (Z6.out z hz).2) R11.out hN9)
  go_wp2_with (go_at_call 24; refine CL.out.mono ?_; rintro e W12 ⟨ul, rfl, OL, g⟩; refine stopHere ?_)
  unfold Stop
  obtain ⟨Al, capl, eu, _⟩ := OL.sts (fun x hx => (List.not_mem_nil hx).elim)
  have eu : ul = .slice Al 0 capl := eu
  subst eu
  go_wp2
  go_ret
  exact ⟨rfl, kbq K11.out g⟩
end Go.Proofs.YtajddbabgclhoaaGreat.Wd
