/- KeepNothing answers true, for any deeds and choices; no conditions. -/
import Derived.Test.YtajddbabgclhoaaGreatZAF
namespace Go.Proofs.YtajddbabgclhoaaGreat.Wd
open Go Go.RowKit Go.Deep Go.Shelf
set_option linter.unusedVariables false
set_option maxRecDepth 100000
attribute [local go_sem] Oper.semAt_some
set_option maxHeartbeats 4000000 in
theorem nothing_walk (k0 : Int) (A0 : Option Addr) (n cap : Nat) (ds : List Dd) (ev bu : Int) (w : World) (h : Dds w A0 n ds) (hk : 0 ≤ k0 ∧ k0 ≤ 255) (hev : 0 ≤ ev ∧ ev ≤ 65535) (hbu : 0 ≤ bu ∧ bu ≤ 65535) :
    Calls Tryz.prog 9 #[.int .u8 k0, .slice A0 n cap, .int .u16 ev, .int .u16 bu] w fun e w' => e = .returned (.bool true) ∧ Below w.heap.size w w' := by
  have K0 := Lib.hid (fun V => kknown_any V)
  have HD := Lib.hid h
  have CH := Lib.hid (heavy_any A0 n cap ds w h)
  have we1 : IntKind.u64.wrap ev = ev := by rw [IntKind.wrap_u64]; omega
  have we2 : IntKind.u64.wrap (20000 + ev) = 20000 + ev := by rw [IntKind.wrap_u64]; omega
  have wb1 : IntKind.u64.wrap bu = bu := by rw [IntKind.wrap_u64]; omega
  have wb2 : IntKind.u64.wrap (1 + bu) = 1 + bu := by rw [IntKind.wrap_u64]; omega
  clear h
  go_enter Tryz.func9, Tryz.ntmps9
  go_wp2_with (go_at_call 11; refine CH.out.mono ?_; rintro e W1 ⟨v, rfl, k1⟩; refine stopHere ?_)
  unfold Stop
  by_cases hv : 400 < v
  · have hq := decide_eq_true hv
    clear CH
    go_wp2_with (go_at_call 16; refine (K0.out _).mono ?_; rintro e W2 ⟨rfl, g⟩)
    go_ret
    exact ⟨rfl, kbq k1 g⟩
  have hq := decide_eq_false hv
  have CB := Lib.hid (both_any k0 A0 n cap ds W1 (HD.out.below k1) hk)
  clear CH
  go_wp2_with (go_at_call 22; refine CB.out.mono ?_; rintro e W2 ⟨T, u, c, S, A, rfl, HI, hc, hF, g⟩; refine stopHere ?_)
  unfold Stop
  have K2 := Lib.hid (kbq k1 g)
  obtain ⟨B, base, hT, _, hO, _⟩ := hF
  obtain ⟨Au, capu, rfl, _⟩ := hO.rds
  have HT := Lib.hid hT
  have HEV := Lib.hid (fun s (hs : s ∈ S) => HI.out.ev s (rsl_mem.1 (HI.out.prm.mem_iff.1 hs)).1)
  clear hT hO g CB k1 HI HD
  generalize 1 + k0 % 9 = m at *
  have H3 := Lib.hid (HT.out.below ((Below.refl _ W2).alloc (Nat.le_refl _) (.cells (rcs m c (.slice Au A.length capu)) Trf)))
  have K3 := Lib.hid (K2.out.alloc K2.out.size (.cells (rcs m c (.slice Au A.length capu)) Trf))
  go_upto_region 4 with fail
  revert H3 K3
  generalize W2.alloc (.cells (rcs m c (.slice Au A.length capu)) Trf) = W3
  intro H3 K3
  clear HT K2
  obtain ⟨N, hN⟩ : ∃ N, S.length = N := ⟨_, rfl⟩
  have hNl : N ≤ 1000000 := by have h1 := H3.out.wf.len; have h2 := H3.out.wf.m2; omega
  have CS := Lib.hid (fun V (g : Below W3.heap.size W3 V) => slots_any T B m c S V (H3.out.below g) (sort_all _ (by omega)))
  go_wp2_with (go_at_call 28; refine (CS.out _ (Below.refl _ _)).mono ?_; rintro e W4 ⟨vs, xs, rfl, O, TL, g⟩; refine stopHere ?_)
  unfold Stop
  obtain ⟨A1, cap1, rfl, _⟩ := O.rds
  have lx : xs.length = N := by rw [TL.len, hN]
  rw [lx] at O ⊢
  have K4 := Lib.hid (kbq K3.out g)
  have H4 := Lib.hid (H3.out.below g)
  have HO := Lib.hid O
  have HL := Lib.hid TL
  have HN := Lib.hid hN
  have HX := Lib.hid lx
  have HW := Lib.hid H3.out.wf.ap
  clear O TL g hN lx CS H3 K3
  have okR : Okr ⟨⟨#[]⟩, 20000 + ev, 1 + bu, 1⟩ := ⟨by show (ByteArray.mk #[]).size ≤ _; decide, by show 0 ≤ 20000 + ev ∧ 20000 + ev ≤ 18446744073709551615; omega, by show 0 ≤ 1 + bu ∧ 1 + bu ≤ 18446744073709551615; omega, by show (0 : Int) ≤ 1 ∧ (1 : Int) ≤ 255; decide⟩
  have R5 := Lib.hid ((rls_one W4 ⟨⟨#[]⟩, 20000 + ev, 1 + bu, 1⟩ okR).below ((Below.refl _ (W4.alloc (.cells #[.string ⟨#[]⟩, .int .u64 (20000 + ev), .int .u64 (1 + bu), .int .u8 1] 38))).alloc (Nat.le_refl _) (.cells #[.int .i64 9, .slice (some ⟨W4.heap.size, 0, none⟩) 1 1] 35)))
  have g5 : Below W4.heap.size W4 ((W4.alloc (.cells #[.string ⟨#[]⟩, .int .u64 (20000 + ev), .int .u64 (1 + bu), .int .u8 1] 38)).alloc (.cells #[.int .i64 9, .slice (some ⟨W4.heap.size, 0, none⟩) 1 1] 35)) := ((Below.refl _ W4).alloc (Nat.le_refl _) (.cells #[.string ⟨#[]⟩, .int .u64 (20000 + ev), .int .u64 (1 + bu), .int .u8 1] 38)).alloc (by simp) (.cells #[.int .i64 9, .slice (some ⟨W4.heap.size, 0, none⟩) 1 1] 35)
  have H5 := Lib.hid (H4.out.below g5)
  have K5 := Lib.hid (kbq K4.out g5)
  have O5 := Lib.hid (own_below HO.out g5)
  have B5 := Lib.hid (Blk.new (W4.alloc (.cells #[.string ⟨#[]⟩, .int .u64 (20000 + ev), .int .u64 (1 + bu), .int .u8 1] 38)) #[.int .i64 9, .slice (some ⟨W4.heap.size, 0, none⟩) 1 1] 35)
  rw [show (W4.alloc (.cells #[.string ⟨#[]⟩, .int .u64 (20000 + ev), .int .u64 (1 + bu), .int .u8 1] 38)).heap.size = W4.heap.size + 1 by simp] at B5
  clear g5 H4 K4 HO okR
  go_upto_region 8 with fail
  revert R5 H5 K5 O5 B5
  generalize (W4.alloc (.cells #[.string ⟨#[]⟩, .int .u64 (20000 + ev), .int .u64 (1 + bu), .int .u8 1] 38)).alloc (.cells #[.int .i64 9, .slice (some ⟨W4.heap.size, 0, none⟩) 1 1] 35) = W5
  intro R5 H5 K5 O5 B5
  have hs1 : ∀ s ∈ S, stayS [⟨⟨#[]⟩, 20000 + ev, 1 + bu, 1⟩] c s = none := fun s hs => stay_ev (fun r hr => by rw [List.mem_singleton.1 hr]; show 20000 ≤ 20000 + ev ∧ 20000 + ev ≤ 100000; omega) (HEV.out s hs)
  have hs2 : ∀ s ∈ S, stayS [] c s = none := fun s hs => stay_ev (fun r hr => (List.not_mem_nil hr).elim) (HEV.out s hs)
  have C1 := Lib.hid (keep_none T B m c S _ 1 1 N _ W5 H5.out HN.out R5.out (by decide) hs1)
  obtain ⟨p0, p1⟩ : W5.cell? ⟨W4.heap.size + 1, 0, none⟩ = some (.int .i64 9) ∧ W5.cell? ⟨W4.heap.size + 1, 1, none⟩ = some (.slice (some ⟨W4.heap.size, 0, none⟩) 1 1) := ⟨B5.out.cell 0, B5.out.cell 1⟩
  go_wp2_with (go_at_call 23; refine C1.out.mono ?_; rintro e W6 ⟨T2, B2, rfl, h2, g⟩; refine stopHere ?_)
  unfold Stop
  have H6 := Lib.hid (H5.out.below g)
  have K6 := Lib.hid (kbq K5.out g)
  have O6 := Lib.hid (own_below O5.out g)
  have U6 := Lib.hid h2
  clear C1 R5 H5 K5 O5 B5 p0 p1 hs1 h2 g
  have C1 := Lib.hid (keep_none T B m c S none 0 0 N [] W6 H6.out HN.out (Rls.nil _ _) (by decide) hs2)
  go_wp2_with (go_at_call 23; refine C1.out.mono ?_; rintro e W7 ⟨T3, B3, rfl, h3, g⟩; refine stopHere ?_)
  unfold Stop
  have H7 := Lib.hid (H6.out.below g)
  have K7 := Lib.hid (kbq K6.out g)
  have O7 := Lib.hid (own_below O6.out g)
  have U7 := Lib.hid (U6.out.below g)
  have Z7 := Lib.hid h3
  clear C1 H6 K6 O6 U6 hs2 h3 g
  go_wp2_with (go_at_call 16; refine (K0.out _).mono ?_; rintro e W8 ⟨rfl, g⟩; refine stopHere ?_)
  unfold Stop
  have H8 := Lib.hid (H7.out.below g)
  have K8 := Lib.hid (kbq K7.out g)
  have O8 := Lib.hid (own_below O7.out g)
  have C2 := Lib.hid (active_n (n := 0) (U7.out.below g) rfl)
  have C3 := Lib.hid (active_n (n := 0) (Z7.out.below g) rfl)
  have CS := Lib.hid (slots_any T B m c S W8 H8.out (sort_all _ (by rw [HN.out]; omega)))
  clear H7 K7 O7 U7 Z7 g
  go_wp2_with (first
    | (go_at_call 26; with_reducible refine C2.out.mono ?_; rintro e w' ⟨rfl, rfl⟩)
    | (go_at_call 26; with_reducible refine C3.out.mono ?_; rintro e w' ⟨rfl, rfl⟩)
    | (go_at_call 28; refine CS.out.mono ?_; rintro e W9 ⟨vs2, ys, rfl, O9, TL2, g⟩; refine stopHere ?_))
  unfold Stop
  have exy : ys = xs := told_one TL2 HL.out HW.out
  subst exy
  have CM := Lib.hid (slots_same vs2 (.slice A1 N cap1) _ _ ys W9 O9 (own_below O8.out g) (by rw [HX.out]; omega))
  have K9 := Lib.hid (kbq K8.out g)
  clear O9 TL2 g C2 C3 CS
  go_wp2_with (go_at_call 29; refine CM.out.mono ?_; rintro e W10 ⟨rfl, g⟩)
  go_ret
  exact ⟨rfl, kbq K9.out (g.lo (Nat.le_refl _))⟩
end Go.Proofs.YtajddbabgclhoaaGreat.Wd
