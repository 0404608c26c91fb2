/- KeepMost answers true, for any deeds, choices and size; no conditions. -/
import Derived.Test.YtbejkcdaefkibaaGreatZAF
import Derived.Test.YtbejkcdaefkibaaGreatZAG
import Derived.Test.YtbejkcdaefkibaaGreatZAH
namespace Go.Proofs.YtbejkcdaefkibaaGreat.Wd
open Go Go.RowKit Go.Deep Go.Shelf
set_option linter.unusedVariables false
set_option maxRecDepth 100000
attribute [local go_sem] Oper.semAt_some
set_option maxHeartbeats 4000000 in
theorem most15_walk (k0 : Int) (A0 : Option Addr) (n cap : Nat) (ds : List Dd) (m0 : Int) (A3 : Option Addr) (n3 cap3 : Nat) (bs : List UInt8) (nn : Int) (w : World) (h : Dds w A0 n ds) (h3 : Txt w A3 n3 bs) (hk : 0 ≤ k0 ∧ k0 ≤ 255) (hm0 : 0 ≤ m0 ∧ m0 ≤ 255) (hn3 : n3 ≤ 9223372036854775807) (hnn : -9223372036854775808 ≤ nn ∧ nn ≤ 9223372036854775807) :
    Calls Tryz.prog 12 #[.int .u8 k0, .slice A0 n cap, .int .u8 m0, .slice A3 n3 cap3, .int .i64 nn] w fun e w' => e = .returned (.bool true) ∧ Below w.heap.size w w' := by
  have K0 := Lib.hid (fun V => kknown_any V)
  have HD := Lib.hid h
  have HX := Lib.hid h3
  have CH := Lib.hid (heavy_any A0 n cap ds w h)
  have CR := Lib.hid (fun V (g : Below w.heap.size w V) => rules_any m0 A3 n3 cap3 bs V (h3.below g) hn3 hm0)
  clear h h3
  go_enter Tryz.func12, Tryz.ntmps12
  go_wp2_with (go_at_call 18; refine CH.out.mono ?_; rintro e W1 ⟨v, rfl, k1⟩; refine stopHere ?_)
  unfold Stop
  by_cases hv : 400 < v
  · have hq := decide_eq_true hv
    clear CH CR
    go_wp2_with (go_at_call 35; refine (K0.out _).mono ?_; rintro e W2 ⟨rfl, g⟩)
    go_ret
    exact ⟨rfl, kbq k1 g⟩
  have hq := decide_eq_false hv
  have CB := Lib.hid (both_any k0 A0 n cap ds W1 (HD.out.below k1) hk)
  clear CH
  go_wp2_with (go_at_call 19; refine CB.out.mono ?_; rintro e W2 ⟨T, u, c, S, A, rfl, HI, hc, hF, g⟩; refine stopHere ?_)
  unfold Stop
  have K2 := Lib.hid (kbq k1 g)
  obtain ⟨B, base, hT, _, hO, _⟩ := hF
  obtain ⟨Au, capu, rfl, _⟩ := hO.rds
  have HT := Lib.hid hT
  have HS := Lib.hid (HI.out.tw.diag)
  have HC := Lib.hid (show c ≤ 4611686018427387904 by omega)
  have HM := Lib.hid (show 1 + k0 % 9 ≤ 9 by omega)
  clear hT hO g CB k1 HI HD hc
  generalize 1 + k0 % 9 = m at *
  have H3 := Lib.hid (HT.out.below ((Below.refl _ W2).alloc (Nat.le_refl _) (.cells (rcs m c (.slice Au A.length capu)) Trf)))
  have K3 := Lib.hid (K2.out.alloc K2.out.size (.cells (rcs m c (.slice Au A.length capu)) Trf))
  go_upto_region 4 with fail
  revert H3 K3
  generalize W2.alloc (.cells (rcs m c (.slice Au A.length capu)) Trf) = W3
  intro H3 K3
  clear HT K2
  go_wp2_with (go_at_call 15; refine (CR.out _ K3.out).mono ?_; rintro e W4 ⟨vr, rs, rfl, O, hokr, hl9, g⟩; refine stopHere ?_)
  unfold Stop
  obtain ⟨N, hN⟩ : ∃ N, rs.length = N := ⟨_, rfl⟩
  obtain ⟨Ar, capr, rfl, _, R4, _, _⟩ := O.form3 hokr hN
  have K4 := Lib.hid (kbq K3.out g)
  have H4 := Lib.hid (H3.out.below g)
  have hN9 : N ≤ 1000000 := by omega
  clear O g H3 K3 CR hokr hl9 hN
  generalize 1 + m0 % 9 = mo at *
  have g5 : Below W4.heap.size W4 (W4.alloc (.cells #[.int .i64 mo, .slice Ar N capr] 24)) := (Below.refl _ W4).alloc (Nat.le_refl _) _
  have Q5 := Lib.hid g5
  have HR := Lib.hid R4
  have B5 := Lib.hid (Blk.new W4 #[.int .i64 mo, .slice Ar N capr] 24)
  clear g5 R4
  go_upto_region 7 with fail
  revert Q5 B5
  generalize W4.alloc (.cells #[.int .i64 mo, .slice Ar N capr] 24) = W5
  intro Q5 B5
  obtain ⟨P, hP⟩ : ∃ P, W4.heap.size = P := ⟨_, rfl⟩
  rw [hP] at B5 ⊢
  have HP := Lib.hid (show W4.heap.size ≤ P from Nat.le_of_eq hP)
  obtain ⟨p0, p1⟩ : W5.cell? ⟨P, 0, none⟩ = some (.int .i64 mo) ∧ W5.cell? ⟨P, 1, none⟩ = some (.slice Ar N capr) := ⟨B5.out.cell 0, B5.out.cell 1⟩
  clear hP
  obtain ⟨L, hL⟩ : ∃ L, (S.filterMap (stayS rs c)).length = L := ⟨_, rfl⟩
  obtain ⟨G, hG⟩ : ∃ G, (S.filter (fun s => (stayS rs c s).isNone)).length = G := ⟨_, rfl⟩
  obtain ⟨M, hM⟩ : ∃ M, S.length = M := ⟨_, rfl⟩
  have hGL : G + L = M := by rw [← hL, ← hG, ← hM]; exact gone_len S
  have hM9 : M ≤ 9 := by have h1 := H4.out.wf.len; have h2 := HM.out; omega
  have wML : IntKind.i64.wrap ((M : Int) - (G : Int)) = (L : Int) := by rw [IntKind.wrap_i64]; omega
  have wL1 : IntKind.i64.wrap ((L : Int) - 1) = (L : Int) - 1 := by rw [IntKind.wrap_i64]; omega
  have HL := Lib.hid hL
  have CA := Lib.hid (fun V (g : Below W5.heap.size W5 V) => active_n (n := M) (H4.out.below (kbq Q5.out g)) hM)
  have CL := Lib.hid (fun V (g : Below W5.heap.size W5 V) => lost_num T B m c mo S Ar N capr L G rs V (H4.out.below (kbq Q5.out g)) (HR.out.below (kbq Q5.out g)) hN9 hL (by rw [hM]; exact hGL))
  have CK := Lib.hid (fun V mo (g : Below W4.heap.size W4 V) => keep_num T B m c mo S Ar N capr L rs V (H4.out.below g) HS.out HC.out (HR.out.below g) hN9 hL)
  clear hL hG hM HS HC
  go_region_held3 (fun w' => w'.cell? ⟨P, 0, none⟩ = some (.int .i64 mo) ∧ w'.cell? ⟨P, 1, none⟩ = some (.slice Ar N capr))
    (first | with_reducible exact ⟨p0, p1⟩ | with_reducible exact ⟨dcell p0, dcell p1⟩)
    (first
      | (go_at_call 41; (first
        | (with_reducible refine (CA.out _ (Below.refl _ _)).mono ?_; rintro r w2 ⟨rfl, rfl⟩)
        | (with_reducible refine (CA.out _ (below_dr _)).mono ?_; rintro r w2 ⟨rfl, rfl⟩)))
      | (go_at_call 40; (first
        | (with_reducible refine (CL.out _ (Below.refl _ _)).mono ?_; rintro r w3 ⟨A2, cap2, rfl, g⟩; have K7 := Lib.hid g; replace p0 := celln g p0; replace p1 := celln g p1)
        | (with_reducible refine (CL.out _ (below_dr _)).mono ?_; rintro r w3 ⟨A2, cap2, rfl, g⟩; have K7 := Lib.hid (kbq (below_dr _) g); replace p0 := celln g (dcell p0); replace p1 := celln g (dcell p1))
        | (with_reducible refine (CL.out _ (kbq (below_dr _) (below_dr _))).mono ?_; rintro r w3 ⟨A2, cap2, rfl, g⟩; have K7 := Lib.hid (kbq (kbq (below_dr _) (below_dr _)) g); replace p0 := celln g (dcell (dcell p0)); replace p1 := celln g (dcell (dcell p1)))); clear g))
  all_goals
    have B7 := Lib.hid (B5.out.below K7.out)
    have Q7 := Lib.hid (kbq Q5.out K7.out)
    clear CA CL K7 Q5 B5 p0 p1
    have f0 : w3.frozen? ⟨P, 0, none⟩ = false := B7.out.fz 0
    have e1 : moE (max 1 (L : Int)) L = 0 := by unfold moE; rw [if_neg (by omega), if_neg (by omega)]
    go_upto_region 9 with fail
    clear f0
    have B8 : Hid (Blk (w3.setCell ⟨P, 0, none⟩ (.int .i64 (max 1 (L : Int)))) P #[.int .i64 (max 1 (L : Int)), .slice Ar N capr] 24) := Lib.hid (by have z := B7.out.set 0 (.int .i64 (max 1 (L : Int))); simpa using z)
    have Q8 := Lib.hid (Q7.out.setCell (p := ⟨P, 0, none⟩) HP.out (.int .i64 (max 1 (L : Int))))
    revert B8 Q8
    generalize w3.setCell ⟨P, 0, none⟩ (.int .i64 (max 1 (L : Int))) = V8
    intro B8 Q8
    clear B7 Q7
    generalize max 1 (L : Int) = mx at *
    obtain ⟨p0, p1⟩ : V8.cell? ⟨P, 0, none⟩ = some (.int .i64 mx) ∧ V8.cell? ⟨P, 1, none⟩ = some (.slice Ar N capr) := ⟨B8.out.cell 0, B8.out.cell 1⟩
    have C1 := CK.out V8 mx Q8.out
    rw [e1] at C1
    have C1 := Lib.hid C1
    go_wp2_with (go_at_call 39; refine C1.out.mono ?_; rintro e W9 ⟨⟨o1, g1, rfl, _⟩, g⟩; refine stopHere ?_)
    unfold Stop
    have B9 := Lib.hid (B8.out.below g)
    have Q9 := Lib.hid (kbq Q8.out g)
    clear B8 Q8 p0 p1 C1 g e1
    have f0 : W9.frozen? ⟨P, 0, none⟩ = false := B9.out.fz 0
    obtain ⟨p0, p1⟩ : W9.cell? ⟨P, 0, none⟩ = some (.int .i64 mx) ∧ W9.cell? ⟨P, 1, none⟩ = some (.slice Ar N capr) := ⟨B9.out.cell 0, B9.out.cell 1⟩
    go_upto_region 11 with fail
    clear f0 p0 p1
    have B10 : Hid (Blk (W9.setCell ⟨P, 0, none⟩ (.int .i64 ((L : Int) - 1))) P #[.int .i64 ((L : Int) - 1), .slice Ar N capr] 24) := Lib.hid (by have z := B9.out.set 0 (.int .i64 ((L : Int) - 1)); simpa using z)
    have Q10 := Lib.hid (Q9.out.setCell (p := ⟨P, 0, none⟩) HP.out (.int .i64 ((L : Int) - 1)))
    revert B10 Q10
    generalize W9.setCell ⟨P, 0, none⟩ (.int .i64 ((L : Int) - 1)) = V10
    intro B10 Q10
    clear B9 Q9
    obtain ⟨p0, p1⟩ : V10.cell? ⟨P, 0, none⟩ = some (.int .i64 ((L : Int) - 1)) ∧ V10.cell? ⟨P, 1, none⟩ = some (.slice Ar N capr) := ⟨B10.out.cell 0, B10.out.cell 1⟩
    obtain ⟨E2, hE2, h2a⟩ : ∃ E2, moE ((L : Int) - 1) L = E2 ∧ (E2 = 29 ∧ L ≤ 1 ∨ E2 = 50 ∧ 1 < L) := by
      refine ⟨_, rfl, ?_⟩
      unfold moE
      by_cases q : L ≤ 1
      · left; exact ⟨if_pos (by omega), q⟩
      · right; exact ⟨by rw [if_neg (by omega), if_pos (by omega)], by omega⟩
    have C1 := CK.out V10 ((L : Int) - 1) Q10.out
    rw [hE2] at C1
    have C1 := Lib.hid C1
    have HE := Lib.hid h2a
    clear hE2 h2a
    go_wp2_with (go_at_call 39; refine C1.out.mono ?_; rintro e W11 ⟨⟨o2, g2, rfl, ho⟩, g⟩; refine stopHere ?_)
    unfold Stop
    obtain ⟨rfl, rfl⟩ := ho (by rcases HE.out with ⟨q, _⟩ | ⟨q, _⟩ <;> omega)
    have B11 := Lib.hid (B10.out.below g)
    have Q11 := Lib.hid (kbq Q10.out g)
    clear B10 Q10 p0 p1 C1 g ho
    have f0 : W11.frozen? ⟨P, 0, none⟩ = false := B11.out.fz 0
    obtain ⟨p0, p1⟩ : W11.cell? ⟨P, 0, none⟩ = some (.int .i64 ((L : Int) - 1)) ∧ W11.cell? ⟨P, 1, none⟩ = some (.slice Ar N capr) := ⟨B11.out.cell 0, B11.out.cell 1⟩
    go_upto_region 13 with fail
    clear f0 p0 p1
    have B12 : Hid (Blk (W11.setCell ⟨P, 0, none⟩ (.int .i64 nn)) P #[.int .i64 nn, .slice Ar N capr] 24) := Lib.hid (by have z := B11.out.set 0 (.int .i64 nn); simpa using z)
    have Q12 := Lib.hid (Q11.out.setCell (p := ⟨P, 0, none⟩) HP.out (.int .i64 nn))
    revert B12 Q12
    generalize W11.setCell ⟨P, 0, none⟩ (.int .i64 nn) = V12
    intro B12 Q12
    clear B11 Q11
    obtain ⟨p0, p1⟩ : V12.cell? ⟨P, 0, none⟩ = some (.int .i64 nn) ∧ V12.cell? ⟨P, 1, none⟩ = some (.slice Ar N capr) := ⟨B12.out.cell 0, B12.out.cell 1⟩
    obtain ⟨E3, hE3⟩ : ∃ E3, moE nn L = E3 := ⟨_, rfl⟩
    have C1 := CK.out V12 nn Q12.out
    rw [hE3] at C1
    have C1 := Lib.hid C1
    have HF := Lib.hid hE3
    clear hE3
    go_wp2_with (go_at_call 39; refine C1.out.mono ?_; rintro e W13 ⟨⟨o3, g3, rfl, _⟩, g⟩; refine stopHere ?_)
    unfold Stop
    have K13 := Lib.hid (kbq K4.out (kbq Q12.out g))
    clear B12 Q12 p0 p1 C1 g CK K4
    have CN := Lib.hid (keep_no W13)
    have h3 : (E3 = 29 ∧ nn < 1) ∨ (E3 = 29 ∧ 1 ≤ nn ∧ 1000000 < nn) ∨ (E3 = 50 ∧ 1 ≤ nn ∧ nn ≤ 1000000 ∧ nn < (L : Int)) ∨ (E3 = 0 ∧ 1 ≤ nn ∧ nn ≤ 1000000 ∧ (L : Int) ≤ nn) := by
      rw [← HF.out]
      unfold moE
      by_cases z1 : nn < 1
      · exact .inl ⟨if_pos (.inl z1), z1⟩
      · by_cases z2 : 1000000 < nn
        · exact .inr (.inl ⟨if_pos (.inr z2), by omega, z2⟩)
        · rw [if_neg (by omega)]
          by_cases z3 : nn < (L : Int)
          · exact .inr (.inr (.inl ⟨if_pos z3, by omega, by omega, z3⟩))
          · exact .inr (.inr (.inr ⟨if_neg z3, by omega, by omega, by omega⟩))
    have h2 := HE.out
    clear HE HF
    rcases h2 with ⟨rfl, hL1⟩ | ⟨rfl, hL1⟩
    · have hLI : (L : Int) ≤ 1 := by omega
      have hLn : ¬ (1 : Int) < (L : Int) := by omega
      have hLm : ¬ 1 < L := by omega
      rcases h3 with ⟨rfl, z1⟩ | ⟨rfl, z1, z2⟩ | ⟨rfl, z1, z2, z3⟩ | ⟨rfl, z1, z2, z3⟩
      · have d1 : decide (1 ≤ nn) = false := decide_eq_false (by omega)
        clear z1
        go_wp2_with (go_at_call 39; refine CN.out.mono ?_; rintro e W14 ⟨T2, B2, rfl, h2, g⟩; refine stopHere ?_)
        unfold Stop
        have U14 := Lib.hid h2
        have K14 := Lib.hid (kbq K13.out g)
        clear h2 g CN
        go_wp2_with (go_at_call 35; refine (K0.out _).mono ?_; rintro e W15 ⟨rfl, g⟩; refine stopHere ?_)
        unfold Stop
        have K15 := Lib.hid (kbq K14.out g)
        have CA := Lib.hid (active_n (n := 0) (U14.out.below g) rfl)
        clear g
        go_wp2_with (go_at_call 41; with_reducible refine CA.out.mono ?_; rintro e w' ⟨rfl, rfl⟩)
        go_ret
        exact ⟨rfl, K15.out⟩
      · have d1 : decide (1 ≤ nn) = true := decide_eq_true z1
        have d2 : decide (nn ≤ 1000000) = false := decide_eq_false (by omega)
        clear z1
        go_wp2_with (go_at_call 39; refine CN.out.mono ?_; rintro e W14 ⟨T2, B2, rfl, h2, g⟩; refine stopHere ?_)
        unfold Stop
        have U14 := Lib.hid h2
        have K14 := Lib.hid (kbq K13.out g)
        clear h2 g CN
        go_wp2_with (go_at_call 35; refine (K0.out _).mono ?_; rintro e W15 ⟨rfl, g⟩; refine stopHere ?_)
        unfold Stop
        have K15 := Lib.hid (kbq K14.out g)
        have CA := Lib.hid (active_n (n := 0) (U14.out.below g) rfl)
        clear g
        go_wp2_with (go_at_call 41; with_reducible refine CA.out.mono ?_; rintro e w' ⟨rfl, rfl⟩)
        go_ret
        exact ⟨rfl, K15.out⟩
      · have d1 : decide (1 ≤ nn) = true := decide_eq_true z1
        have d2 : decide (nn ≤ 1000000) = true := decide_eq_true z2
        have d3 : decide ((L : Int) ≤ nn) = false := decide_eq_false (by omega)
        clear z1
        go_wp2_with (go_at_call 39; refine CN.out.mono ?_; rintro e W14 ⟨T2, B2, rfl, h2, g⟩; refine stopHere ?_)
        unfold Stop
        have U14 := Lib.hid h2
        have K14 := Lib.hid (kbq K13.out g)
        clear h2 g CN
        go_wp2_with (go_at_call 35; refine (K0.out _).mono ?_; rintro e W15 ⟨rfl, g⟩; refine stopHere ?_)
        unfold Stop
        have K15 := Lib.hid (kbq K14.out g)
        have CA := Lib.hid (active_n (n := 0) (U14.out.below g) rfl)
        clear g
        go_wp2_with (go_at_call 41; with_reducible refine CA.out.mono ?_; rintro e w' ⟨rfl, rfl⟩)
        go_ret
        exact ⟨rfl, K15.out⟩
      · have d1 : decide (1 ≤ nn) = true := decide_eq_true z1
        have d2 : decide (nn ≤ 1000000) = true := decide_eq_true z2
        have d3 : decide ((L : Int) ≤ nn) = true := decide_eq_true z3
        clear z1
        go_wp2_with (go_at_call 39; refine CN.out.mono ?_; rintro e W14 ⟨T2, B2, rfl, h2, g⟩; refine stopHere ?_)
        unfold Stop
        have U14 := Lib.hid h2
        have K14 := Lib.hid (kbq K13.out g)
        clear h2 g CN
        go_wp2_with (go_at_call 35; refine (K0.out _).mono ?_; rintro e W15 ⟨rfl, g⟩; refine stopHere ?_)
        unfold Stop
        have K15 := Lib.hid (kbq K14.out g)
        have CA := Lib.hid (active_n (n := 0) (U14.out.below g) rfl)
        clear g
        go_wp2_with (go_at_call 41; with_reducible refine CA.out.mono ?_; rintro e w' ⟨rfl, rfl⟩)
        go_ret
        exact ⟨rfl, K15.out⟩
    · have hLI : ¬ (L : Int) ≤ 1 := by omega
      have hLn : (1 : Int) < (L : Int) := by omega
      have hLm : ¬ L ≤ 1 := by omega
      rcases h3 with ⟨rfl, z1⟩ | ⟨rfl, z1, z2⟩ | ⟨rfl, z1, z2, z3⟩ | ⟨rfl, z1, z2, z3⟩
      · have d1 : decide (1 ≤ nn) = false := decide_eq_false (by omega)
        clear z1
        go_wp2_with (go_at_call 39; refine CN.out.mono ?_; rintro e W14 ⟨T2, B2, rfl, h2, g⟩; refine stopHere ?_)
        unfold Stop
        have U14 := Lib.hid h2
        have K14 := Lib.hid (kbq K13.out g)
        clear h2 g CN
        go_wp2_with (go_at_call 35; refine (K0.out _).mono ?_; rintro e W15 ⟨rfl, g⟩; refine stopHere ?_)
        unfold Stop
        have K15 := Lib.hid (kbq K14.out g)
        have CA := Lib.hid (active_n (n := 0) (U14.out.below g) rfl)
        clear g
        go_wp2_with (go_at_call 41; with_reducible refine CA.out.mono ?_; rintro e w' ⟨rfl, rfl⟩)
        go_ret
        exact ⟨rfl, K15.out⟩
      · have d1 : decide (1 ≤ nn) = true := decide_eq_true z1
        have d2 : decide (nn ≤ 1000000) = false := decide_eq_false (by omega)
        clear z1
        go_wp2_with (go_at_call 39; refine CN.out.mono ?_; rintro e W14 ⟨T2, B2, rfl, h2, g⟩; refine stopHere ?_)
        unfold Stop
        have U14 := Lib.hid h2
        have K14 := Lib.hid (kbq K13.out g)
        clear h2 g CN
        go_wp2_with (go_at_call 35; refine (K0.out _).mono ?_; rintro e W15 ⟨rfl, g⟩; refine stopHere ?_)
        unfold Stop
        have K15 := Lib.hid (kbq K14.out g)
        have CA := Lib.hid (active_n (n := 0) (U14.out.below g) rfl)
        clear g
        go_wp2_with (go_at_call 41; with_reducible refine CA.out.mono ?_; rintro e w' ⟨rfl, rfl⟩)
        go_ret
        exact ⟨rfl, K15.out⟩
      · have d1 : decide (1 ≤ nn) = true := decide_eq_true z1
        have d2 : decide (nn ≤ 1000000) = true := decide_eq_true z2
        have d3 : decide ((L : Int) ≤ nn) = false := decide_eq_false (by omega)
        clear z1
        go_wp2_with (go_at_call 39; refine CN.out.mono ?_; rintro e W14 ⟨T2, B2, rfl, h2, g⟩; refine stopHere ?_)
        unfold Stop
        have U14 := Lib.hid h2
        have K14 := Lib.hid (kbq K13.out g)
        clear h2 g CN
        go_wp2_with (go_at_call 35; refine (K0.out _).mono ?_; rintro e W15 ⟨rfl, g⟩; refine stopHere ?_)
        unfold Stop
        have K15 := Lib.hid (kbq K14.out g)
        have CA := Lib.hid (active_n (n := 0) (U14.out.below g) rfl)
        clear g
        go_wp2_with (go_at_call 41; with_reducible refine CA.out.mono ?_; rintro e w' ⟨rfl, rfl⟩)
        go_ret
        exact ⟨rfl, K15.out⟩
      · have d1 : decide (1 ≤ nn) = true := decide_eq_true z1
        have d2 : decide (nn ≤ 1000000) = true := decide_eq_true z2
        have d3 : decide ((L : Int) ≤ nn) = true := decide_eq_true z3
        clear z1
        go_wp2_with (go_at_call 39; refine CN.out.mono ?_; rintro e W14 ⟨T2, B2, rfl, h2, g⟩; refine stopHere ?_)
        unfold Stop
        have U14 := Lib.hid h2
        have K14 := Lib.hid (kbq K13.out g)
        clear h2 g CN
        go_wp2_with (go_at_call 35; refine (K0.out _).mono ?_; rintro e W15 ⟨rfl, g⟩; refine stopHere ?_)
        unfold Stop
        have K15 := Lib.hid (kbq K14.out g)
        have CA := Lib.hid (active_n (n := 0) (U14.out.below g) rfl)
        clear g
        go_wp2_with (go_at_call 41; with_reducible refine CA.out.mono ?_; rintro e w' ⟨rfl, rfl⟩)
        go_ret
        exact ⟨rfl, K15.out⟩
end Go.Proofs.YtbejkcdaefkibaaGreat.Wd
