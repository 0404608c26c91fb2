/- KeepFull answers true, for any deeds and choices; no conditions. -/
import Derived.Test.YtbejkcdaefkibaaGreatZAF
import Derived.Test.YtbejkcdaefkibaaGreatZAG
import Derived.Test.YtbejkcdaefkibaaGreatZAH
import Derived.Test.YtbejkcdaefkibaaGreatZAD
namespace Go.Proofs.YtbejkcdaefkibaaGreat.Wd
open Go Go.RowKit Go.Deep Go.Shelf
set_option linter.unusedVariables false
set_option maxRecDepth 100000
attribute [local go_sem] Oper.semAt_some
set_option maxHeartbeats 8000000 in
theorem full15_walk (k0 : Int) (A0 : Option Addr) (n cap : Nat) (ds : List Dd) (m0 : Int) (A3 : Option Addr) (n3 cap3 : Nat) (bs : List UInt8) (w : World) (h : Dds w A0 n ds) (h3 : Txt w A3 n3 bs) (hk : 0 ≤ k0 ∧ k0 ≤ 255) (hm0 : 0 ≤ m0 ∧ m0 ≤ 255) (hn3 : n3 ≤ 9223372036854775807) :
    Calls Tryz.prog 11 #[.int .u8 k0, .slice A0 n cap, .int .u8 m0, .slice A3 n3 cap3] w fun e w' => e = .returned (.bool true) ∧ Below w.heap.size w w' := by
  have K0 := Lib.hid (fun V => kknown_any V)
  have HD := Lib.hid h
  have HX := Lib.hid h3
  have CH := Lib.hid (heavy_any A0 n cap ds w h)
  have CR := Lib.hid (fun V (g : Below w.heap.size w V) => rules_any m0 A3 n3 cap3 bs V (h3.below g) hn3 hm0)
  clear h h3
  go_enter Tryz.func11, Tryz.ntmps11
  go_wp2_with (go_at_call 18; refine CH.out.mono ?_; rintro e W1 ⟨v, rfl, k1⟩; refine stopHere ?_)
  unfold Stop
  by_cases hv : 400 < v
  · have hq := decide_eq_true hv
    clear CH CR
    go_wp2_with (go_at_call 35; refine (K0.out _).mono ?_; rintro e W2 ⟨rfl, g⟩)
    go_ret
    exact ⟨rfl, kbq k1 g⟩
  have hq := decide_eq_false hv
  have CB := Lib.hid (both_any k0 A0 n cap ds W1 (HD.out.below k1) hk)
  clear CH
  go_wp2_with (go_at_call 19; refine CB.out.mono ?_; rintro e W2 ⟨T, u, c, S, A, rfl, HI, hc, hF, g⟩; refine stopHere ?_)
  unfold Stop
  have K2 := Lib.hid (kbq k1 g)
  obtain ⟨B, base, hT, _, hO, _⟩ := hF
  obtain ⟨Au, capu, rfl, _⟩ := hO.rds
  have HT := Lib.hid hT
  have HS := Lib.hid (HI.out.tw.diag)
  have HC := Lib.hid (show c ≤ 4611686018427387904 by omega)
  have HM := Lib.hid (show 1 + k0 % 9 ≤ 30 by omega)
  clear hT hO g CB k1 HI HD hc
  generalize 1 + k0 % 9 = m at *
  have H3 := Lib.hid (HT.out.below ((Below.refl _ W2).alloc (Nat.le_refl _) (.cells (rcs m c (.slice Au A.length capu)) Trf)))
  have K3 := Lib.hid (K2.out.alloc K2.out.size (.cells (rcs m c (.slice Au A.length capu)) Trf))
  go_upto_region 4 with fail
  revert H3 K3
  generalize W2.alloc (.cells (rcs m c (.slice Au A.length capu)) Trf) = W3
  intro H3 K3
  clear HT K2
  go_wp2_with (go_at_call 15; refine (CR.out _ K3.out).mono ?_; rintro e W4 ⟨vr, rs, rfl, O, hokr, hl9, g⟩; refine stopHere ?_)
  unfold Stop
  obtain ⟨N, hN⟩ : ∃ N, rs.length = N := ⟨_, rfl⟩
  obtain ⟨Ar, capr, rfl, _, R4, _, _⟩ := O.form3 hokr hN
  have K4 := Lib.hid (kbq K3.out g)
  have H4 := Lib.hid (H3.out.below g)
  have hN9 : N ≤ 1000000 := by omega
  have HRO := Lib.hid (fun K r (e : findR rs K = some r) => (find_okr R4.2.1 K r e))
  clear O g H3 K3 CR hokr hl9 hN
  generalize 1 + m0 % 9 = mo at *
  have g5 : Below W4.heap.size W4 (W4.alloc (.cells #[.int .i64 30, .slice Ar N capr] 24)) := (Below.refl _ W4).alloc (Nat.le_refl _) _
  have H5 := Lib.hid (H4.out.below g5)
  have K5 := Lib.hid (kbq K4.out g5)
  have R5 := Lib.hid (R4.below g5)
  have B5 := Lib.hid (Blk.new W4 #[.int .i64 30, .slice Ar N capr] 24)
  clear g5 R4 H4 K4
  go_upto_region 8 with fail
  revert H5 K5 R5 B5
  generalize W4.alloc (.cells #[.int .i64 30, .slice Ar N capr] 24) = W5
  intro H5 K5 R5 B5
  obtain ⟨P, hP⟩ : ∃ P, W4.heap.size = P := ⟨_, rfl⟩
  rw [hP] at B5 ⊢
  obtain ⟨p0, p1⟩ : W5.cell? ⟨P, 0, none⟩ = some (.int .i64 30) ∧ W5.cell? ⟨P, 1, none⟩ = some (.slice Ar N capr) := ⟨B5.out.cell 0, B5.out.cell 1⟩
  clear hP
  obtain ⟨G, hG⟩ : ∃ G, (S.filter (fun s => (stayS rs c s).isNone)).length = G := ⟨_, rfl⟩
  have HG := Lib.hid hG
  have C1 := Lib.hid (keep_full T B m c 30 S Ar N capr G rs W5 H5.out HS.out HC.out R5.out hN9 HM.out (by decide) hG)
  clear hG
  go_wp2_with (go_at_call 39; refine C1.out.mono ?_; rintro e W6 ⟨T2, B2, S2, rfl, h2, hp, g⟩; refine stopHere ?_)
  unfold Stop
  have K6 := Lib.hid (kbq K5.out g)
  have H6 := Lib.hid (H5.out.below g)
  have U6 := Lib.hid h2
  have P6 := Lib.hid hp
  have R6 := Lib.hid (R5.out.below g)
  have B6 := Lib.hid (B5.out.below g)
  clear C1 H5 K5 R5 B5 p0 p1 h2 hp g
  obtain ⟨p0, p1⟩ : W6.cell? ⟨P, 0, none⟩ = some (.int .i64 30) ∧ W6.cell? ⟨P, 1, none⟩ = some (.slice Ar N capr) := ⟨B6.out.cell 0, B6.out.cell 1⟩
  have C1 := Lib.hid (lost_full T B m c 30 S Ar N capr rs W6 H6.out R6.out hN9)
  go_wp2_with (go_at_call 40; refine C1.out.mono ?_; rintro e W7 ⟨X, ul, rfl, TX, OL, g⟩; refine stopHere ?_)
  unfold Stop
  have hXr := told_rise TX H6.out.wf.ap
  obtain ⟨Al, capl, eu, _, _, hLs⟩ := OL.sts (fun x hx => by
    obtain ⟨s, hs, rfl⟩ := List.mem_map.1 hx
    have := (H6.out.wf.ok s ((TX.mem s).1 (List.mem_filter.1 hs).1)).oks.key
    omega)
  have eG : ((X.filter (fun s => (stayS rs c s).isNone)).map (fun s => s.key)).length = G := by
    rw [List.length_map, (hXr.2.filter _).length_eq]; exact HG.out
  rw [eG] at eu hLs
  subst eu
  have HXR := Lib.hid hXr.1
  have K7 := Lib.hid (kbq K6.out g)
  have H7 := Lib.hid (H6.out.below g)
  have U7 := Lib.hid (U6.out.below g)
  have L7 := Lib.hid hLs
  have LX := Lib.hid TX
  have EG := Lib.hid eG
  obtain ⟨M, hM⟩ : ∃ M, S.length = M := ⟨_, rfl⟩
  obtain ⟨M2, hM2⟩ : ∃ M2, S2.length = M2 := ⟨_, rfl⟩
  have hMM : G + M2 = M := by rw [← hM, ← hM2, ← HG.out, P6.out.length_eq]; exact gone_len S
  have hMb : M ≤ 1000000 := by rw [← hM]; have h1 := H6.out.wf.len; have h2 := HM.out; omega
  have CA := Lib.hid (active_n (n := M) H7.out hM)
  have CA2 := Lib.hid (active_n (n := M2) U7.out hM2)
  have CC := Lib.hid (clock_n H7.out)
  have CC2 := Lib.hid (clock_n U7.out)
  have wsum : IntKind.i64.wrap ((M2 : Int) + (G : Int)) = (M : Int) := by rw [IntKind.wrap_i64]; omega
  have HSM := Lib.hid hM
  have HSM2 := Lib.hid hM2
  have HMM := Lib.hid hMM
  have HWF := Lib.hid H7.out.wf
  have HWF2 := Lib.hid U7.out.wf
  clear C1 K6 H6 U6 R6 B6 p0 p1 OL g hLs eG TX hXr hM hM2 HG hMM
  go_upto_region 12 with (first
    | (go_at_call 29; with_reducible refine CC2.out.mono ?_; rintro e w' ⟨rfl, hh⟩; replace hh := hh.symm; subst hh)
    | (go_at_call 29; with_reducible refine CC.out.mono ?_; rintro e w' ⟨rfl, hh⟩; replace hh := hh.symm; subst hh)
    | (go_at_call 41; with_reducible refine CA2.out.mono ?_; rintro e w' ⟨rfl, hh⟩; replace hh := hh.symm; subst hh)
    | (go_at_call 41; with_reducible refine CA.out.mono ?_; rintro e w' ⟨rfl, hh⟩; replace hh := hh.symm; subst hh))
  clear CC CC2 CA CA2 wsum
  have CE := Lib.hid (entries_any T B m c S W7 H7.out (sort_all _ (by rw [HSM.out]; omega)))
  go_wp2_with (go_at_call 28; refine CE.out.mono ?_; rintro e W8 ⟨v8, X8, rfl, O8, TL, g⟩; refine stopHere ?_)
  unfold Stop
  obtain rfl : X8 = X := told_one TL LX.out HWF.out.ap
  have K8 := Lib.hid (kbq K7.out g)
  have U8 := Lib.hid (U7.out.below g)
  have L8 := Lib.hid (L7.out.below g)
  have O8' := Lib.hid O8
  clear CE K7 H7 U7 L7 g TL O8
  have CE := Lib.hid (entries_any T2 B2 30 c S2 W8 U8.out (sort_all _ (by rw [HSM2.out]; have := HMM.out; omega)))
  go_wp2_with (go_at_call 28; refine CE.out.mono ?_; rintro e W9 ⟨v9, Y, rfl, O9, TL, g⟩; refine stopHere ?_)
  unfold Stop
  have EY := Lib.hid (told_stay HWF.out HWF2.out LX.out TL P6.out)
  have lY : Y.length = M2 := by rw [TL.len]; exact HSM2.out
  have lX : X8.length = M := by rw [LX.out.len]; exact HSM.out
  have K9 := Lib.hid (kbq K8.out g)
  have U9 := Lib.hid (U8.out.below g)
  have L9 := Lib.hid (L8.out.below g)
  have W8r := Lib.hid (own_below O8'.out g)
  have W9r := Lib.hid O9
  have TY := Lib.hid TL
  clear CE K8 U8 L8 g TL O9 O8'
  obtain ⟨A8, c8, rfl, _, _, hf8⟩ := OwE.form W8r.out
  obtain ⟨A9, c9, rfl, _, _, hf9⟩ := OwE.form W9r.out
  rw [List.length_map, lX] at hf8 ⊢
  rw [List.length_map, lY] at hf9 ⊢
  have HF8 := Lib.hid hf8
  have HF9 := Lib.hid hf9
  have HLX := Lib.hid lX
  have HLY := Lib.hid lY
  have HL9 := Lib.hid L9.out
  clear hf8 hf9 W8r W9r lX lY
  have HOK := Lib.hid (fun z (hz : z ∈ Y) => (show z.k = z.r.k from by
    rw [EY.out] at hz
    obtain ⟨s, hs, e⟩ := List.mem_filterMap.1 hz
    obtain ⟨r, hr, _, _, h0, rfl⟩ := stay_some e
    exact kmK_is (HWF.out.ok s ((LX.out.mem s).1 hs)).kind (rule_is3 h0)))
  have HST := Lib.hid (fun (k : Nat) (hk : k < X8.length) (z : Sl) (e : stayS rs c X8[k] = some z) => aN_some (X := X8) hk e)
  have HGO := Lib.hid (fun (k : Nat) (hk : k < X8.length) (e : stayS rs c X8[k] = none) => gN_none (X := X8) hk e)
  have HSame := Lib.hid (fun s (hs : s ∈ X8) z (e : stayS rs c s = some z) => (show entS c z = entS c s from by
    have hs' := (LX.out.mem s).1 hs
    have tw := (stay_twi (HS.out s hs') (HWF.out.ok s hs') HRO.out HWF.out.cu HC.out e).1
    show (z.key, dueS c z) = (s.key, dueS c s)
    rw [tw.key, tw.due HWF.out.cu]))
  have hG0 := L9.out.2.2
  have HG0 := Lib.hid hG0
  have hM2b : M2 ≤ 1000000 := by have := HMM.out; omega
  have hGb : G ≤ 1000000 := by have := HMM.out; omega
  clear hG0 HS HC HM HRO
  obtain ⟨p, hp⟩ : ∃ p : Nat, p = 0 := ⟨_, rfl⟩
  go_upto_region 17 with fail
  go_loopw [18, 19, 20] (fun s18 s19 s20 wx => ∃ k : Nat, s18 = .int .i64 ((aNk (stayS rs c) X8 k : Nat) : Int) ∧ s19 = .int .i64 ((gNk (stayS rs c) X8 k : Nat) : Int) ∧ s20 = .int .i64 (k : Int) ∧ k ≤ M ∧ Drew W9 wx) (fun _ _ s _ => M - (intOf s).toNat)
  case atStart => exact ⟨0, rfl, rfl, rfl, Nat.zero_le _, Drew.refl _⟩
  case round =>
    obtain ⟨k, rfl, rfl, rfl, hk, hd⟩ := hrel
    have hpl : aNk (stayS rs c) X8 k ≤ M2 := by rw [← HLY.out, EY.out]; exact aN_le _ _ _
    have hgl : gNk (stayS rs c) X8 k ≤ G := by have := gN_le (stayS rs c) X8 k; rw [← EG.out, List.length_map]; exact this
    have HDR := Lib.hid hd
    by_cases hlt : k < M
    · have hkx : k < X8.length := by rw [HLX.out]; exact hlt
      have hltI : (k : Int) < (M : Int) := by omega
      obtain ⟨b8, rfl, _, hb8, hc8⟩ := HF8.out (by omega)
      obtain ⟨x0, x1⟩ := hc8 k hlt
      have es : atE (X8.map (entS c)) k = entS c X8[k] := by simp [atE, List.getD, hkx]
      rw [es] at x0 x1
      rw [← cell_drew hd] at x0 x1
      have HSX := Lib.hid (HSame.out X8[k] (List.getElem_mem hkx))
      cases e : stayS rs c X8[k] with
      | some z =>
        obtain ⟨ea, eg, ez⟩ := HST.out k hkx z e
        have hpY : aNk (stayS rs c) X8 k < Y.length := by rw [EY.out]; exact (List.getElem?_eq_some_iff.1 ez).1
        have hpM : aNk (stayS rs c) X8 k < M2 := by rw [← HLY.out]; exact hpY
        obtain ⟨b9, rfl, _, hb9, hc9⟩ := HF9.out (by omega)
        obtain ⟨y0, y1⟩ := hc9 _ hpM
        have ey : atE (Y.map (entS c)) (aNk (stayS rs c) X8 k) = entS c X8[k] := by
          rw [← HSX.out z e, EY.out]; simp [atE, List.getD, ez]
        rw [ey] at y0 y1
        rw [← cell_drew hd] at y0 y1
        have HEA := Lib.hid ea
        have HEG := Lib.hid eg
        clear es ez ey ea eg hpY e hc8 hc9 HSX hd
        generalize entS c X8[k] = en at x0 x1 y0 y1
        obtain ⟨K, D⟩ := en
        dsimp only at x0 x1 y0 y1
        generalize aNk (stayS rs c) X8 k = p at *
        generalize gNk (stayS rs c) X8 k = q at *
        have hpI : (p : Int) < (M2 : Int) := by omega
        go_wp2_with fail
        go_quiet (fail)
        go_wp2
        go_roundw
        case rel => exact ⟨k + 1, by rw [HEA.out]; go_num, by rw [HEG.out], by go_num, by omega, HDR.out.trans (Drew.of _ _)⟩
        case measure => simp [intOf]; omega
      | none =>
        obtain ⟨ea, eg, ez, hne⟩ := HGO.out k hkx e
        have hgL : gNk (stayS rs c) X8 k < ((X8.filter (fun s => (stayS rs c s).isNone)).map (fun s => s.key)).length := by rw [List.length_map]; exact (List.getElem?_eq_some_iff.1 ez).1
        have hgM : gNk (stayS rs c) X8 k < G := by rw [← EG.out]; exact hgL
        obtain ⟨b7, o7, rfl, hb7, hc7⟩ := HG0.out (by omega)
        have z0 := hc7 _ hgM
        have el : ((X8.filter (fun s => (stayS rs c s).isNone)).map (fun s => s.key)).getD (gNk (stayS rs c) X8 k) nob = (entS c X8[k]).1 := by
          simp [List.getD, ez]; rfl
        rw [el] at z0
        rw [← cell_drew hd] at z0
        have HEA := Lib.hid ea
        have HEG := Lib.hid eg
        by_cases hpM : aNk (stayS rs c) X8 k < M2
        · have hpY : aNk (stayS rs c) X8 k < Y.length := by rw [HLY.out]; exact hpM
          obtain ⟨b9, rfl, _, hb9, hc9⟩ := HF9.out (by omega)
          obtain ⟨y0, y1⟩ := hc9 _ hpM
          have ey : atE (Y.map (entS c)) (aNk (stayS rs c) X8 k) = entS c Y[aNk (stayS rs c) X8 k] := by simp [atE, List.getD, hpY]
          have hdk : (entS c Y[aNk (stayS rs c) X8 k]).1 ≠ (entS c X8[k]).1 := by
            refine gone_key HXR.out hkx (hne _ ?_)
            rw [← EY.out]; exact List.getElem?_eq_getElem hpY
          rw [ey] at y0 y1
          rw [← cell_drew hd] at y0 y1
          clear es ez ey el ea eg e hne hc8 hc9 hc7 HSX hd hgL
          generalize entS c Y[aNk (stayS rs c) X8 k] = en2 at y0 y1 hdk
          generalize entS c X8[k] = en at x0 x1 z0 hdk
          obtain ⟨K, D⟩ := en
          obtain ⟨K2, D2⟩ := en2
          dsimp only at x0 x1 y0 y1 z0 hdk
          generalize aNk (stayS rs c) X8 k = p at *
          generalize gNk (stayS rs c) X8 k = q at *
          have hpI : (p : Int) < (M2 : Int) := by omega
          have hqI : (q : Int) < (G : Int) := by omega
          have hts : (K2.toList == K.toList) = false := by rw [text_same]; exact decide_eq_false hdk
          have hts2 : (K.toList == K.toList) = true := beq_self_eq_true _
          go_wp2_with fail
          go_quiet (fail)
          go_wp2_with fail
          go_quiet (fail)
          go_wp2
          go_roundw
          case rel => exact ⟨k + 1, by rw [HEA.out], by rw [HEG.out]; go_num, by go_num, by omega, HDR.out.trans ⟨_, rfl⟩⟩
          case measure => simp [intOf]; omega
        · have hpE : aNk (stayS rs c) X8 k = M2 := by omega
          clear es ez el ea eg e hne hc8 hc7 HSX hd hgL
          generalize entS c X8[k] = en at x0 x1 z0
          obtain ⟨K, D⟩ := en
          dsimp only at x0 x1 z0
          generalize aNk (stayS rs c) X8 k = p at *
          generalize gNk (stayS rs c) X8 k = q at *
          have hpI : ¬ (p : Int) < (M2 : Int) := by omega
          have hqI : (q : Int) < (G : Int) := by omega
          have hts2 : (K.toList == K.toList) = true := beq_self_eq_true _
          have HPE := Lib.hid hpE
          clear hpE
          go_wp2_with fail
          go_quiet (fail)
          go_wp2_with fail
          go_quiet (fail)
          go_wp2
          go_roundw
          case rel => exact ⟨k + 1, by rw [HEA.out], by rw [HEG.out]; go_num, by go_num, by omega, HDR.out.trans ⟨_, rfl⟩⟩
          case measure => simp [intOf]; omega
    · have hkM : k = M := by omega
      have hnlt : ¬ (k : Int) < (M : Int) := by omega
      have eaa : aNk (stayS rs c) X8 k = M2 := by rw [hkM, ← HLX.out, aN_all, ← EY.out, HLY.out]
      have egg : gNk (stayS rs c) X8 k = G := by rw [hkM, ← HLX.out, gN_all, ← EG.out, List.length_map]
      have KR := Lib.hid (kbq K9.out (hd.lo (Nat.le_refl _)))
      have UR := Lib.hid (U9.out.below (hd.lo (Nat.le_refl _)))
      have CS := Lib.hid (slots_any T2 B2 30 c S2 wr UR.out (sort_all _ (by rw [HSM2.out]; omega)))
      rw [eaa, egg]
      clear hpl hgl hd HDR HST HGO HSame HF8 HF9 HG0 HL9 L9 K9 U9 eaa egg UR hkM
      go_wp2_with (go_at_call 42; refine CS.out.mono ?_; rintro e W10 ⟨vs, Z, rfl, O10, TL, g⟩; refine stopHere ?_)
      unfold Stop
      obtain rfl : Z = Y := told_one TL TY.out HWF2.out.ap
      have K10 := Lib.hid (kbq KR.out g)
      obtain ⟨Az, cz, rfl, _, _, hfz⟩ := O10.form
      rw [HLY.out] at hfz ⊢
      have HFZ := Lib.hid hfz
      clear hfz O10 TL g CS KR
      go_wp2_with fail
      go_loopw [22] (fun s22 wx => ∃ j : Nat, s22 = .int .i64 (j : Int) ∧ j ≤ M2 ∧ Drew W10 wx) (fun s _ => M2 - (intOf s).toNat)
      case atStart => exact ⟨0, rfl, Nat.zero_le _, Drew.refl _⟩
      case round =>
        obtain ⟨j, rfl, hj, hd⟩ := hrel
        have HDR := Lib.hid hd
        by_cases hlj : j < M2
        · have hjI : (j : Int) < (M2 : Int) := by omega
          obtain ⟨bz, rfl, _, _, hcz⟩ := HFZ.out (by omega)
          obtain ⟨y0, y1, y2, y3, y4, y5, y6, y7⟩ := (hcz j hlj).eight
          have hjY : j < Z.length := by rw [HLY.out]; exact hlj
          have hk := HOK.out (atS Z j) (by simp [atS, List.getD, hjY])
          rw [hk] at y5
          rw [← cell_drew hd] at y4 y5
          clear y0 y1 y2 y3 y6 y7 hcz hk hd hjY
          generalize (atS Z j).r.k = kk at *
          go_wp2_with fail
          go_quiet (fail)
          go_wp2
          go_roundw
          case rel => exact ⟨j + 1, by go_num, by omega, HDR.out.trans ⟨_, rfl⟩⟩
          case measure => simp [intOf]; omega
        · have hjI : ¬ (j : Int) < (M2 : Int) := by omega
          have KR := Lib.hid (kbq K10.out (hd.lo (Nat.le_refl _)))
          go_wp2_with (go_at_call 35; refine (K0.out _).mono ?_; rintro e W11 ⟨rfl, g⟩)
          go_ret
          exact ⟨rfl, kbq KR.out g⟩
end Go.Proofs.YtbejkcdaefkibaaGreat.Wd
