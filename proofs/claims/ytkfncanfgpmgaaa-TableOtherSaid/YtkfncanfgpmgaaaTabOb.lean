/- TableOther answers true, for any deeds and choices; no conditions. -/
import Derived.Test.YtkfncanfgpmgaaaTabOa
import Derived.Deep.LoopGhost
import Derived.Deep.CutRange
namespace Go.Proofs.Ytkfncanfgpmgaaa.Wd
open Go Go.RowKit Go.Shelf Go.Deep
set_option linter.unusedVariables false
set_option maxRecDepth 100000

abbrev tY : ByteArray := ⟨#[121]⟩
abbrev tX : ByteArray := ⟨#[120]⟩
theorem Pr.lo {w : World} {n0 T Y : Nat} {m1 c1 m2 c2 : Int} {S1 S2 : List Sl} (h : Pr w n0 T Y m1 c1 S1 m2 c2 S2) : n0 ≤ w.heap.size := h.1
theorem x_not_y (t : ByteArray) : tY ≠ tX ++ t := by
  intro e
  have h := congrArg (fun s : ByteArray => s.data.toList) e
  simp at h
set_option maxHeartbeats 8000000 in
theorem other_walk (A : Option Addr) (n cap : Nat) (ds : List Dd) (k : Int) (w : World) (h : Dds w A n ds) (hk : 0 ≤ k ∧ k ≤ 255) :
    Calls Try.prog 4 #[.slice A n cap, .int .u8 k] w fun e w' => e = .returned (.bool true) ∧ Below w.heap.size w w' := by
  have K0 := Lib.hid known_any
  have HD := Lib.hid h
  have CH := Lib.hid (heavy_any A n cap ds w h)
  have hkk : 0 ≤ k % 240 ∧ k % 240 ≤ 255 := by omega
  have tm240 : k.tmod 240 = k % 240 := Int.tmod_eq_emod_of_nonneg hk.1
  have CR := Lib.hid (fun W => rule_any (k % 240) W hkk)
  have HG := Lib.hid (show Good tY (ruleK (k % 240)) from ⟨by decide, (ruleK_ok (k % 240) (by omega)).2.1, (ruleK_ok (k % 240) (by omega)).1, by decide⟩)
  clear h
  go_enter Try.func4, Try.ntmps4
  go_wp2_with (go_at_call 5; refine CH.out.mono ?_; rintro e W1 ⟨v, rfl, k1⟩; refine stopHere ?_)
  unfold Stop
  by_cases hv : 300 < v
  · have hq := decide_eq_true hv
    clear CH CR
    go_wp2_with (go_at_call 6; refine (K0.out _).mono ?_; rintro e W2 ⟨rfl, g⟩)
    go_ret
    exact ⟨rfl, kbq k1 g⟩
  · have hq := decide_eq_false hv
    generalize ruleK (k % 240) = r at *
    clear CH
    go_wp2_with (go_at_call 9; refine (new_any 50 _).mono ?_; rintro e W2 ⟨rfl, g2, hT2, hs2⟩; refine stopHere ?_)
    unfold Stop
    go_wp2_with (go_at_call 9; refine (new_any 50 _).mono ?_; rintro e W3 ⟨rfl, g3, hT3, hs3⟩; refine stopHere ?_)
    unfold Stop
    obtain ⟨n0, hn0⟩ : ∃ n0, w.heap.size = n0 := ⟨_, rfl⟩
    have hk3 := Lib.hid (kbq (kbq k1 g2) g3)
    have hP0 : Hid (Pr W3 n0 (W1.heap.size + 1) (W2.heap.size + 1) 50 0 [] 50 0 []) := Lib.hid (by
      have s1 := k1.size
      have s2 := g2.size
      have s3 := g3.size
      refine ⟨by omega, _, _, (show Tbl W3 _ _ 50 0 [] from hT2.below g3), hT3, fun k a b => ?_, fun k a => ?_, fun k a => ?_⟩
      · have := a.2; have := b.1; omega
      · exact ⟨by have := a.1; omega, by have := a.2; omega⟩
      · exact ⟨by have := a.1; omega, a.2⟩)
    generalize W1.heap.size + 1 = T at *
    generalize W2.heap.size + 1 = Y at *
    rw [hn0] at hk3
    have HN0 := Lib.hid hn0
    clear g2 hT2 hs2 g3 hT3 hs3 k1 hn0
    go_wp2_with fail
    go_loopw [7] (fun i wr => ∃ (j : Nat) (c : Int) (S1 S2 : List Sl), i = .int .i64 (j : Int) ∧ (j ≤ n ∧ j ≤ 30) ∧ (0 ≤ c ∧ c ≤ 50 * (j : Int)) ∧ Hid (Pr wr n0 T Y 50 c S1 50 c S2) ∧ Hid (Solo tY r c S1) ∧ Hid (getS S1 tY = getS S2 tY ∧ S2.length ≤ j) ∧ Hid (Below n0 w wr)) (fun i _ => 30 - (intOf i).toNat)
    case atStart => exact ⟨0, 0, [], [], rfl, ⟨Nat.zero_le _, Nat.zero_le _⟩, ⟨Int.le_refl _, Int.le_refl _⟩, hP0, Lib.hid (Solo.nil _ _ _), Lib.hid ⟨rfl, Nat.le_refl _⟩, hk3⟩
    case round =>
      clear hP0 hk3
      obtain ⟨j, c, S1, S2, rfl, ⟨hjn, hj30⟩, ⟨hc0, hc8⟩, hP, HS, HSS, HB⟩ := hrel
      go_upto_region 8 with fail
      go_cut [27] from 20 to 27 (fun v wx => ∃ t : Bool, v = .bool t ∧ Hid (t = true ↔ (j < n ∧ j < 30)) ∧ Hid (wx = wr))
      case first =>
        by_cases q1 : j < n
        · have q1' : (j : Int) < (n : Int) := by omega
          by_cases q2 : j < 30
          · have q2' : (j : Int) < 30 := by omega
            go_wp2
            go_meet
            case rel => exact ⟨true, rfl, Lib.hid (by simp [q1, q2]), Lib.hid rfl⟩
          · have q2' : decide ((j : Int) < 30) = false := decide_eq_false (by omega)
            go_wp2
            go_meet
            case rel => exact ⟨false, rfl, Lib.hid (by simp [q2]), Lib.hid rfl⟩
        · have q1' : decide ((j : Int) < (n : Int)) = false := decide_eq_false (by omega)
          go_wp2
          go_meet
          case rel => exact ⟨false, rfl, Lib.hid (by simp [q1]), Lib.hid rfl⟩
      case rest =>
      obtain ⟨tt, rfl, htt, hwx⟩ := hcut
      obtain rfl := hwx.out.symm
      clear hwx
      cases tt
      · have hP0s := Lib.hid hP.out.1
        clear htt HD
        have L1 := Lib.hid (fun V (g : Pr V n0 T Y 50 c S1 50 c S2) => clock_yes T c V g.clock1)
        have L2 := Lib.hid (fun V (g : Pr V n0 T Y 50 c S1 50 c S2) => clock_yes Y c V g.clock2)
        go_wp2_with (first
          | (go_at_call 6; refine (K0.out _).mono ?_; rintro e W4 ⟨rfl, g⟩; replace hP := Lib.hid (hP.out.below g); have HB4 := Lib.hid (HB.out.trans (g.mono hP0s.out)); clear g)
          | (go_at_call 12; with_reducible refine (L1.out _ hP.out).mono ?_; rintro e _ ⟨rfl, rfl⟩)
          | (go_at_call 12; with_reducible refine (L2.out _ hP.out).mono ?_; rintro e _ ⟨rfl, rfl⟩))
        go_ret
        exact ⟨rfl, by rw [HN0.out]; exact HB4.out⟩
      · obtain ⟨hj1, hj2⟩ := htt.out.1 rfl
        clear htt
        obtain ⟨b, off, ka, kn, kc, rfl, hd0⟩ := HD.out.2.2.2 j hj1
        have hok := HD.out.ok hj1
        obtain ⟨d, hdd⟩ : ∃ d, ds.getD j dd0 = d := ⟨_, rfl⟩
        rw [hdd] at hd0 hok
        have hbw := cell_lt hd0.c0
        have HBw := Lib.hid (show Below w.heap.size w wr by rw [HN0.out]; exact HB.out)
        have hd := hd0.below HBw.out
        have hD := Lib.hid hd
        have d0 := hd.c0
        have nb : ¬ (n0 ≤ b) := by have := HN0.out; omega
        have hkind := hok.kind
        have hdw := hok.wait
        have hdn := hok.n
        have hdr := hok.rule
        have jn : (j : Int) < (n : Int) := by omega
        have j0 : (0 : Int) ≤ (j : Int) := by omega
        have tm8 : d.kind.tmod 8 = d.kind % 8 := Int.tmod_eq_emod_of_nonneg hkind.1
        have tm2 : d.kind.tmod 2 = d.kind % 2 := Int.tmod_eq_emod_of_nonneg hkind.1
        have hsz := Lib.hid hP.out.1
        clear hdd hd0 hok hd
        by_cases h8 : d.kind % 8 = 0
        · have d1 := hD.out.c1
          have tm50 : d.wait.tmod 50 = d.wait % 50 := Int.tmod_eq_emod_of_nonneg hdw.1
          have wx50 : IntKind.u64.wrap (d.wait % 50) = d.wait % 50 := by rw [IntKind.wrap_u64]; omega
          have wxc : IntKind.u64.wrap (c + d.wait % 50) = c + d.wait % 50 := by rw [IntKind.wrap_u64]; omega
          have hU : U (c + d.wait % 50) := by unfold U; omega
          have L1 := Lib.hid (fun V (g : Pr V n0 T Y 50 c S1 50 c S2) => clock_yes T c V g.clock1)
          have hmx : max c (c + d.wait % 50) = c + d.wait % 50 := by omega
          have K1 := Lib.hid (fun V (g : Pr V n0 T Y 50 c S1 50 c S2) => g.tick1 (c + d.wait % 50) hU)
          rw [hmx] at K1
          have hW1 := Lib.hid hP.out.wf1
          have hW2 := Lib.hid hP.out.wf2
          go_wp2_with fail
          go_region_held3 (fun w' => w'.cell? ⟨b, off + j * 7 + 1, none⟩ = some (.int .u32 d.wait))
            (first | with_reducible exact d1 | with_reducible exact dcell d1)
            (first
              | (go_at_call 12; ((with_reducible refine (L1.out _ (by first | exact hP.out | exact hP.out.dr)).mono ?_); rintro r _ ⟨rfl, rfl⟩))
              | (go_at_call 11; ((with_reducible refine (K1.out _ (by first | exact hP.out | exact hP.out.dr)).mono ?_); rintro r W5 ⟨rfl, hP2, g⟩; (first | with_reducible (replace HB := Lib.hid (HB.out.trans (g.lo (n := n0) (fun k h => h) hP.out.lo)); replace d1 := cellT g d1 nb) | with_reducible (replace HB := Lib.hid (HB.out.trans ((Drew.lo (Drew.one _) hP.out.lo).trans (g.lo (n := n0) (fun k h => h) hP.out.dr.lo))); replace d1 := cellT g (dcell d1) nb)); clear hP; have hP := hP2; clear hP2)))
          rename_i hH
          clear hH
          have L2 := Lib.hid (fun V (g : Pr V n0 T Y 50 (c + d.wait % 50) (S1.filter (actB (c + d.wait % 50))) 50 c S2) => clock_yes Y c V g.clock2)
          have K2 := Lib.hid (fun V (g : Pr V n0 T Y 50 (c + d.wait % 50) (S1.filter (actB (c + d.wait % 50))) 50 c S2) => g.tick2 (c + d.wait % 50) hU)
          rw [hmx] at K2
          have hs5 := Lib.hid hP.out.1
          clear g L1 K1
          go_wp2_with fail
          go_region_held3 (fun w' => w'.cell? ⟨b, off + j * 7 + 1, none⟩ = some (.int .u32 d.wait))
            (first | with_reducible exact d1 | with_reducible exact dcell d1)
            (first
              | (go_at_call 12; ((with_reducible refine (L2.out _ (by first | exact hP.out | exact hP.out.dr)).mono ?_); rintro r _ ⟨rfl, rfl⟩))
              | (go_at_call 11; ((with_reducible refine (K2.out _ (by first | exact hP.out | exact hP.out.dr)).mono ?_); rintro r W6 ⟨rfl, hP2, g⟩; (first | with_reducible (replace HB := Lib.hid (HB.out.trans (g.lo (n := n0) (fun k h => h) hP.out.lo)); replace d1 := cellT g d1 nb) | with_reducible (replace HB := Lib.hid (HB.out.trans ((Drew.lo (Drew.one _) hP.out.lo).trans (g.lo (n := n0) (fun k h => h) hP.out.dr.lo))); replace d1 := cellT g (dcell d1) nb)); clear hP; have hP := hP2; clear hP2)))
          rename_i hH
          clear hH
          have NS := Lib.hid (HS.out.tick (show c ≤ c + d.wait % 50 by omega))
          have NG : Hid (getS (S1.filter (actB (c + d.wait % 50))) tY = getS (S2.filter (actB (c + d.wait % 50))) tY ∧ (S2.filter (actB (c + d.wait % 50))).length ≤ j + 1) := Lib.hid ⟨by rw [getS_filter hW1.out.ap, getS_filter hW2.out.ap, HSS.out.1], by have : (S2.filter (actB (c + d.wait % 50))).length ≤ S2.length := List.length_filter_le _ _; have := HSS.out.2; omega⟩
          clear g L2 K2 d1 d0 HS HSS
          go_wp2
          go_roundw
          case rel => exact ⟨j + 1, c + d.wait % 50, _, _, by go_num, ⟨by omega, by omega⟩, ⟨by omega, by omega⟩, hP, NS, NG, HB⟩
          case measure => simp [intOf]; omega
        · have h8' : (d.kind % 8 == 0) = false := by simpa using h8
          clear h8
          by_cases h2 : d.kind % 2 = 1
          · have d3 := hD.out.c3
            have d4 := hD.out.c4
            have CK := Lib.hid (fun V (g : Below wr.heap.size wr V) => key_any ka kn kc d.kb V (hD.out.txt.below g) hD.out.few)
            have CR1 := Lib.hid (fun W => rule_any d.rule W hdr)
            have hkt := keyT_ok d.kb
            have hok2 := ruleK_okr d.rule hdr
            generalize keyT d.kb = kt at *
            generalize ruleK d.rule = r2 at *
            have hks : kt.size ≤ 12 := hkt.2.1
            have hxs : (tX ++ kt).size ≤ 281474976710656 := by rw [ByteArray.size_append']; have : tX.size = 1 := rfl; omega
            have C1 := Lib.hid (fun V (g : Pr V n0 T Y 50 c S1 50 c S2) => g.charge2 (tX ++ kt) r2 1 hxs hok2 (by unfold U; decide))
            have kr := Below.refl wr.heap.size wr
            have hNN := Lib.hid (x_not_y kt)
            have hadd : ∀ V : World, (Op.stringOp .add tX kt).run Try.prog V = .ok (.string (tX ++ kt)) V := fun V => run_string_add_sum V tX kt (by have : tX.size = 1 := rfl; omega)
            clear hkt hok2 hxs
            go_wp2_with fail
            go_region_held3 (fun w' => w'.cell? ⟨b, off + j * 7 + 3, none⟩ = some (.slice ka kn kc) ∧ w'.cell? ⟨b, off + j * 7 + 4, none⟩ = some (.int .u8 d.rule))
              (first | with_reducible exact ⟨d3, d4⟩ | with_reducible exact ⟨dcell d3, dcell d4⟩)
              (first
                | (go_at_call 7; ((with_reducible refine (CK.out _ (by first | exact kr | exact kr.drew)).mono ?_); rintro r W5 ⟨rfl, g⟩; (first | with_reducible (replace HB := Lib.hid (HB.out.trans (g.mono hP.out.lo)); replace hP := Lib.hid (hP.out.below g); replace kr := kbq kr g; replace d3 := celln g d3; replace d4 := celln g d4) | with_reducible (replace HB := Lib.hid (HB.out.trans ((Drew.lo (Drew.one _) hP.out.lo).trans (g.mono hP.out.dr.lo))); replace hP := Lib.hid (hP.out.dr.below g); replace kr := kbq kr.drew g; replace d3 := celln g (dcell d3); replace d4 := celln g (dcell d4)))))
                | (go_at_call 8; ((with_reducible refine (CR1.out _).mono ?_); rintro r W6 ⟨rfl, g⟩; (first | with_reducible (replace HB := Lib.hid (HB.out.trans (g.mono hP.out.lo)); replace hP := Lib.hid (hP.out.below g); replace kr := kbq kr g; replace d3 := celln g d3; replace d4 := celln g d4) | with_reducible (replace HB := Lib.hid (HB.out.trans ((Drew.lo (Drew.one _) hP.out.lo).trans (g.mono hP.out.dr.lo))); replace hP := Lib.hid (hP.out.dr.below g); replace kr := kbq kr.drew g; replace d3 := celln g (dcell d3); replace d4 := celln g (dcell d4)))))
                | (go_at_call 10; ((with_reducible refine (C1.out _ (by first | exact hP.out | exact hP.out.dr)).mono ?_); rintro r W7 ⟨rfl, hP2, g⟩; (first | with_reducible (replace HB := Lib.hid (HB.out.trans (g.lo (n := n0) (fun k h => h) hP.out.lo)); replace d3 := cellT g d3 nb; replace d4 := cellT g d4 nb) | with_reducible (replace HB := Lib.hid (HB.out.trans ((Drew.lo (Drew.one _) hP.out.lo).trans (g.lo (n := n0) (fun k h => h) hP.out.dr.lo))); replace d3 := cellT g (dcell d3) nb; replace d4 := cellT g (dcell d4) nb)); clear hP; have hP := hP2; clear hP2)))
            rename_i hH
            clear hH
            have NG : Hid (getS S1 tY = getS (chN 50 c S2 (tX ++ kt) r2 1) tY ∧ (chN 50 c S2 (tX ++ kt) r2 1).length ≤ j + 1) := Lib.hid ⟨by rw [getS_chne hNN.out]; exact HSS.out.1, by have := chN_len 50 c 1 S2 (tX ++ kt) r2; have := HSS.out.2; omega⟩
            clear g C1 CK CR1 kr d3 d4 d0 hadd HSS
            go_wp2
            go_roundw
            case rel => exact ⟨j + 1, c, _, _, by go_num, ⟨by omega, by omega⟩, ⟨by omega, by omega⟩, hP, HS, NG, HB⟩
            case measure => simp [intOf]; omega
          · have h2' : (d.kind % 2 == 1) = false := by simpa using h2
            clear h2
            have d5 := hD.out.c5
            have tm4 : d.n.tmod 4 = d.n % 4 := Int.tmod_eq_emod_of_nonneg hdn.1
            have wn4 : IntKind.u64.wrap (d.n % 4) = d.n % 4 := by rw [IntKind.wrap_u64]; omega
            have hnU : U (d.n % 4) := by unfold U; omega
            obtain ⟨a, ha⟩ : ∃ a, chA 50 c S1 tY r (d.n % 4) = a := ⟨_, rfl⟩
            have hl1 : (S1.length : Int) < 50 := by have := HS.out.len hP.out.wf1; omega
            have hl2 : (S2.length : Int) < 50 := by have := HSS.out.2; omega
            obtain ⟨e1, e2⟩ := ch_same (m := 50) (c := c) (n := d.n % 4) (r := r) HSS.out.1 hl1 hl2
            obtain ⟨z1, z2, z3⟩ := HS.out.charge hP.out.wf1 HG.out hnU (by have := HG.out.cap; omega)
            have C1 := Lib.hid (fun V (g : Pr V n0 T Y 50 c S1 50 c S2) => g.charge1 tY r (d.n % 4) (by decide) HG.out.ok hnU)
            rw [ha] at C1
            have NG : Hid (getS (chN 50 c S1 tY r (d.n % 4)) tY = getS (chN 50 c S2 tY r (d.n % 4)) tY ∧ (chN 50 c S2 tY r (d.n % 4)).length ≤ j + 1) := Lib.hid ⟨e2, by have := chN_len 50 c (d.n % 4) S2 tY r; have := HSS.out.2; omega⟩
            have NS := Lib.hid z3
            have C2 := Lib.hid (fun V (g : Pr V n0 T Y 50 c (chN 50 c S1 tY r (d.n % 4)) 50 c S2) => g.charge2 tY r (d.n % 4) (by decide) HG.out.ok hnU)
            rw [← e1, ha] at C2
            have CA := Lib.hid (fun W => answers_same a W)
            generalize chN 50 c S1 tY r (d.n % 4) = N1 at *
            generalize chN 50 c S2 tY r (d.n % 4) = N2 at *
            clear ha hl1 hl2 e1 e2 z1 z2 z3
            go_wp2_with fail
            go_region_held3 (fun w' => w'.cell? ⟨b, off + j * 7 + 5, none⟩ = some (.int .u16 d.n))
              (first | with_reducible exact d5 | with_reducible exact dcell d5)
              (first
                | (go_at_call 8; ((with_reducible refine (CR.out _).mono ?_); rintro r W5 ⟨rfl, g⟩; (first | with_reducible (replace HB := Lib.hid (HB.out.trans (g.mono hP.out.lo)); replace hP := Lib.hid (hP.out.below g); replace d5 := celln g d5) | with_reducible (replace HB := Lib.hid (HB.out.trans ((Drew.lo (Drew.one _) hP.out.lo).trans (g.mono hP.out.dr.lo))); replace hP := Lib.hid (hP.out.dr.below g); replace d5 := celln g (dcell d5)))))
                | (go_at_call 10; ((with_reducible refine (C1.out _ (by first | exact hP.out | exact hP.out.dr)).mono ?_); rintro r W6 ⟨rfl, hP2, g⟩; (first | with_reducible (replace HB := Lib.hid (HB.out.trans (g.lo (n := n0) (fun k h => h) hP.out.lo)); replace d5 := cellT g d5 nb) | with_reducible (replace HB := Lib.hid (HB.out.trans ((Drew.lo (Drew.one _) hP.out.lo).trans (g.lo (n := n0) (fun k h => h) hP.out.dr.lo))); replace d5 := cellT g (dcell d5) nb)); clear hP; have hP := hP2; clear hP2))
                | (go_at_call 10; ((with_reducible refine (C2.out _ (by first | exact hP.out | exact hP.out.dr)).mono ?_); rintro r W8 ⟨rfl, hP2, g⟩; (first | with_reducible (replace HB := Lib.hid (HB.out.trans (g.lo (n := n0) (fun k h => h) hP.out.lo)); replace d5 := cellT g d5 nb) | with_reducible (replace HB := Lib.hid (HB.out.trans ((Drew.lo (Drew.one _) hP.out.lo).trans (g.lo (n := n0) (fun k h => h) hP.out.dr.lo))); replace d5 := cellT g (dcell d5) nb)); clear hP; have hP := hP2; clear hP2))
                | (go_at_call 13; ((with_reducible refine (CA.out _).mono ?_); rintro r W9 ⟨rfl, g⟩; (first | with_reducible (replace HB := Lib.hid (HB.out.trans (g.mono hP.out.lo)); replace hP := Lib.hid (hP.out.below g); replace d5 := celln g d5) | with_reducible (replace HB := Lib.hid (HB.out.trans ((Drew.lo (Drew.one _) hP.out.lo).trans (g.mono hP.out.dr.lo))); replace hP := Lib.hid (hP.out.dr.below g); replace d5 := celln g (dcell d5))))))
            rename_i hH
            clear hH
            clear g C1 C2 CA d5 d0 HS HSS
            go_wp2
            go_roundw
            case rel => exact ⟨j + 1, c, _, _, by go_num, ⟨by omega, by omega⟩, ⟨by omega, by omega⟩, hP, NS, NG, HB⟩
            case measure => simp [intOf]; omega
end Go.Proofs.Ytkfncanfgpmgaaa.Wd
