/- The law PastMeter answers true, for any steps and numbers; no conditions. -/
import Derived.Test.YtinlppadebdjgaaPasG
namespace Go.Proofs.Ytinlppadebdjgaa.Wd
open Go Go.RowKit
set_option linter.unusedVariables false

set_option maxRecDepth 100000 in
theorem pastMeter_long (a : Option Addr) (n cap : Nat) (most : Int) (w : World) (hn : 40 < n) (hm : n ≤ 9223372036854775807) :
    Calls Try.prog 4 #[.slice a n cap, .int .u32 most] w fun e w' => e = .returned (.bool true) ∧ Below w.heap.size w w' := by
  have hn' : (40 : Int) < (n : Int) := by omega
  go_enter Try.func4, Try.ntmps4
  go_wp2_with (go_at_call 10; ((with_reducible refine (known_any _).mono ?_); rintro e w1 ⟨rfl, g1⟩))
  go_ret
  exact ⟨rfl, g1⟩

set_option maxRecDepth 100000 in
set_option maxHeartbeats 4000000 in
theorem pastMeter_short (a : Option Addr) (n cap : Nat) (p q r s : Nat → Int) (most : Int) (w : World) (hst : Steps w a n p q r s) (hn : n ≤ 40) (h1 : 0 ≤ most ∧ most ≤ 4294967295) :
    Calls Try.prog 4 #[.slice a n cap, .int .u32 most] w fun e w' => e = .returned (.bool true) ∧ Below w.heap.size w w' := by
  have hn' : ¬ ((40 : Int) < (n : Int)) := by omega
  have hni : Nice n p q r := hst.nice
  have hel := evL_length p q r n
  have E1 := Lib.hid (events_any a n cap p q r s w hst (by omega))
  rw [Nat.min_eq_left hn] at E1
  have um : U most := by unfold U; omega
  have R2 := Lib.hid (fun (w : World) (v : Value) (h : Hist w v (evL p q r n)) => h.rises (by omega))
  rw [evL_rises hni n (Nat.le_refl _)] at R2
  have HNi := Lib.hid hni
  have wm : IntKind.u64.wrap most = most := IntWalk.u64_in _ (by omega)
  clear hst hni
  go_enter Try.func4, Try.ntmps4
  go_wp2_with (go_at_call 11; ((with_reducible refine E1.out.mono ?_); rintro e w1 ⟨v1, rfl, own1, b1⟩; have hd1 := own_hist hel own1; refine stopHere ?_))
  unfold Stop
  have D1 := Lib.hid hd1
  obtain ⟨a2, cap2, rfl, c21, c22, c23⟩ := hd1
  rw [hel] at D1 ⊢
  have CC := Lib.hid c23
  clear own1 c23 c22 c21
  go_wp2
  have m0 := Met.new w1 34 3 0 0
  have bM : Below w1.heap.size w1 (w1.alloc (.cells #[.int .u8 3, .int .u64 0, .int .u64 0] 34)) := (Below.refl _ w1).alloc (Nat.le_refl _) _
  obtain ⟨M, hM⟩ : ∃ M, w1.heap.size = M := ⟨_, rfl⟩
  rw [hM] at m0
  have HM := Lib.hid hM
  simp only [hM]
  clear hM
  go_loopg [6, 9] n (fun g v i wr => ∃ (k : Nat) (es : List (Int × Int)) (A B : Int), k ≤ n ∧ g = n - k ∧ i = .int .i64 k ∧ Hist wr v es ∧ es.length ≤ k ∧ Twin es A B (tmL p r k) most (tot (evL p q r k)) ∧ Met wr M 3 A B ∧ v.ownBlock ≠ some M ∧ Below w1.heap.size w1 wr)
  case atStart => exact ⟨0, [], 0, 0, Nat.zero_le _, rfl, rfl, nil_hist _, Nat.le_refl _, Twin.none most, m0, by simp [Value.ownBlock], bM⟩
  case round =>
    clear m0 bM
    obtain ⟨k, es, A, B, hk, rfl, rfl, hv, hlen, tw, mt, hne, hB⟩ := hrel
    by_cases hlt : k < n
    · obtain ⟨b, off, rfl, hb, d0, d1⟩ := CC.out k _ (evL_at p q r n k hlt)
      dsimp only at d0 d1
      have bt := tmL_le HNi.out (k + 1) hlt
      have bw := wtL_le HNi.out k hlt
      have bs := tot_evL_le HNi.out k hk
      have hstep := tmL_step HNi.out k hlt
      have uT : U (tmL p r (k + 1)) := by unfold U; omega
      have ux : U (wtL q r k) := by unfold U; omega
      obtain ⟨hq, tw2, uB2⟩ := tw.step (tmL p r (k + 1)) (wtL q r k) hstep uT ux um (by omega)
      rw [← tot_evL] at tw2
      have uB : U B := by have := tw.b0; have := tw.bT; have := tmL_le HNi.out k hk; unfold U; omega
      have DD (w' : World) (v' : Value) (h : Hist w' v' es) := pdec_any v' es (tmL p r (k + 1)) most (wtL q r k) w' h tw.eu (by omega) uT um ux
      have MD (w' : World) := mdecide_any 3 A B (tmL p r (k + 1)) most (wtL q r k) w' tw.ua uB uT um ux
      have eK : deK 3 A B (tmL p r (k + 1)) most (wtL q r k) = 3 := by unfold deK; split <;> rfl
      rw [eK] at MD
      rw [hq] at DD
      have hl2 : (dcL es (tmL p r (k + 1)) most (wtL q r k)).length ≤ k + 1 := Twin.len hlen
      have FF (w' : World) (v' : Value) (h : Hist w' v' (dcL es (tmL p r (k + 1)) most (wtL q r k))) := h.fill tw2.eu (by omega) uT
      have MF (w' : World) := mfill_any 3 _ _ _ w' tw2.ua uB2 uT
      have CF (w' : World) (v' : Value) (h : Hist w' v' (dcL es (tmL p r (k + 1)) most (wtL q r k))) := h.conf tw2.eu (by omega) um
      rw [tw2.here] at FF
      rw [tw2.cf] at CF
      have TW2 := Lib.hid tw2
      have HL2 := Lib.hid hl2
      clear hq eK hstep bt bs bw tw hel
      generalize hE2 : dcL es (tmL p r (k + 1)) most (wtL q r k) = es2 at *
      generalize deA A B (tmL p r (k + 1)) most (wtL q r k) = A2 at *
      generalize deT A B (tmL p r (k + 1)) most (wtL q r k) = B2 at *
      generalize deB A B (tmL p r (k + 1)) most (wtL q r k) = qd at *
      generalize fiI A2 B2 (tmL p r (k + 1)) = X0 at *
      generalize hTk : tmL p r (k + 1) = T2 at *
      generalize wtL q r k = Wt at *
      have HTk := Lib.hid hTk
      have HDD := Lib.hid DD
      have HMD := Lib.hid MD
      have HFF := Lib.hid FF
      have HMF := Lib.hid MF
      have HCF := Lib.hid CF
      have mkS (w' : World) (hB : Below w1.heap.size w1 w') : w'.cell? ⟨b, off + k * 2, none⟩ = some (.int .u64 T2) ∧ w'.cell? ⟨b, off + k * 2 + 1, none⟩ = some (.int .u64 Wt) := ⟨(hB.cell hb).trans d0, (hB.cell hb).trans d1⟩
      have MK := Lib.hid mkS
      clear DD MD FF MF CF hTk hE2 mkS tw2 uB2 uB uT ux d0 d1
      obtain ⟨c1, c2⟩ := MK.out wr hB
      have kW := Below.refl wr.heap.size wr
      go_wp2
      go_region_held3 (fun w' => Below wr.heap.size wr w' ∧ w'.cell? ⟨b, off + k * 2, none⟩ = some (.int .u64 T2) ∧ w'.cell? ⟨b, off + k * 2 + 1, none⟩ = some (.int .u64 Wt))
        (first | with_reducible exact ⟨kW, c1, c2⟩ | with_reducible exact ⟨kW.drew, dcell c1, dcell c2⟩)
        ((go_at_call 13; ((with_reducible refine (HDD.out _ _ (hv.below (by first | exact kW | exact kW.drew))).mono ?_); rintro e w2 ⟨v2, rfl, own2, b2⟩; replace c1 := celln b2 (by first | exact c1 | exact dcell c1); replace c2 := celln b2 (by first | exact c2 | exact dcell c2); (first | with_reducible (replace kW := kbq kW b2) | with_reducible (replace kW := kbq kW.drew b2)))))
      have hne2 : v2.ownBlock ≠ some M := by
        intro e
        have h5 := own_block own2 M e
        have h6 := mt.lt
        have h7 : wr.drew.heap.size = wr.heap.size := rfl
        omega
      have hv2 := own_hist rfl own2
      have mt2 := mt.below kW
      have hB2 := kbq hB kW
      have zM := mt2.lt
      have mk2 (w' : World) (hh : Below w2.heap.size w2 w') : Below w2.heap.size w2 w' ∧ (w'.cell? ⟨b, off + k * 2, none⟩ = some (.int .u64 T2) ∧ w'.cell? ⟨b, off + k * 2 + 1, none⟩ = some (.int .u64 Wt)) ∧ (w'.cell? ⟨M, 0, none⟩ = some (.int .u8 3) ∧ w'.cell? ⟨M, 1, none⟩ = some (.int .u64 A) ∧ w'.cell? ⟨M, 2, none⟩ = some (.int .u64 B)) := ⟨hh, ⟨celln hh c1, celln hh c2⟩, (mt2.below hh).1⟩
      have MK2 := Lib.hid mk2
      have z1 := mt2.1.1
      have z2 := mt2.1.2.1
      have z3 := mt2.1.2.2
      clear mk2 own2 kW b2 mt hv
      have kV := Below.refl w2.heap.size w2
      have zV : w2.heap.size ≤ w2.heap.size := Nat.le_refl _
      go_wp2
      go_region_held3 (fun w' => Below w2.heap.size w2 w' ∧ (w'.cell? ⟨b, off + k * 2, none⟩ = some (.int .u64 T2) ∧ w'.cell? ⟨b, off + k * 2 + 1, none⟩ = some (.int .u64 Wt)) ∧ (w'.cell? ⟨M, 0, none⟩ = some (.int .u8 3) ∧ w'.cell? ⟨M, 1, none⟩ = some (.int .u64 A) ∧ w'.cell? ⟨M, 2, none⟩ = some (.int .u64 B)))
        (exact MK2.out _ (by first | with_reducible exact kV | with_reducible exact kV.drew | with_reducible exact kV.alloc kV.size _ | with_reducible exact (kV.alloc kV.size _).drew | with_reducible exact kV.drew.alloc kV.size _ | with_reducible exact below_put3 kV zV _ _ _))
        (first
        | (go_at_call 14; ((with_reducible refine (HMD.out _).mono ?_); (rintro e w3 ⟨rfl, g⟩); (have g2 := kbel g); (first | with_reducible (replace kV := kbq kV g2) | with_reducible (replace kV := kbq kV.drew g2)); clear g g2))
        | (go_at_call 14; ((with_reducible refine (HMD.out _).mono ?_); (rintro e w3 ⟨rfl, g⟩); (have g2 := kbel g); (first | with_reducible (have mX := (Met.new _ _ 0 0 0).below g2) | with_reducible (have mX := (Met.new _ _ 0 0 0).drew.below g2)); (first | with_reducible (replace kV := kbq (kV.alloc kV.size _) g2) | with_reducible (replace kV := kbq (kV.drew.alloc kV.size _) g2) | with_reducible (replace kV := kbq (kV.alloc kV.size _).drew g2)); (have y0 := mX.1.1); (have y1 := mX.1.2.1); (have y2 := mX.1.2.2); (have y3 := mX.2.1); (have y4 := mX.2.2.1); (have y5 := mX.2.2.2); clear g g2)))
      · have mX := Met.new w3 34 3 A2 B2
        have kW := kV.alloc kV.size (.cells #[.int .u8 3, .int .u64 A2, .int .u64 B2] 34)
        have hXX : w2.heap.size ≤ w3.heap.size := kV.size
        generalize w3.alloc (.cells #[.int .u8 3, .int .u64 A2, .int .u64 B2] 34) = W at *
        generalize w3.heap.size = X at *
        have mM := mt2.below kW
        have hXM : X ≠ M := by omega
        obtain ⟨x0, x1, x2⟩ := mX.1
        obtain ⟨p0, p1, p2⟩ := mM.1
        obtain ⟨f0, f1, f2⟩ := mM.2
        clear c1 c2 z1 z2 z3 kV
        have zX := mX.lt
        have zM2 := mM.lt
        go_wp2
        have mY := mM.put 3 A2 B2
        have hY := (hv2.below kW).put3 hne2 3 A2 B2
        have bY := below_put3 (kbq hB2 kW) (Nat.le_of_eq HM.out) 3 A2 B2
        unfold put3 at mY hY bY
        clear x0 x1 x2 p0 p1 p2 f0 f1 f2 mM mX hXM zX zM2 mt2 hv2 kW hB2 zV zM MK2
        generalize ((W.setCell ⟨M, 0, none⟩ (.int .u8 3)).setCell ⟨M, 1, none⟩ (.int .u64 A2)).setCell ⟨M, 2, none⟩ (.int .u64 B2) = Y at *
        obtain ⟨c1, c2⟩ := MK.out Y bY
        have mk3 (w' : World) (hh : Below Y.heap.size Y w') : (w'.cell? ⟨b, off + k * 2, none⟩ = some (.int .u64 T2) ∧ w'.cell? ⟨b, off + k * 2 + 1, none⟩ = some (.int .u64 Wt)) ∧ (w'.cell? ⟨M, 0, none⟩ = some (.int .u8 3) ∧ w'.cell? ⟨M, 1, none⟩ = some (.int .u64 A2) ∧ w'.cell? ⟨M, 2, none⟩ = some (.int .u64 B2)) := ⟨⟨celln hh c1, celln hh c2⟩, (mY.below hh).1⟩
        have MK3 := Lib.hid mk3
        obtain ⟨q0, q1, q2⟩ := mY.1
        have kU := Below.refl Y.heap.size Y
        have hYY := Lib.hid hY
        have e1 : (qd != qd) = false := by simp
        have e2 : (X0 != X0) = false := by simp
        have e3 : (X0 == X0) = true := by simp
        have e4 : (qd == qd) = true := by simp
        clear mk3
        go_region_held3 (fun w' => (w'.cell? ⟨b, off + k * 2, none⟩ = some (.int .u64 T2) ∧ w'.cell? ⟨b, off + k * 2 + 1, none⟩ = some (.int .u64 Wt)) ∧ (w'.cell? ⟨M, 0, none⟩ = some (.int .u8 3) ∧ w'.cell? ⟨M, 1, none⟩ = some (.int .u64 A2) ∧ w'.cell? ⟨M, 2, none⟩ = some (.int .u64 B2)))
          (exact MK3.out _ (by first | with_reducible exact kU | with_reducible exact kU.drew))
          (first
          | (go_at_call 15; ((with_reducible refine (HFF.out _ _ (hYY.out.below (by first | with_reducible exact kU | with_reducible exact kU.drew))).mono ?_); (rintro e w5 ⟨rfl, g⟩); (first | with_reducible (replace kU := kbq kU g) | with_reducible (replace kU := kbq kU.drew g)); clear g))
          | (go_at_call 16; ((with_reducible refine (HMF.out _).mono ?_); (rintro e w6 ⟨rfl, g⟩); (have g2 := kbel g); (first | with_reducible (replace kU := kbq kU g2) | with_reducible (replace kU := kbq kU.drew g2)); clear g g2))
          | (go_at_call 17; ((with_reducible refine (HCF.out _ _ (hYY.out.below (by first | with_reducible exact kU | with_reducible exact kU.drew))).mono ?_); (rintro e w7 ⟨rfl, g⟩); (first | with_reducible (replace kU := kbq kU g) | with_reducible (replace kU := kbq kU.drew g)); clear g)))
        go_wp2
        go_roundg (n - (k + 1))
        case measure => omega
        case rel => exact ⟨k + 1, es2, A2, B2, by omega, rfl, by simp, hYY.out.below kU, HL2.out, by rw [HTk.out]; exact TW2.out, mY.below kU, hne2, kbq bY kU⟩
      · replace mX := mX.put 3 A2 B2
        have kW := below_put3 kV zV 3 A2 B2
        unfold put3 at mX kW
        clear y0 y1 y2 y3 y4 y5
        generalize ((w3.setCell ⟨w2.heap.size, 0, none⟩ (.int .u8 3)).setCell ⟨w2.heap.size, 1, none⟩ (.int .u64 A2)).setCell ⟨w2.heap.size, 2, none⟩ (.int .u64 B2) = W at *
        obtain ⟨X, hX⟩ : ∃ X, w2.heap.size = X := ⟨_, rfl⟩
        have hXX : w2.heap.size ≤ X := by omega
        rw [hX] at mX
        simp only [hX]
        clear hX
        have mM := mt2.below kW
        have hXM : X ≠ M := by omega
        obtain ⟨x0, x1, x2⟩ := mX.1
        obtain ⟨p0, p1, p2⟩ := mM.1
        obtain ⟨f0, f1, f2⟩ := mM.2
        clear c1 c2 z1 z2 z3 kV
        have zX := mX.lt
        have zM2 := mM.lt
        go_wp2
        have mY := mM.put 3 A2 B2
        have hY := (hv2.below kW).put3 hne2 3 A2 B2
        have bY := below_put3 (kbq hB2 kW) (Nat.le_of_eq HM.out) 3 A2 B2
        unfold put3 at mY hY bY
        clear x0 x1 x2 p0 p1 p2 f0 f1 f2 mM mX hXM zX zM2 mt2 hv2 kW hB2 zV zM MK2
        generalize ((W.setCell ⟨M, 0, none⟩ (.int .u8 3)).setCell ⟨M, 1, none⟩ (.int .u64 A2)).setCell ⟨M, 2, none⟩ (.int .u64 B2) = Y at *
        obtain ⟨c1, c2⟩ := MK.out Y bY
        have mk3 (w' : World) (hh : Below Y.heap.size Y w') : (w'.cell? ⟨b, off + k * 2, none⟩ = some (.int .u64 T2) ∧ w'.cell? ⟨b, off + k * 2 + 1, none⟩ = some (.int .u64 Wt)) ∧ (w'.cell? ⟨M, 0, none⟩ = some (.int .u8 3) ∧ w'.cell? ⟨M, 1, none⟩ = some (.int .u64 A2) ∧ w'.cell? ⟨M, 2, none⟩ = some (.int .u64 B2)) := ⟨⟨celln hh c1, celln hh c2⟩, (mY.below hh).1⟩
        have MK3 := Lib.hid mk3
        obtain ⟨q0, q1, q2⟩ := mY.1
        have kU := Below.refl Y.heap.size Y
        have hYY := Lib.hid hY
        have e1 : (qd != qd) = false := by simp
        have e2 : (X0 != X0) = false := by simp
        have e3 : (X0 == X0) = true := by simp
        have e4 : (qd == qd) = true := by simp
        clear mk3
        go_region_held3 (fun w' => (w'.cell? ⟨b, off + k * 2, none⟩ = some (.int .u64 T2) ∧ w'.cell? ⟨b, off + k * 2 + 1, none⟩ = some (.int .u64 Wt)) ∧ (w'.cell? ⟨M, 0, none⟩ = some (.int .u8 3) ∧ w'.cell? ⟨M, 1, none⟩ = some (.int .u64 A2) ∧ w'.cell? ⟨M, 2, none⟩ = some (.int .u64 B2)))
          (exact MK3.out _ (by first | with_reducible exact kU | with_reducible exact kU.drew))
          (first
          | (go_at_call 15; ((with_reducible refine (HFF.out _ _ (hYY.out.below (by first | with_reducible exact kU | with_reducible exact kU.drew))).mono ?_); (rintro e w5 ⟨rfl, g⟩); (first | with_reducible (replace kU := kbq kU g) | with_reducible (replace kU := kbq kU.drew g)); clear g))
          | (go_at_call 16; ((with_reducible refine (HMF.out _).mono ?_); (rintro e w6 ⟨rfl, g⟩); (have g2 := kbel g); (first | with_reducible (replace kU := kbq kU g2) | with_reducible (replace kU := kbq kU.drew g2)); clear g g2))
          | (go_at_call 17; ((with_reducible refine (HCF.out _ _ (hYY.out.below (by first | with_reducible exact kU | with_reducible exact kU.drew))).mono ?_); (rintro e w7 ⟨rfl, g⟩); (first | with_reducible (replace kU := kbq kU g) | with_reducible (replace kU := kbq kU.drew g)); clear g)))
        go_wp2
        go_roundg (n - (k + 1))
        case measure => omega
        case rel => exact ⟨k + 1, es2, A2, B2, by omega, rfl, by simp, hYY.out.below kU, HL2.out, by rw [HTk.out]; exact TW2.out, mY.below kU, hne2, kbq bY kU⟩
    · obtain rfl : k = n := by omega
      have hD := D1.out.below hB
      have R1 := tw.rs
      have HR1 := Lib.hid (fun (w : World) (v : Value) (h : Hist w v es) => h.rises (by omega))
      rw [R1] at HR1
      clear R1
      go_wp2_with (first
        | (go_at_call 10; ((with_reducible refine (known_any _).mono ?_); rintro e w4 ⟨rfl, b4⟩; have hv4 := hv.below b4; have hD4 := hD.below b4))
        | (go_at_call 18; ((with_reducible refine (HR1.out _ _ hv4).mono ?_); rintro e w5 ⟨rfl, b5⟩; have hD5 := hD4.below b5))
        | (go_at_call 18; ((with_reducible refine (R2.out _ _ hD5).mono ?_); rintro e w6 ⟨rfl, b6⟩)))
      go_ret
      exact ⟨rfl, kbq (kbq (kbq (kbq b1 hB) b4) b5) b6⟩

theorem pastMeter_law (a : Option Addr) (n cap : Nat) (p q r s : Nat → Int) (most : Int) (w : World) (hst : Steps w a n p q r s) (hm : n ≤ 9223372036854775807) (h1 : 0 ≤ most ∧ most ≤ 4294967295) :
    Calls Try.prog 4 #[.slice a n cap, .int .u32 most] w fun e w' => e = .returned (.bool true) ∧ Below w.heap.size w w' := by
  by_cases hn : 40 < n
  · exact pastMeter_long a n cap most w hn hm
  · exact pastMeter_short a n cap p q r s most w hst (by omega) h1
end Go.Proofs.Ytinlppadebdjgaa.Wd
