/- The law PastShift answers true, for any steps and numbers; no conditions. -/
import Derived.Test.YtinlppadebdjgaaPasT
namespace Go.Proofs.Ytinlppadebdjgaa.Wd
open Go Go.RowKit Go.Deep
set_option linter.unusedVariables false

theorem mv_evL (p q r : Nat → Int) (b : Int) (k : Nat) : mvL (evL p q r (k + 1)) b = mvL (evL p q r k) b ++ [(tmL p r (k + 1) + b, wtL q r k)] := by simp [evL, mvL]
theorem mv_eu {es : List (Int × Int)} {b : Int} (h : ∀ e ∈ es, U (e.1 + b) ∧ U e.2) : EU (mvL es b) := by
  intro e he
  simp only [mvL, List.mem_map] at he
  obtain ⟨x, hx, rfl⟩ := he
  exact h x hx

set_option maxRecDepth 100000 in
set_option maxHeartbeats 2000000 in
theorem pastShift_walk (a : Option Addr) (n cap : Nat) (p q r s : Nat → Int) (by' most x : Int) (w : World) (hst : Steps w a n p q r s) (hm : n ≤ 9223372036854775807) (h1 : 0 ≤ by' ∧ by' ≤ 4294967295) (h2 : 0 ≤ most ∧ most ≤ 4294967295) (h3 : 0 ≤ x ∧ x ≤ 65535) :
    Calls Try.prog 9 #[.slice a n cap, .int .u32 by', .int .u32 most, .int .u16 x] w fun e w' => e = .returned (.bool true) ∧ Below w.heap.size w w' := by
  obtain ⟨i0, hi, hz0, hz1, hz2⟩ := info_parts infoEvent
  obtain ⟨j, hj⟩ : ∃ j, min n 40 = j := ⟨_, rfl⟩
  have hni : Nice j p q r := fun i hi => hst.nice i (by omega)
  have hj40 : j ≤ 40 := by omega
  have hel := evL_length p q r j
  have hml : (mvL (evL p q r j) by').length = j := by rw [mv_length, hel]
  have E1 := Lib.hid (events_any a n cap p q r s w hst hm)
  rw [hj] at E1
  have hev := evL_eu hni (by omega) j (Nat.le_refl _)
  have bT := tmL_le hni j (Nat.le_refl _)
  have hlast := evL_last hni j (Nat.le_refl _)
  have hmv : EU (mvL (evL p q r j) by') := mv_eu fun e he => ⟨by have h4 := hlast e he; have h5 := (hev e he).1; unfold U at *; omega, (hev e he).2⟩
  have uT : U (tmL p r j) := by unfold U; omega
  have uTb : U (tmL p r j + by') := by unfold U; omega
  have um : U most := by unfold U; omega
  have ux : U x := by unfold U; omega
  have D1 := Lib.hid (fun (w : World) (v : Value) (h : Hist w v (evL p q r j)) => pdec_any v (evL p q r j) (tmL p r j) most x w h hev (by omega) uT um ux)
  have D2 := Lib.hid (fun (w : World) (v : Value) (h : Hist w v (mvL (evL p q r j) by')) => pdec_any v (mvL (evL p q r j) by') (tmL p r j + by') most x w h hmv (by omega) uTb um ux)
  have F1 := Lib.hid (fun (w : World) (v : Value) (h : Hist w v (evL p q r j)) => h.fill hev (by omega) uT)
  have F2 := Lib.hid (fun (w : World) (v : Value) (h : Hist w v (mvL (evL p q r j) by')) => h.fill hmv (by omega) uTb)
  have C1 := Lib.hid (fun (w : World) (v : Value) (h : Hist w v (evL p q r j)) => h.conf hev (by omega) um)
  have C2 := Lib.hid (fun (w : World) (v : Value) (h : Hist w v (mvL (evL p q r j) by')) => h.conf hmv (by omega) um)
  rw [mv_snoc, cfB_mv] at D2
  rw [flL_mv] at F2
  rw [cfB_mv] at C2
  have HNi := Lib.hid hni
  generalize cfB (evL p q r j ++ [(tmL p r j, x)]) most = qd at *
  generalize flL (evL p q r j) (tmL p r j) = X at *
  generalize cfB (evL p q r j) most = cq at *
  have e1 : IntKind.u64.wrap (tmL p r j + by') = tmL p r j + by' := IntWalk.u64_in _ (by unfold U at uTb; omega)
  have e4 : (X == X) = true := by simp
  have e5 : (cq == cq) = true := by simp
  have e6 : (qd == qd) = true := by simp
  clear hlast hev uT uTb um ux hst hj hni bT hmv
  go_enter Try.func9, Try.ntmps9
  go_wp2_with (go_at_call 11; ((with_reducible refine E1.out.mono ?_); rintro e w1 ⟨v1, rfl, own1, b1⟩; have hd1 := own_hist hel own1; refine stopHere ?_))
  unfold Stop
  have DD := Lib.hid hd1
  obtain ⟨a2, cap2, rfl, c21, c22, c23⟩ := hd1
  rw [hel] at DD ⊢
  have CC := Lib.hid c23
  clear own1 c23 c22 c21
  go_wp2
  go_loopg [10, 11, 12] j (fun g v t i wr => ∃ k : Nat, k ≤ j ∧ g = j - k ∧ i = .int .i64 k ∧ t = .int .u64 (tmL p r k) ∧ wr.ownsRow w1.heap.size 29 2 v k (flat (mvL (evL p q r k) by')) ∧ Below w1.heap.size w1 wr)
  case atStart => exact ⟨0, Nat.zero_le _, rfl, rfl, rfl, World.ownsRow_nil _ _ _ _, Below.refl _ _⟩
  case round =>
    obtain ⟨k, hk, rfl, rfl, rfl, hown, hbW⟩ := hrel
    by_cases hlt : k < j
    · obtain ⟨b, off, rfl, hb, d0, d1⟩ := CC.out k _ (evL_at p q r j k hlt)
      have HF : flat (mvL (evL p q r (k + 1)) by') = flat (mvL (evL p q r k) by') ++ [.int .u64 (tmL p r (k + 1) + by'), .int .u64 (wtL q r k)] := by rw [mv_evL, flat_append]; rfl
      have bt := tmL_le HNi.out (k + 1) hlt
      have hw : IntKind.u64.wrap (tmL p r (k + 1) + by') = tmL p r (k + 1) + by' := IntWalk.u64_in _ (by omega)
      have hwb : IntKind.u64.wrap by' = by' := IntWalk.u64_in _ (by omega)
      dsimp only at d0 d1
      generalize hTk : tmL p r (k + 1) = Tk at *
      generalize wtL q r k = Wt at *
      have HTk := Lib.hid hTk
      have H2 := Lib.hid HF
      have HOW := Lib.hid hown
      have mkS (w' : World) (hB : Below w1.heap.size w1 w') : Below w1.heap.size w1 w' ∧ w'.cell? ⟨b, off + k * 2, none⟩ = some (.int .u64 Tk) ∧ w'.cell? ⟨b, off + k * 2 + 1, none⟩ = some (.int .u64 Wt) := ⟨hB, (hB.cell hb).trans d0, (hB.cell hb).trans d1⟩
      have MK := Lib.hid mkS
      clear hTk HF hown mkS bt
      obtain ⟨-, c1, c2⟩ := MK.out wr hbW
      clear d0 d1
      go_wp2
      go_region_held3 (fun w' => Below w1.heap.size w1 w' ∧ w'.cell? ⟨b, off + k * 2, none⟩ = some (.int .u64 Tk) ∧ w'.cell? ⟨b, off + k * 2 + 1, none⟩ = some (.int .u64 Wt))
        (exact MK.out _ (by first | with_reducible exact hbW | with_reducible exact hbW.drew | with_reducible exact hbW.alloc hbW.size _ | with_reducible exact (hbW.alloc hbW.size _).drew | with_reducible exact hbW.drew.alloc hbW.size _ | with_reducible exact hb3))
        ((refine step_append_lies _ (by rfl) _ _ 22 (by rfl) w1.heap.size 29 i0 (evt (0, 0)) 2 16 Try.underlying22 hi hz0 hz1 hz2 rfl (by decide) u10 k (flat (mvL (evL p q r k) by')) (by rfl) (own_of2 HOW.out) ⟨wr.heap.size, 0, none⟩ 1 1 [.int .u64 (Tk + by'), .int .u64 Wt] (by rfl) (by rfl) (two_of _ _ _ _) (by simp [Value.oneCell']) (by decide) (by unfold maxLen; omega) (by omega) (by have := hbW.size; simp; omega) (wr.heap.size + 1) (by simp) ?_; intro g cp w3 own3 grow3 at3 lt3; have hb3 : Below w1.heap.size w1 w3 := by (first | with_reducible exact (hbW.alloc hbW.size _).grown grow3 (by have := hbW.size; simp; omega) (own_block HOW.out) | with_reducible exact (hbW.alloc hbW.size _).drew.grown grow3 (by have := hbW.size; simp; omega) (own_block HOW.out) | with_reducible exact (hbW.drew.alloc hbW.size _).grown grow3 (by have := hbW.size; simp; omega) (own_block HOW.out))))
      obtain ⟨-, z1, z2⟩ := MK.out w3 hb3
      rw [← H2.out] at own3
      clear at3 lt3 grow3
      go_wp2
      go_roundg (j - (k + 1))
      case measure => omega
      case rel => exact ⟨k + 1, by omega, rfl, by simp, by rw [HTk.out], own3, hb3⟩
    · obtain rfl : k = j := by omega
      have M1 := own_hist hml hown
      have N1 := DD.out.below hbW
      go_wp2_with (first
        | (go_at_call 13; ((with_reducible refine (D1.out _ _ N1).mono ?_); rintro e w2 ⟨v2, rfl, own2, b2⟩; have M2 := M1.below b2; have N2 := N1.below b2))
        | (go_at_call 13; ((with_reducible refine (D2.out _ _ M2).mono ?_); rintro e w3 ⟨v3, rfl, own3, b3⟩; have M3 := M2.below b3; have N3 := N2.below b3))
        | (go_at_call 10; ((with_reducible refine (known_any _).mono ?_); rintro e w4 ⟨rfl, b4⟩; have M4 := M3.below b4; have N4 := N3.below b4))
        | (go_at_call 15; ((with_reducible refine (F1.out _ _ N4).mono ?_); rintro e w5 ⟨rfl, b5⟩; have M5 := M4.below b5; have N5 := N4.below b5))
        | (go_at_call 15; ((with_reducible refine (F2.out _ _ M5).mono ?_); rintro e w6 ⟨rfl, b6⟩; have M6 := M5.below b6; have N6 := N5.below b6))
        | (go_at_call 17; ((with_reducible refine (C1.out _ _ N6).mono ?_); rintro e w7 ⟨rfl, b7⟩; have M7 := M6.below b7))
        | (go_at_call 17; ((with_reducible refine (C2.out _ _ M7).mono ?_); rintro e w8 ⟨rfl, b8⟩)))
      go_ret
      exact ⟨rfl, kbq (kbq (kbq (kbq (kbq (kbq (kbq (kbq b1 hbW) b2) b3) b4) b5) b6) b7) b8⟩
end Go.Proofs.Ytinlppadebdjgaa.Wd
