/- ConfigBack; no conditions but those that each names. -/
import Derived.Test.YtckaiejbgnhgcaaGreatDoorZCfgBe
import Derived.Test.YtckaiejbgnhgcaaGreatDoorZCfgAg
import Derived.Deep.RegionHeld3
namespace Go.Proofs.YtckaiejbgnhgcaaGreatDoor.Wd
open Go Go.RowKit
set_option linter.unusedVariables false
set_option maxRecDepth 100000

set_option maxHeartbeats 4000000 in
theorem back_walk (most at_ b : Int) (A At : Option Addr) (n cap Nt ct : Nat) (bs : List UInt8) (w : World) (hN : Nam w) (hm : 0 ≤ most ∧ most ≤ 65535) (h : Nmr w A n) (hn : n ≤ 9223372036854775807) (hT : Ws.Txt w At Nt bs) (hct : Nt ≤ ct) (hcm : ct ≤ 9223372036854775807) (hat : 0 ≤ at_ ∧ at_ ≤ 65535) (hb : 0 ≤ b ∧ b ≤ 255) :
    Calls Tryz.prog 5 #[.int .u16 most, .slice A n cap, .slice At Nt ct, .int .u16 at_, .int .u8 b] w fun r w' => r = .returned (.bool true) ∧ Below w.heap.size w w' := by
  by_cases hlong : 400 < Nt
  · have t0 : (400 : Int) < (Nt : Int) := by omega
    have KN := known_any w hN
    go_enter Tryz.func5, Tryz.ntmps5
    go_wp2_with (go_at_call 10; (with_reducible refine KN.mono ?_); rintro r w1 ⟨rfl, k1⟩)
    go_ret
    exact ⟨rfl, k1⟩
  have t0 : ¬ (400 : Int) < (Nt : Int) := by omega
  have CP := policy_any most A n cap w hm h hn
  clear h
  go_enter Tryz.func5, Tryz.ntmps5
  go_wp2_with (go_at_call 11; (with_reducible refine CP.mono ?_); rintro r w1 ⟨⟨m, rs, v, rfl, hO, hl, hP⟩, k1⟩; refine stopHere ?_)
  unfold Stop
  obtain ⟨A1, c1, rfl, hc1, hc2, hR1⟩ := hO.rls hP.out.ok
  have h0 := polr_ri hP.out hl
  have m1 := hP.out.m1
  have m2 := hP.out.m2
  have hrp := hP.out.ok
  have hback := print_back h0 hrp
  obtain ⟨N, hNl⟩ : ∃ N, rs.length = N := ⟨_, rfl⟩
  have hol : (ordL rs).length = N := by rw [ordL_length]; exact hNl
  rw [hNl] at hR1 hl hc1 ⊢
  have kA := (Below.refl _ w1).alloc (Nat.le_refl _) (.cells #[.int .i64 m, .slice A1 N c1] 28)
  have CR := cprint_any m A1 N c1 rs _ (hN.below (kbq k1 kA)) (hR1.below kA) (by omega) (by omega)
  rw [h0, if_pos rfl] at CR
  obtain ⟨tx, htx⟩ : ∃ tx, prTx m rs = tx := ⟨_, rfl⟩
  rw [htx] at CR hback
  clear h0 htx hO hP CP
  go_wp2_with (go_at_call 16; (with_reducible refine CR.mono ?_); rintro r w2 ⟨⟨v2, rfl, hB2⟩, k2⟩; refine stopHere ?_)
  unfold Stop
  obtain ⟨A2, c2, rfl, ⟨hc3, hc4⟩, hT2, _, _⟩ := hB2.form2
  have p0 : w2.cell? ⟨w1.heap.size, 0, none⟩ = some (.int .i64 m) := celln k2 (by simp)
  have p1 : w2.cell? ⟨w1.heap.size, 1, none⟩ = some (.slice A1 N c1) := celln k2 (by simp)
  have B2 := kbq (kbq k1 kA) k2
  have hRp := (hR1.below kA).below k2
  have C1 := cparse_any A2 tx.length c2 tx w2 (hN.below B2) hT2 hc3 hc4
  rw [hback] at C1
  dsimp only at C1
  rw [hol] at C1
  clear CR kA k1 k2 hT2 hR1 hB2 hback
  go_wp2_with (go_at_call 17; (with_reducible refine C1.mono ?_); rintro r w4 ⟨⟨A4, rfl, hR4⟩, k4⟩; refine stopHere ?_)
  unfold Stop
  have kA := (Below.refl _ w4).alloc (Nat.le_refl _) (.cells #[.int .i64 m, .slice A4 N N] 28)
  have kB := (Below.refl _ (w4.alloc (.cells #[.int .i64 m, .slice A4 N N] 28))).alloc (Nat.le_refl _) (.cells #[.int .i64 0, .int .i64 0] 44)
  have kC := kbq kA kB
  have k5 := kbq k4 kC
  have q0 : ((w4.alloc (.cells #[.int .i64 m, .slice A4 N N] 28)).alloc (.cells #[.int .i64 0, .int .i64 0] 44)).cell? ⟨w4.heap.size, 0, none⟩ = some (.int .i64 m) := by simp
  have q1 : ((w4.alloc (.cells #[.int .i64 m, .slice A4 N N] 28)).alloc (.cells #[.int .i64 0, .int .i64 0] 44)).cell? ⟨w4.heap.size, 1, none⟩ = some (.slice A4 N N) := by simp
  replace p0 := celln k5 p0
  replace p1 := celln k5 p1
  have B5 := kbq B2 k5
  have hRq := hR4.below kC
  replace hRp := hRp.below k5
  have hN5 := hN.below B5
  have hT5 := hT.below B5
  clear kA kB kC k5 k4 B2 C1 hR4 hN hT
  go_upto_region 6 with fail
  generalize hW : (w4.alloc (.cells #[.int .i64 m, .slice A4 N N] 28)).alloc (.cells #[.int .i64 0, .int .i64 0] 44) = W at *
  clear hW
  have C1 := Lib.hid (fun W' (g : Below W.heap.size W W') => known_any W' (hN5.below g))
  have C2 := Lib.hid (fun W' (g : Below W.heap.size W W') => order_any m A1 N c1 rs W' (hRp.below g) (by omega))
  have C3 := Lib.hid (fun W' (g : Below W.heap.size W W') A' (hA : Rls W' A' N (ordL rs)) => same12_any m A4 A' N N N (ordL rs) W' (hRq.below g) hA (by omega))
  have C4 := Lib.hid (fun W' (g : Below W.heap.size W W') => again_any At Nt ct bs W' (hN5.below g) (hT5.below g) hct hcm)
  have C5 := Lib.hid (fun W' (g : Below W.heap.size W W') => bent_any m A1 N c1 rs at_ b ⟨#[]⟩ W' (hRp.below g) (by omega) (by omega) hat hb (by decide))
  have C6 := Lib.hid (fun W' (g : Below W.heap.size W W') A' L c' xs (hX : Ws.Txt W' A' L xs) (h1 : L ≤ c') (h2 : c' ≤ 9223372036854775807) => again_any A' L c' xs W' (hN5.below g) hX h1 h2)
  have HB5 := Lib.hid B5
  have kW : Below W.heap.size W W := Below.refl _ _
  clear hN5 hRp hRq hT5 B5 hrp hol hat hb
  go_region_held3 (fun w' => Below W.heap.size W w' ∧ w'.cell? ⟨w1.heap.size, 0, none⟩ = some (.int .i64 m) ∧ w'.cell? ⟨w1.heap.size, 1, none⟩ = some (.slice A1 N c1) ∧ w'.cell? ⟨w4.heap.size, 0, none⟩ = some (.int .i64 m) ∧ w'.cell? ⟨w4.heap.size, 1, none⟩ = some (.slice A4 N N))
    (first | with_reducible exact ⟨kW, p0, p1, q0, q1⟩ | with_reducible exact ⟨kW.drew, dcell p0, dcell p1, dcell q0, dcell q1⟩)
    (first
    | (go_at_call 10; ((with_reducible refine (C1.out _ (by first | exact kW | exact kW.drew)).mono ?_); rintro r w2 ⟨rfl, g⟩; (first | with_reducible (replace kW := kbq kW g; replace p0 := celln g p0; replace p1 := celln g p1; replace q0 := celln g q0; replace q1 := celln g q1) | with_reducible (replace kW := kbq kW.drew g; replace p0 := celln g (dcell p0); replace p1 := celln g (dcell p1); replace q0 := celln g (dcell q0); replace q1 := celln g (dcell q1))); clear g))
    | (go_at_call 19; ((with_reducible refine (C2.out _ (by first | exact kW | exact kW.drew)).mono ?_); rintro r w2 ⟨⟨BB, rfl, hRo⟩, g⟩; (first | with_reducible (replace kW := kbq kW g; replace p0 := celln g p0; replace p1 := celln g p1; replace q0 := celln g q0; replace q1 := celln g q1) | with_reducible (replace kW := kbq kW.drew g; replace p0 := celln g (dcell p0); replace p1 := celln g (dcell p1); replace q0 := celln g (dcell q0); replace q1 := celln g (dcell q1))); clear g))
    | (go_at_call 18; ((with_reducible refine (C3.out _ (by first | exact kW | exact kW.drew) _ hRo).mono ?_); rintro r w2 ⟨rfl, g⟩; clear hRo; (first | with_reducible (replace kW := kbq kW g; replace p0 := celln g p0; replace p1 := celln g p1; replace q0 := celln g q0; replace q1 := celln g q1) | with_reducible (replace kW := kbq kW.drew g; replace p0 := celln g (dcell p0); replace p1 := celln g (dcell p1); replace q0 := celln g (dcell q0); replace q1 := celln g (dcell q1))); clear g))
    | (go_at_call 20; ((first | (with_reducible refine (C6.out _ (by first | exact kW | exact kW.drew) _ _ _ _ hT6 hc6.1 hc6.2).mono ?_) | (with_reducible refine (C4.out _ (by first | exact kW | exact kW.drew)).mono ?_)); rintro r w2 ⟨rfl, g⟩; (first | with_reducible (replace kW := kbq kW g; replace p0 := celln g p0; replace p1 := celln g p1; replace q0 := celln g q0; replace q1 := celln g q1) | with_reducible (replace kW := kbq kW.drew g; replace p0 := celln g (dcell p0); replace p1 := celln g (dcell p1); replace q0 := celln g (dcell q0); replace q1 := celln g (dcell q1))); clear g))
    | (go_at_call 13; ((with_reducible refine (C5.out _ (by first | exact kW | exact kW.drew)).mono ?_); rintro r w2 ⟨⟨v6, xs6, rfl, hO6, hl6⟩, g⟩; obtain ⟨A6, c6, rfl, hc6, hT6, _⟩ := hO6.form2; (first | with_reducible (replace kW := kbq kW g; replace p0 := celln g p0; replace p1 := celln g p1; replace q0 := celln g q0; replace q1 := celln g q1) | with_reducible (replace kW := kbq kW.drew g; replace p0 := celln g (dcell p0); replace p1 := celln g (dcell p1); replace q0 := celln g (dcell q0); replace q1 := celln g (dcell q1))); clear g)))
  all_goals
    rename_i hH
    go_wp2
    go_ret
    exact ⟨rfl, kbq HB5.out hH.1⟩
end Go.Proofs.YtckaiejbgnhgcaaGreatDoor.Wd
