/- ConfigPrints; no conditions but those that each names. -/
import Derived.Test.YtckaiejbgnhgcaaGreatDoorZCfgPq
import Derived.Deep.RegionLawGrows
import Derived.Test.YtckaiejbgnhgcaaGreatDoorZCfgHl
namespace Go.Proofs.YtckaiejbgnhgcaaGreatDoor.Wd
open Go Go.RowKit
set_option linter.unusedVariables false
set_option linter.unusedSimpArgs false
set_option maxRecDepth 100000

theorem PB.put0 {w : World} {P : Nat} {m : Int} {v : Value} (h : PB w P m v) (m' : Int) : PB (w.setCell ⟨P, 0, none⟩ (.int .i64 m')) P m' v := by
  obtain ⟨a0, a1, b0, b1⟩ := h
  exact ⟨World.cell?_setCell_same _ _ _ a0, (cs_other _ _ _ _ _ _ (.inr (by decide))).trans a1, by simpa using b0, by simpa using b1⟩
theorem ORls.low {w : World} {base n c : Nat} {A : Option Addr} {rs : List Rl} (h : ORls w base (.slice A n c) rs) : ∀ b off, A = some ⟨b, off, none⟩ → base ≤ b := by
  intro b off e
  rcases h.2 with ⟨e1, _⟩ | ⟨g, cap, cur, e1, hb, _⟩
  · subst e; cases e1
  · subst e
    simp only [Value.slice.injEq, Option.some.injEq, Addr.mk.injEq] at e1
    omega
theorem PB.drawn {w : World} {P : Nat} {m : Int} {v : Value} (h : PB w P m v) : PB w.drew P m v := h.below ((Below.refl _ w).drew)

set_option maxHeartbeats 8000000 in
theorem prints_walk (pm most kk nI : Int) (Ap A : Option Addr) (np cp n cap : Nat) (ps : List Rl) (rp : ByteArray) (re rb rk : Int) (w : World) (hN : Nam w) (hp : Rls w Ap np ps) (hpn : np ≤ 9223372036854775807) (hpm : -9223372036854775808 ≤ pm ∧ pm ≤ 9223372036854775807) (hm : 0 ≤ most ∧ most ≤ 65535) (h : Nmr w A n) (hn : n ≤ 9223372036854775807) (hr : Okr ⟨rp, re, rb, rk⟩) (hk : 0 ≤ kk ∧ kk ≤ 255) (hnI : -9223372036854775808 ≤ nI ∧ nI ≤ 9223372036854775807) :
    Calls Tryz.prog 4 #[.agg #[.int .i64 pm, .slice Ap np cp], .int .u16 most, .slice A n cap, .agg #[.string rp, .int .u64 re, .int .u64 rb, .int .u8 rk], .int .u8 kk, .int .i64 nI] w fun r w' => r = .returned (.bool true) ∧ Below w.heap.size w w' := by
  have kA := (Below.refl _ w).alloc (Nat.le_refl _) (.cells #[.int .i64 pm, .slice Ap np cp] 28)
  have kB := (Below.refl _ (w.alloc (.cells #[.int .i64 pm, .slice Ap np cp] 28))).alloc (Nat.le_refl _) (.cells #[.string rp, .int .u64 re, .int .u64 rb, .int .u8 rk] 37)
  have hs : (w.alloc (.cells #[.int .i64 pm, .slice Ap np cp] 28)).heap.size = w.heap.size + 1 := by simp
  have P1 := (PB.new w pm (.slice Ap np cp)).below kB
  have R1 := r4_new (w.alloc (.cells #[.int .i64 pm, .slice Ap np cp] 28)) ⟨rp, re, rb, rk⟩
  have B1 := kbq kA kB
  rw [hs] at R1
  have KN := known_any _ (hN.below B1)
  have CP := fun W (g : Below w.heap.size w W) => policy_any most A n cap W hm (h.below g) hn
  clear hs kA kB h
  go_enter Tryz.func4, Tryz.ntmps4
  go_upto_region 1 with fail
  generalize hW : (w.alloc (.cells #[.int .i64 pm, .slice Ap np cp] 28)).alloc (.cells #[.string rp, .int .u64 re, .int .u64 rb, .int .u8 rk] 37) = W1 at *
  clear hW
  have HP1 := Lib.hid P1
  have HR1 := Lib.hid R1
  obtain ⟨p0, p1, _, _⟩ := P1
  by_cases hlong : 30 < np
  · have t0 : (30 : Int) < (np : Int) := by omega
    go_wp2_with (go_at_call 10; (with_reducible refine KN.mono ?_); rintro r w1 ⟨rfl, k1⟩)
    go_ret
    exact ⟨rfl, kbq B1 k1⟩
  have t0 : ¬ (30 : Int) < (np : Int) := by omega
  go_wp2_with (go_at_call 10; (with_reducible refine KN.mono ?_); rintro r w1 ⟨rfl, k1⟩; refine stopHere ?_)
  unfold Stop
  have B2 := kbq B1 k1
  have CP1 := CP _ B2
  clear KN CP p0 p1
  go_wp2_with (go_at_call 11; (with_reducible refine CP1.mono ?_); rintro r w2 ⟨⟨m, rs, v, rfl, hO, hl, hP⟩, k2⟩; refine stopHere ?_)
  unfold Stop
  obtain ⟨A1, c1, rfl, ⟨hc1, hc2⟩, hRo, hA1, hAs1⟩ := hO.form2 hP.out.ok
  have m1 := hP.out.m1
  have m2 := hP.out.m2
  obtain ⟨N, hNl⟩ : ∃ N, rs.length = N := ⟨_, rfl⟩
  rw [hNl] at hRo hl hc1 ⊢
  have kC := (Below.refl _ w2).alloc (Nat.le_refl _) (.cells #[.int .i64 m, .slice A1 N c1] 28)
  have k3 := kbq (kbq k1 k2) kC
  have PH := Lib.hid (HP1.out.below k3)
  have RH := Lib.hid ((HR1.out.of_block (k3.block _ (by have := cell_lt HR1.out.1; omega))))
  have PO := PB.new w2 m (.slice A1 N c1)
  have B3 := kbq B1 k3
  have hRp := Lib.hid (hp.below B3)
  have hRo3 := hRo.below kC
  have hN3 := Lib.hid (hN.below B3)
  clear CP1 kC k1 k2 k3 hO hRo hp hN HP1 HR1 B1 B2
  go_upto_region 4 with fail
  generalize hW : w2.alloc (.cells #[.int .i64 m, .slice A1 N c1] 28) = W3 at *
  clear hW
  obtain ⟨Mb, hMb⟩ : ∃ Mb, W3.heap.size = Mb := ⟨_, rfl⟩
  have hOb : w2.heap.size < Mb := by rw [← hMb]; exact PO.lt
  have POx := Lib.hid (fun W (g : Below Mb W3 W) => PO.under g (by omega))
  have PHx := Lib.hid (fun W (g : Below Mb W3 W) => PH.out.under g (by have := PH.out.lt; omega))
  have RHx := Lib.hid (fun W (g : Below Mb W3 W) => RH.out.of_block (g.block _ (by have := cell_lt RH.out.1; omega)))
  have hRpx := Lib.hid (fun W (g : Below Mb W3 W) => hRp.out.below (by rw [hMb]; exact g))
  have hRox := Lib.hid (fun W (g : Below Mb W3 W) => hRo3.below (by rw [hMb]; exact g))
  have hNx := Lib.hid (fun W (g : Below Mb W3 W) => hN3.out.below (by rw [hMb]; exact g))
  have PM := PB.new W3 m (.slice A1 N c1)
  have kC := (Below.refl _ W3).alloc (Nat.le_refl _) (.cells #[.int .i64 m, .slice A1 N c1] 28)
  have hs4 : (W3.alloc (.cells #[.int .i64 m, .slice A1 N c1] 28)).heap.size = Mb + 1 := by rw [World.size_alloc, hMb]
  rw [hMb] at PM kC
  have PO' := Lib.hid PO
  obtain ⟨o0, o1, _, _⟩ := PO
  go_upto_region 5 with fail
  generalize hW : W3.alloc (.cells #[.int .i64 m, .slice A1 N c1] 28) = W4 at *
  clear hW o0 o1
  have PM5 := PM.put (.slice none 0 0)
  have kD := kC.setCell (p := ⟨Mb, 1, none⟩) (Nat.le_refl _) (.slice none 0 0)
  have hs5 : (W4.setCell ⟨Mb, 1, none⟩ (.slice none 0 0)).heap.size = Mb + 1 := by rw [World.size_setCell, hs4]
  obtain ⟨a0, a1, b0, b1⟩ := PM
  go_upto_region 6 with fail
  generalize hW : W4.setCell ⟨Mb, 1, none⟩ (.slice none 0 0) = W5 at *
  clear hW a0 a1 b0 b1 hs4 kC
  have kD' : Below W3.heap.size W3 W5 := by rw [hMb]; exact kD
  have PO5 := Lib.hid (PO'.out.below kD')
  have hRo5 := hRo3.below kD'
  obtain ⟨I, hI⟩ : ∃ I : Nat, kk.toNat % (N + 1) = I := ⟨_, rfl⟩
  have hIN : I ≤ N := by have := Nat.mod_lt kk.toNat (show 0 < N + 1 by omega); omega
  have e1 : IntKind.i64.wrap kk = kk := IntWalk.i64_in _ (by omega)
  have e0 : IntKind.i64.wrap ((N : Int) + 1) = (N : Int) + 1 := IntWalk.i64_in _ (by omega)
  have e2 : kk.tmod ((N : Int) + 1) = (I : Int) := by
    rw [Int.tmod_eq_emod_of_nonneg hk.1, ← hI]
    have : kk = (kk.toNat : Int) := by omega
    conv => lhs; rw [this]
    rfl
  have e3 : IntKind.i64.wrap (I : Int) = (I : Int) := IntWalk.i64_in _ (by omega)
  have n0 : ((N : Int) + 1 == 0) = false := by rw [← Bool.not_eq_true, beq_iff_eq]; omega
  have n1 : ¬ (N : Int) + 1 = 0 := by omega
  have hS1 := fun W => rslice_front A1 N c1 I (by omega) hc2 W
  obtain ⟨A7, hS2, hS3, hA7, hA8⟩ := rslice_rest A1 N c1 I hIN hc1
  have HA := Lib.hid (And.intro hA1 hAs1)
  have HA9 : Hid ((A7 = none → c1 - I = 0) ∧ ∀ ad, A7 = some ad → ad.spot = none) := Lib.hid ⟨fun h => by rw [hA1 (hA7 h)]; simp, hA8 hAs1⟩
  have RL1 := Lib.hid (hRo5.front hIN)
  have okI := Lib.hid RL1.out.2.1
  have lnI := Lib.hid RL1.out.1
  have RL2 := Lib.hid (fun W (g : Below Mb W3 W) => hS3 _ _ (hRox.out W g))
  have hokO := Lib.hid hRo5.2.1
  have hnO := Lib.hid hRo5.1
  have kD5 := Lib.hid kD'
  clear hI hS3 hA7 hA8 hA1 hAs1 kD' hRo5
  obtain ⟨o0, o1, _, _⟩ := PO5.out
  go_upto_region 7 with fail
  clear e0 e1 e2 e3 n0 n1
  have hM1 : Mb + 1 ≤ W5.heap.size := by omega
  have PMh := Lib.hid PM5
  obtain ⟨a0, a1, b0, b1⟩ := PM5
  have k5 := Below.refl W5.heap.size W5
  go_cut [] from 40 to 47 (fun wy => ∃ v xs, PB wy Mb m v ∧ Hid (ORls wy (Mb + 1) v xs ∧ (∀ r ∈ xs, Okr r) ∧ xs.length ≤ 13) ∧ Below Mb W5 wy)
  case first =>
    go_wp2_with fail
    go_region_law (refine step_app_rls (by rfl) _ _ (by rfl) (Mb + 1) (.slice none 0 0) [] (by rfl) (ORls.nil _ _) A1 I c1 (rs.take I) (by rfl) (by first | exact RL1.out | exact RL1.out.below k5.drew) HA.out.1 HA.out.2 (by simp; omega) (by first | exact hM1 | (simp; omega)) ?_; intro v6 w6 own6 b6; rw [List.nil_append] at own6; obtain ⟨A6, c6, rfl, _⟩ := own6.form3 okI.out lnI.out; have PM6 : PB w6 Mb m (.slice none 0 0) := (by first | exact PMh.out.under b6 (by omega) | exact PMh.out.drawn.under b6 (by omega)); have kb6 : Below Mb W5 w6 := (by first | exact b6.mono (by omega) | exact ((Below.refl Mb W5).drew).trans (b6.mono (by omega))); obtain ⟨q0, q1, q2, q3⟩ := PM6)
    all_goals
      have hZ := Lib.hid (PB.put ⟨q0, q1, q2, q3⟩ (.slice A6 I c6))
      have hO := Lib.hid (ownsRow_setCell_below own6 (a := ⟨Mb, 1, none⟩) (by show Mb < Mb + 1; omega) (.slice A6 I c6))
      have hB := Lib.hid (kb6.setCell (p := ⟨Mb, 1, none⟩) (Nat.le_refl _) (.slice A6 I c6))
      clear own6 b6 kb6
      go_wp2
      go_meet
      case rel => exact ⟨_, _, by first | exact hZ.out | exact hZ.out.drawn, Lib.hid ⟨by first | exact hO.out | exact ownR_below hO.out ((Below.refl _ _).drew), okI.out, by have := lnI.out; omega⟩, by first | exact hB.out | exact hB.out.drew⟩
  case rest =>
  obtain ⟨v7, xs7, hPM7, hG7, k7⟩ := hcut
  have kx7 : Below Mb W3 wc := kD.trans k7
  obtain ⟨n7, hn7⟩ : ∃ n7, xs7.length = n7 := ⟨_, rfl⟩
  obtain ⟨A8, c8, rfl, _⟩ := hG7.out.1.form3 hG7.out.2.1 hn7
  have hlen7 : n7 ≤ 13 := by have := hG7.out.2.2; omega
  obtain ⟨x0, x1, x2, x3⟩ := RHx.out _ kx7
  dsimp only at x0 x1 x2 x3
  have hPMz := Lib.hid hPM7
  have hszc : Mb + 1 ≤ wc.heap.size := hPM7.lt
  have kE := (Below.refl _ wc).alloc (Nat.le_refl _) (.cells #[.string rp, .int .u64 re, .int .u64 rb, .int .u8 rk] 37)
  have hR1 := Lib.hid (rls_one wc ⟨rp, re, rb, rk⟩ hr)
  have HO8 := Lib.hid (ownR_below hG7.out.1 kE)
  have hbz : Mb + 1 ≤ (wc.alloc (.cells #[.string rp, .int .u64 re, .int .u64 rb, .int .u8 rk] 37)).heap.size := Nat.le_trans hszc kE.size
  have hk8 := Lib.hid (kx7.trans (kE.mono (by omega)))
  have hPM8 := Lib.hid (hPM7.below kE)
  obtain ⟨a0', a1', b0', b1'⟩ := hPM7
  have HN7 := Lib.hid hn7
  have HK7 := Lib.hid kx7
  clear kE k7 kx7 hn7 a0 a1 b0 b1 k5 o0 o1 kD
  go_wp2_with (at_builtin; refine wpList_app_rls _ rfl _ _ rfl (Mb + 1) (.slice A8 n7 c8) xs7 rfl HO8.out (some ⟨wc.heap.size, 0, none⟩) 1 1 [⟨rp, re, rb, rk⟩] rfl hR1.out (fun h => nomatch h) (fun ad h => by cases h; rfl) (by have := HN7.out; omega) hbz ?_; intro v9 w9 hO9 b9 gw9; obtain ⟨A9, c9, rfl, _⟩ := hO9.form3 (n := n7 + 1) (fun r hr2 => by (rcases List.mem_append.1 hr2 with hr2 | hr2); exact hG7.out.2.1 r hr2; (simp only [List.mem_cons, List.not_mem_nil, or_false] at hr2); subst hr2; exact hr) (by rw [List.length_append, HN7.out]; rfl); obtain ⟨q0, q1, q2, q3⟩ := hPM8.out.under b9 (by omega); refine stopHere ?_)
  unfold Stop
  have hok9 := Lib.hid (fun (r : Rl) (hr2 : r ∈ xs7 ++ [⟨rp, re, rb, rk⟩]) => show Okr r from by
    rcases List.mem_append.1 hr2 with hr2 | hr2
    · exact hG7.out.2.1 r hr2
    · simp only [List.mem_cons, List.not_mem_nil, or_false] at hr2; subst hr2; exact hr)
  have hl9 : Hid ((xs7 ++ [(⟨rp, re, rb, rk⟩ : Rl)]).length = n7 + 1) := Lib.hid (by rw [List.length_append, HN7.out]; rfl)
  generalize xs7 ++ [(⟨rp, re, rb, rk⟩ : Rl)] = xs9 at *
  have PM9 := PB.put ⟨q0, q1, q2, q3⟩ (.slice A9 (n7 + 1) c9)
  have kx9 : Below Mb W3 (w9.setCell ⟨Mb, 1, none⟩ (.slice A9 (n7 + 1) c9)) := (hk8.out.trans (b9.mono (by omega))).setCell (p := ⟨Mb, 1, none⟩) (Nat.le_refl _) _
  have hO9' : w9.ownsRow (Mb + 1) 37 4 (.slice A9 (n7 + 1) c9) xs9.length (flatR xs9) := hO9
  have hOz : ORls (w9.setCell ⟨Mb, 1, none⟩ (.slice A9 (n7 + 1) c9)) (Mb + 1) (.slice A9 (n7 + 1) c9) xs9 := ownsRow_setCell_below hO9' (by show Mb < Mb + 1; omega) _
  clear hO9 hO9' b9 gw9 HO8 hR1 hbz hk8 hPM8 hPMz hG7 x0 x1 x2 x3 a0' a1' b0' b1' HK7
  go_upto_region 9 with fail
  generalize hW : w9.setCell ⟨Mb, 1, none⟩ (.slice A9 (n7 + 1) c9) = W9 at *
  clear hW q0 q1 q2 q3
  have PMh := Lib.hid PM9
  have hM9 : Mb + 1 ≤ W9.heap.size := PM9.lt
  obtain ⟨a0, a1, b0, b1⟩ := PM9
  obtain ⟨o0, o1, _, _⟩ := POx.out _ kx9
  have k9 := Below.refl W9.heap.size W9
  have RL3 := Lib.hid (RL2.out _ kx9)
  have OZ := Lib.hid hOz
  have KX9 := Lib.hid kx9
  have hlen9 : n7 + 1 ≤ 14 := by omega
  clear hOz kx9
  go_cut [] from 54 to 61 (fun wy => ∃ v xs, PB wy Mb m v ∧ Hid (ORls wy (Mb + 1) v xs ∧ (∀ r ∈ xs, Okr r) ∧ xs.length ≤ 40) ∧ Below Mb W9 wy)
  case first =>
    go_wp2_with fail
    go_region_law (refine step_app_rls (by rfl) _ _ (by rfl) (Mb + 1) (.slice A9 (n7 + 1) c9) xs9 (by rfl) (by first | exact OZ.out | exact ownR_below OZ.out k9.drew) A7 (N - I) (c1 - I) (rs.drop I) (by rfl) (by first | exact RL3.out | exact RL3.out.below k9.drew) HA9.out.1 HA9.out.2 (by have := hl9.out; omega) (by first | exact hM9 | (simp; omega)) ?_; intro v6 w6 own6 b6; obtain ⟨A6, c6, rfl, _⟩ := own6.form2 (fun r hr2 => by (rcases List.mem_append.1 hr2 with hr2 | hr2); exact hok9.out r hr2; exact hokO.out r (List.mem_of_mem_drop hr2)); have PM6 : PB w6 Mb m (.slice A9 (n7 + 1) c9) := (by first | exact PMh.out.under b6 (by omega) | exact PMh.out.drawn.under b6 (by omega)); have kb6 : Below Mb W9 w6 := (by first | exact b6.mono (by omega) | exact ((Below.refl Mb W9).drew).trans (b6.mono (by omega))); obtain ⟨q0, q1, q2, q3⟩ := PM6; have hl6 : Hid ((xs9 ++ rs.drop I).length ≤ 40) := Lib.hid (by rw [List.length_append, hl9.out, List.length_drop]; have := hnO.out; omega); have hok6 := Lib.hid (fun r (hr2 : r ∈ xs9 ++ rs.drop I) => show Okr r from by (rcases List.mem_append.1 hr2 with hr2 | hr2); exact hok9.out r hr2; exact hokO.out r (List.mem_of_mem_drop hr2)); generalize xs9 ++ rs.drop I = xs6 at *)
    all_goals
      have hZ := Lib.hid (PB.put ⟨q0, q1, q2, q3⟩ (.slice A6 xs6.length c6))
      have hO := Lib.hid (ownsRow_setCell_below own6 (a := ⟨Mb, 1, none⟩) (by show Mb < Mb + 1; omega) (.slice A6 xs6.length c6))
      have hB := Lib.hid (kb6.setCell (p := ⟨Mb, 1, none⟩) (Nat.le_refl _) (.slice A6 xs6.length c6))
      clear own6 b6 kb6
      go_wp2
      go_meet
      case rel => exact ⟨_, _, by first | exact hZ.out | exact hZ.out.drawn, Lib.hid ⟨by first | exact hO.out | exact ownR_below hO.out ((Below.refl _ _).drew), hok6.out, hl6.out⟩, by first | exact hB.out | exact hB.out.drew⟩
  case rest =>
  obtain ⟨vM, xsM, hPMv, hGM, kM⟩ := hcut
  obtain ⟨nM, hnM⟩ : ∃ nM, xsM.length = nM := ⟨_, rfl⟩
  obtain ⟨AM, cM, rfl, hcM, hRM, _⟩ := hGM.out.1.form3 hGM.out.2.1 hnM
  have hnM40 : nM ≤ 40 := by have := hGM.out.2.2; omega
  have kxM := KX9.out.trans kM
  obtain ⟨Lb, hLb⟩ : ∃ Lb, wc.heap.size = Lb := ⟨_, rfl⟩
  have hML : Mb < Lb := by rw [← hLb]; exact hPMv.lt
  have KXx := Lib.hid (fun W (g : Below Lb wc W) => kxM.trans (g.mono (by omega)))
  have PMx := Lib.hid (fun W (g : Below Lb wc W) => hPMv.below (by rw [hLb]; exact g))
  have RMx := Lib.hid (fun W (g : Below Lb wc W) => hRM.below (by rw [hLb]; exact g))
  have PL0 := PB.new wc m (.slice A1 N c1)
  have kL0 := (Below.refl _ wc).alloc (Nat.le_refl _) (.cells #[.int .i64 m, .slice A1 N c1] 28)
  rw [hLb] at PL0 kL0
  have o01 := POx.out _ kxM
  obtain ⟨o0', o1', _, _⟩ := o01
  clear hGM hPMv kM kxM hRM hnM a0 a1 b0 b1 o0 o1 k9 KX9 OZ RL3 PMh hok9 hl9 RL1 RL2 okI lnI
  go_upto_region 11 with fail
  generalize hW : wc.alloc (.cells #[.int .i64 m, .slice A1 N c1] 28) = W10 at *
  clear hW o0' o1'
  have PL1 := PL0.put (.slice A1 0 c1)
  have kL1 := kL0.setCell (p := ⟨Lb, 1, none⟩) (Nat.le_refl _) (.slice A1 0 c1)
  have hS0 : ∀ W, (Instr.slice 26 (.slice A1 N c1) none (some (.int .i64 0)) none).run Tryz.prog W = .ok (.slice A1 0 c1) W := fun W => rslice_front A1 N c1 0 (by omega) hc2 W
  obtain ⟨l0, l1, f0, f1⟩ := PL0
  obtain ⟨o0, o1, _, _⟩ := POx.out _ (KXx.out _ kL0)
  go_upto_region 12 with fail
  generalize hW : W10.setCell ⟨Lb, 1, none⟩ (.slice A1 0 c1) = W11 at *
  clear hW l0 l1 f0 f1 o0 o1 hS0 hS1 kL0
  have hR0 : Rls W11 A1 0 [] := Rls.nil _ _
  have hlo1 : Hid (∀ b off, A1 = some ⟨b, off, none⟩ → 0 < N → b < Mb) := Lib.hid (fun b off e h0 => by
    obtain ⟨b1, o1, e1, hlt, _⟩ := hRo3.2.2 h0
    rw [e] at e1; injection e1 with e1; injection e1 with e1
    omega)
  obtain ⟨Q, hQ⟩ : ∃ Q : Int, kk % 9 = Q := ⟨_, rfl⟩
  have z0 : IntKind.i64.wrap kk = kk := IntWalk.i64_in _ (by omega)
  have z1 : kk.tmod 9 = Q := by rw [Int.tmod_eq_emod_of_nonneg hk.1]; exact hQ
  have z2 : IntKind.i64.wrap Q = Q := IntWalk.i64_in _ (by omega)
  clear hQ
  go_wp2
  go_loopw [17] (fun i wr => ∃ (j nl cl : Nat) (Al : Option Addr) (xs : List Rl), i = .int .i64 (j : Int) ∧ j ≤ N ∧ PB wr Lb m (.slice Al nl cl) ∧ Hid (Rls wr Al nl xs ∧ (Al = none → nl = 0) ∧ (∀ ad, Al = some ad → ad.spot = none) ∧ (∀ b off, Al = some ⟨b, off, none⟩ → 0 < nl → b ≠ Lb)) ∧ nl ≤ j ∧ nl ≤ cl ∧ cl ≤ 9223372036854775807 ∧ Below Lb wc wr) (fun i _ => N - (intOf i).toNat)
  case atStart => exact ⟨0, 0, c1, A1, [], rfl, Nat.zero_le _, PL1, Lib.hid ⟨hR0, fun _ => rfl, HA.out.2, fun b off e h0 => absurd h0 (Nat.lt_irrefl _)⟩, Nat.le_refl _, Nat.zero_le _, hc2, kL1⟩
  case round =>
    clear PL1 hR0 kL1
    obtain ⟨j, nl, cl, Al, xs, rfl, hj, hPL, hGL, hnl, hncl, hcl2, hBL⟩ := hrel
    have j0 : (0 : Int) ≤ (j : Int) := Int.natCast_nonneg _
    have kx := KXx.out _ hBL
    have PLh := Lib.hid hPL
    have hlr : Lb < wr.heap.size := hPL.lt
    obtain ⟨l0, l1, f0, f1⟩ := hPL
    obtain ⟨o0, o1, _, _⟩ := POx.out _ kx
    by_cases hjN : j < N
    · have j1 : (j : Int) < (N : Int) := by omega
      by_cases hjQ : (j : Int) = Q
      · have t1 : ((j : Int) != Q) = false := by simpa using hjQ
        have t2 : ((j : Int) == Q) = true := by simpa using hjQ
        clear hjQ
        go_wp2
        go_roundw
        case rel => exact ⟨j + 1, nl, cl, Al, xs, by go_num, by omega, PLh.out, hGL, by omega, hncl, hcl2, hBL⟩
        case measure => simp [intOf]; omega
      · have t1 : ((j : Int) != Q) = true := by simpa using hjQ
        have t2 : ((j : Int) == Q) = false := by simpa using hjQ
        have hRow := hRox.out _ kx
        obtain ⟨bb, bo, eA, hbb, hcc⟩ := hRow.2.2 (by omega)
        have hok := hRow.ok j
        obtain ⟨x0, x1, x2, x3⟩ := hcc j hjN
        obtain ⟨⟨xp, xe, xb, xk⟩, hX⟩ : ∃ x, fnOf rs j = x := ⟨_, rfl⟩
        rw [hX] at x0 x1 x2 x3 hok
        dsimp only at x0 x1 x2 x3
        have HOKX := Lib.hid hok
        have HA1 := Lib.hid eA
        clear hX hcc hok hjQ hRow
        subst eA
        have hS5 := fun W => rslice_clip Al nl cl hncl hcl2 W
        have k5 : Below wr.heap.size wr wr := Below.refl _ _
        have MG := Lib.hid (fun (w0 w' : World) (k0 : Below wr.heap.size wr w0) (g : w0.grownBy w' none) => (PLh.out.below k0).grown g (by simp))
        have BG := Lib.hid (fun (w0 w' : World) (k0 : Below wr.heap.size wr w0) (g : w0.grownBy w' none) => show Below Lb wc w' from (hBL.trans (k0.mono (by omega))).trans ((((Below.refl w0.heap.size w0).grown g (Nat.le_refl _) (fun k e => by cases e))).mono (by have := k0.size; omega)))
        have HG := Lib.hid (fun (w0 : World) (k0 : Below wr.heap.size wr w0) => rows_flat (hGL.out.1.below k0) hGL.out.2.2.1)
        have HNN := Lib.hid (fun (e : Al = none) => And.intro (hGL.out.2.1 e) (hGL.out.2.1 e))
        have hlx : Hid ((flatR xs).length = nl * 4) := Lib.hid (by rw [flatR_length, hGL.out.1.1])
        have hxl : Hid (nl + 1 = xs.length + 1) := Lib.hid (by rw [hGL.out.1.1])
        have hokx := Lib.hid hGL.out.1.2.1
        have hlr2 := Lib.hid hlr
        obtain ⟨i0, hi, hy0, hy1, hy2⟩ := info_parts zeroRule
        clear hGL hBL
        have CC := Lib.hid (fun (w0 w' : World) (k0 : Below wr.heap.size wr w0) (g : w0.grownBy w' none) => show (w'.cell? ⟨w2.heap.size, 1, none⟩ = some (.slice (some ⟨bb, bo, none⟩) N c1) ∧ w'.cell? ⟨bb, bo + j * 4, none⟩ = some (.string xp) ∧ w'.cell? ⟨bb, bo + j * 4 + 1, none⟩ = some (.int .u64 xe) ∧ w'.cell? ⟨bb, bo + j * 4 + 2, none⟩ = some (.int .u64 xb) ∧ w'.cell? ⟨bb, bo + j * 4 + 3, none⟩ = some (.int .u8 xk)) ∧ ∀ v, (w'.setCell ⟨Lb, 1, none⟩ v).cell? ⟨w2.heap.size, 1, none⟩ = some (.slice (some ⟨bb, bo, none⟩) N c1) ∧ (w'.setCell ⟨Lb, 1, none⟩ v).cell? ⟨bb, bo + j * 4, none⟩ = some (.string xp) ∧ (w'.setCell ⟨Lb, 1, none⟩ v).cell? ⟨bb, bo + j * 4 + 1, none⟩ = some (.int .u64 xe) ∧ (w'.setCell ⟨Lb, 1, none⟩ v).cell? ⟨bb, bo + j * 4 + 2, none⟩ = some (.int .u64 xb) ∧ (w'.setCell ⟨Lb, 1, none⟩ v).cell? ⟨bb, bo + j * 4 + 3, none⟩ = some (.int .u8 xk) from by
          have bg := kbq k0 ((Below.refl w0.heap.size w0).grown g (Nat.le_refl _) (fun k e => by cases e))
          have hb2 : bb < Mb := hlo1.out bb bo rfl (by omega)
          have cc : ∀ o (b o' : Nat) (u : Value), b < Lb → w'.cell? ⟨b, o', none⟩ = some u → ∀ v, (w'.setCell ⟨Lb, o, none⟩ v).cell? ⟨b, o', none⟩ = some u := fun o b o' u hb h v => (cs_other _ _ _ _ _ _ (.inl (by omega))).trans h
          have c0 := celln bg o1
          have c1' := celln bg x0
          have c2' := celln bg x1
          have c3' := celln bg x2
          have c4' := celln bg x3
          exact ⟨⟨c0, c1', c2', c3', c4'⟩, fun v => ⟨cc 1 _ _ _ (by omega) c0 v, cc 1 _ _ _ (by omega) c1' v, cc 1 _ _ _ (by omega) c2' v, cc 1 _ _ _ (by omega) c3' v, cc 1 _ _ _ (by omega) c4' v⟩⟩)
        go_wp2_with fail
        refine region_behind (fun w' => w'.cell? ⟨w2.heap.size, 1, none⟩ = some (.slice (some ⟨bb, bo, none⟩) N c1) ∧ w'.cell? ⟨bb, bo + j * 4, none⟩ = some (.string xp) ∧ w'.cell? ⟨bb, bo + j * 4 + 1, none⟩ = some (.int .u64 xe) ∧ w'.cell? ⟨bb, bo + j * 4 + 2, none⟩ = some (.int .u64 xb) ∧ w'.cell? ⟨bb, bo + j * 4 + 3, none⟩ = some (.int .u8 xk) ∧ w'.cell? ⟨Lb, 1, none⟩ = some (.slice Al nl cl)) 17 _ (by kernel_rfl) rfl rfl rfl rfl (by kernel_rfl) ⟨dcell o1, dcell x0, dcell x1, dcell x2, dcell x3, dcell l1⟩ (fun hHeld => ?_)
        simp only [List.setIfInBounds_toArray, List.set_cons_zero, List.set_cons_succ, idle]
        refine wpAnyH_take (i := 0) (oi := _) (v := ?_) rfl (by kernel_rfl) (by kernel_rfl) (by kernel_rfl) (fun _ _ _ h => h) (Or.inl ⟨by rfl, ?_⟩) (by assumption) ?_
        rotate_left
        · (intro w hSw; (try dsimp only at hSw); go_simp <;> with_reducible rfl)
        try simp only [Act.put, List.setIfInBounds_toArray, List.set_cons_zero, List.set_cons_succ]
        refine wpAnyH_take (i := 1) (oi := _) (v := ?_) rfl (by kernel_rfl) (by kernel_rfl) (by kernel_rfl) (fun _ _ _ h => h) (Or.inl ⟨by rfl, ?_⟩) (by assumption) ?_
        rotate_left
        · (intro w hSw; (try dsimp only at hSw); go_simp <;> with_reducible rfl)
        try simp only [Act.put, List.setIfInBounds_toArray, List.set_cons_zero, List.set_cons_succ]
        refine wpAnyH_take (i := 2) (oi := _) (v := ?_) rfl (by kernel_rfl) (by kernel_rfl) (by kernel_rfl) (fun _ _ _ h => h) (Or.inl ⟨by rfl, ?_⟩) (by assumption) ?_
        rotate_left
        · (intro w hSw; (try dsimp only at hSw); go_simp <;> with_reducible rfl)
        try simp only [Act.put, List.setIfInBounds_toArray, List.set_cons_zero, List.set_cons_succ]
        refine wpAnyH_take (i := 3) (oi := _) (v := ?_) rfl (by kernel_rfl) (by kernel_rfl) (by kernel_rfl) (fun _ _ _ h => h) (Or.inl ⟨by rfl, ?_⟩) (by assumption) ?_
        rotate_left
        · (intro w hSw; (try dsimp only at hSw); go_simp <;> with_reducible rfl)
        try simp only [Act.put, List.setIfInBounds_toArray, List.set_cons_zero, List.set_cons_succ]
        refine wpAnyH_take (i := 4) (oi := _) (v := ?_) rfl (by kernel_rfl) (by kernel_rfl) (by kernel_rfl) (fun _ _ _ h => h) (Or.inl ⟨by rfl, ?_⟩) (by assumption) ?_
        rotate_left
        · (intro w hSw; (try dsimp only at hSw); go_simp <;> with_reducible rfl)
        try simp only [Act.put, List.setIfInBounds_toArray, List.set_cons_zero, List.set_cons_succ]
        refine wpAnyH_take (i := 5) (oi := _) (v := ?_) rfl (by kernel_rfl) (by kernel_rfl) (by kernel_rfl) (fun _ _ _ h => h) (Or.inl ⟨by rfl, ?_⟩) (by assumption) ?_
        rotate_left
        · (intro w hSw; (try dsimp only at hSw); go_simp <;> with_reducible rfl)
        try simp only [Act.put, List.setIfInBounds_toArray, List.set_cons_zero, List.set_cons_succ]
        refine wpAnyH_take (i := 6) (oi := _) (v := ?_) rfl (by kernel_rfl) (by kernel_rfl) (by kernel_rfl) (fun _ _ _ h => h) (Or.inl ⟨by rfl, ?_⟩) (by assumption) ?_
        rotate_left
        · (intro w hSw; (try dsimp only at hSw); go_simp <;> with_reducible rfl)
        try simp only [Act.put, List.setIfInBounds_toArray, List.set_cons_zero, List.set_cons_succ]
        refine wpAnyH_take (i := 7) (oi := _) (v := ?_) rfl (by kernel_rfl) (by kernel_rfl) (by kernel_rfl) (fun _ _ _ h => h) (Or.inl ⟨by rfl, ?_⟩) (by assumption) ?_
        rotate_left
        · (intro w hSw; (try dsimp only at hSw); go_simp <;> with_reducible rfl)
        try simp only [Act.put, List.setIfInBounds_toArray, List.set_cons_zero, List.set_cons_succ]
        refine wpAnyH_take (i := 8) (oi := _) (v := ?_) rfl (by kernel_rfl) (by kernel_rfl) (by kernel_rfl) (fun _ _ _ h => h) (Or.inl ⟨by rfl, ?_⟩) (by assumption) ?_
        rotate_left
        · (intro w hSw; (try dsimp only at hSw); go_simp <;> with_reducible rfl)
        try simp only [Act.put, List.setIfInBounds_toArray, List.set_cons_zero, List.set_cons_succ]
        refine wpAnyH_take (i := 9) (oi := _) (v := ?_) rfl (by kernel_rfl) (by kernel_rfl) (by kernel_rfl) (fun _ _ _ h => h) (Or.inl ⟨by rfl, ?_⟩) (by assumption) ?_
        rotate_left
        · (intro w hSw; (try dsimp only at hSw); go_simp <;> with_reducible rfl)
        try simp only [Act.put, List.setIfInBounds_toArray, List.set_cons_zero, List.set_cons_succ]
        refine wpAnyH_take (i := 10) (oi := _) (v := ?_) rfl (by kernel_rfl) (by kernel_rfl) (by kernel_rfl) (fun _ _ _ h => h) (Or.inl ⟨by rfl, ?_⟩) (by assumption) ?_
        rotate_left
        · (intro w hSw; (try dsimp only at hSw); go_simp <;> with_reducible rfl)
        try simp only [Act.put, List.setIfInBounds_toArray, List.set_cons_zero, List.set_cons_succ]
        refine wpAnyH_take (i := 11) (oi := _) (v := ?_) rfl (by kernel_rfl) (by kernel_rfl) (by kernel_rfl) (fun _ _ _ h => h) (Or.inl ⟨by rfl, ?_⟩) (by assumption) ?_
        rotate_left
        · (intro w hSw; (try dsimp only at hSw); go_simp <;> with_reducible rfl)
        try simp only [Act.put, List.setIfInBounds_toArray, List.set_cons_zero, List.set_cons_succ]
        refine wpAnyH_take (i := 12) (oi := _) (v := ?_) rfl (by kernel_rfl) (by kernel_rfl) (by kernel_rfl) (fun _ _ _ h => h) (Or.inl ⟨by rfl, ?_⟩) (by assumption) ?_
        rotate_left
        · (intro w hSw; (try dsimp only at hSw); go_simp <;> with_reducible rfl)
        try simp only [Act.put, List.setIfInBounds_toArray, List.set_cons_zero, List.set_cons_succ]
        refine wpAnyH_take (i := 13) (oi := _) (v := ?_) rfl (by kernel_rfl) (by kernel_rfl) (by kernel_rfl) (fun _ _ _ h => h) (Or.inl ⟨by rfl, ?_⟩) (by assumption) ?_
        rotate_left
        · (intro w hSw; (try dsimp only at hSw); go_simp <;> with_reducible rfl)
        try simp only [Act.put, List.setIfInBounds_toArray, List.set_cons_zero, List.set_cons_succ]
        refine wpAnyH_ready (rs := [14]) (by kernel_rfl) (by simp) ?_
        refine AllReadyH.cons rfl (fun K hK => ?_) AllReadyH.nil
        go_simp
        refine hK.out _ _ ⟨acell (dcell o1), acell (dcell x0), acell (dcell x1), acell (dcell x2), acell (dcell x3), acell (dcell l1)⟩ (fun hHeld => ?_)
        clear hK K
        try simp only [Act.put, List.setIfInBounds_toArray, List.set_cons_zero, List.set_cons_succ]
        refine wpAnyH_ready (rs := [15]) (by kernel_rfl) (by simp) ?_
        refine AllReadyH.cons rfl (fun K hK => ?_) AllReadyH.nil
        have k6 := k5.drew.alloc (Nat.le_refl _) (.cells #[.string xp, .int .u64 xe, .int .u64 xb, .int .u8 xk] 37)
        refine step_append_grows (by rfl) _ _ 26 (by rfl) 37 i0 (.agg #[.string ⟨#[]⟩, .int .u64 0, .int .u64 0, .int .u8 0]) 4 40 Tryz.underlying26 hi hy0 hy1 hy2 rfl (by decide) Al nl nl (flatR xs) (by rfl) HNN.out hlx.out (HG.out _ k6) ⟨wr.heap.size, 0, none⟩ 1 1 [.string xp, .int .u64 xe, .int .u64 xb, .int .u8 xk] (by rfl) (by rfl) (by first | exact new_four _ _ _ _ _ | exact fun j u hu => new_four wr _ _ _ _ j u hu) (by simp [Value.oneCell']) (by omega) (by unfold maxLen; omega) (by omega) ?_
        intro v6 w6 own6 grow6
        obtain ⟨q0, q1, q2, q3⟩ := MG.out _ _ k6 grow6
        have kb6 := BG.out _ _ k6 grow6
        have own7 : ORls w6 (Lb + 1) v6 (xs ++ [⟨xp, xe, xb, xk⟩]) := own_low (one_more own6 hxl.out) (by have := hlr2.out; first | omega | (simp; omega))
        obtain ⟨⟨s0, s1, s2, s3, s4⟩, _⟩ := CC.out _ _ k6 grow6
        clear own6 grow6
        have hok7 := Lib.hid (fun (r : Rl) (hr2 : r ∈ xs ++ [(⟨xp, xe, xb, xk⟩ : Rl)]) => show Okr r from by
          rcases List.mem_append.1 hr2 with hr2 | hr2
          · exact hokx.out r hr2
          · simp only [List.mem_cons, List.not_mem_nil, or_false] at hr2; subst hr2; exact HOKX.out)
        have hl7 : Hid ((xs ++ [(⟨xp, xe, xb, xk⟩ : Rl)]).length = nl + 1) := Lib.hid (by rw [List.length_append, hxl.out]; rfl)
        obtain ⟨A6, c6, rfl, hc6, _⟩ := own7.form3 (n := nl + 1) hok7.out hl7.out
        generalize xs ++ [(⟨xp, xe, xb, xk⟩ : Rl)] = xs7' at *
        refine hK.out _ _ ⟨s0, s1, s2, s3, s4, q1⟩ (fun hHeld => ?_)
        clear hK K
        try simp only [Act.put, List.setIfInBounds_toArray, List.set_cons_zero, List.set_cons_succ]
        refine wpAnyH_take (i := 16) (oi := _) (v := ?_) rfl (by kernel_rfl) (by kernel_rfl) (by kernel_rfl) (fun _ _ _ h => h) (Or.inl ⟨by rfl, ?_⟩) (by assumption) ?_
        rotate_left
        · (intro w hSw; (try dsimp only at hSw); go_simp <;> with_reducible rfl)
        try simp only [Act.put, List.setIfInBounds_toArray, List.set_cons_zero, List.set_cons_succ]
        refine wpAnyH_take (i := 17) (oi := _) (v := ?_) rfl (by kernel_rfl) (by kernel_rfl) (by kernel_rfl) (fun _ _ _ h => h) (Or.inl ⟨by rfl, ?_⟩) (by assumption) ?_
        rotate_left
        · (intro w hSw; (try dsimp only at hSw); go_simp <;> with_reducible rfl)
        try simp only [Act.put, List.setIfInBounds_toArray, List.set_cons_zero, List.set_cons_succ]
        refine wpAnyH_done (by kernel_rfl) ?_ _
        unfold Behind
        refine wpOp_step rfl (fun K hK => ?_)
        go_simp
        refine hK _ _ ?_
        clear hK K
        have hlow : Hid (∀ b off, A6 = some ⟨b, off, none⟩ → 0 < nl + 1 → b ≠ Lb) := Lib.hid (fun b off e _ => by have := own7.low b off e; omega)
        have hO := (show ORls (w6.setCell ⟨Lb, 1, none⟩ (.slice A6 (nl + 1) c6)) (Lb + 1) (.slice A6 (nl + 1) c6) xs7' from ownsRow_setCell_below own7 (a := ⟨Lb, 1, none⟩) (by show Lb < Lb + 1; omega) (.slice A6 (nl + 1) c6))
        have hF : Hid (Rls (w6.setCell ⟨Lb, 1, none⟩ (.slice A6 (nl + 1) c6)) A6 (nl + 1) xs7' ∧ (A6 = none → nl + 1 = 0) ∧ (∀ ad, A6 = some ad → ad.spot = none)) := Lib.hid (by
          obtain ⟨A', c', e, hcc, hR, hn0, hsp⟩ := hO.form3 hok7.out hl7.out
          simp only [Value.slice.injEq, true_and] at e
          obtain ⟨rfl, rfl⟩ := e
          exact ⟨hR, fun e => by have := hn0 e; omega, hsp⟩)
        have hZ := Lib.hid (PB.put ⟨q0, q1, q2, q3⟩ (.slice A6 (nl + 1) c6))
        have hB := Lib.hid (kb6.setCell (p := ⟨Lb, 1, none⟩) (Nat.le_refl _) (.slice A6 (nl + 1) c6))
        clear own7 kb6 hO s0 s1 s2 s3 s4 hHeld MG BG HG CC k6 k5
        go_wp2
        go_roundw
        case rel => exact ⟨j + 1, nl + 1, c6, A6, xs7', by go_num, by omega, hZ.out, Lib.hid ⟨hF.out.1, hF.out.2.1, hF.out.2.2, hlow.out⟩, by omega, hc6.1, hc6.2, hB.out⟩
        case measure => simp [intOf]; omega
    · have j1 : ¬ (j : Int) < (N : Int) := by omega
      have kn := (Below.refl _ wr).alloc (Nat.le_refl _) (.cells #[.int .i64 m, .slice A1 N c1] 28)
      have PN := PB.new wr m (.slice A1 N c1)
      have F1 := Lib.hid (PHx.out _ kx)
      have F2 := Lib.hid (POx.out _ kx)
      have F3 := Lib.hid (PMx.out _ hBL)
      have E1 := Lib.hid (hRpx.out _ kx)
      have E2 := Lib.hid (hRox.out _ kx)
      have E3 := Lib.hid (RMx.out _ hBL)
      have E4 := Lib.hid hGL.out.1
      have EN := Lib.hid (hNx.out _ kx)
      have kx' : Below W3.heap.size W3 wr := by rw [hMb]; exact kx
      have B4 := Lib.hid (kbq B3 kx')
      clear kx kx' hBL hGL
      obtain ⟨nb, hnb⟩ : ∃ nb, wr.heap.size = nb := ⟨_, rfl⟩
      rw [hnb] at PN kn
      go_upto_region 18 with fail
      generalize hW : wr.alloc (.cells #[.int .i64 m, .slice A1 N c1] 28) = W20 at *
      clear hW l0 l1 f0 f1 o0 o1
      have PN1 := PN.put0 nI
      have kn1 := kn.setCell (p := ⟨nb, 0, none⟩) (Nat.le_refl _) (.int .i64 nI)
      obtain ⟨a0, a1, b0, b1⟩ := PN
      go_upto_region 19 with fail
      generalize hW : W20.setCell ⟨nb, 0, none⟩ (.int .i64 nI) = W21 at *
      clear hW a0 a1 b0 b1 kn
      have PN' := Lib.hid PN1
      rw [← hnb] at kn1
      have kn' := Lib.hid kn1
      have X1 := Lib.hid (F1.out.below kn1)
      have X2 := Lib.hid (F2.out.below kn1)
      have X3 := Lib.hid (F3.out.below kn1)
      have X4 := Lib.hid (PLh.out.below kn1)
      have C1 := Lib.hid (fun W (g : Below W21.heap.size W21 W) => prints_any pm Ap np cp ps W ((EN.out.below kn1).below g) ((E1.out.below kn1).below g) (by omega) hpm)
      have C2 := Lib.hid (fun W (g : Below W21.heap.size W21 W) => prints_any m A1 N c1 rs W ((EN.out.below kn1).below g) ((E2.out.below kn1).below g) (by omega) (by omega))
      have C3 := Lib.hid (fun W (g : Below W21.heap.size W21 W) => prints_any m AM nM cM xsM W ((EN.out.below kn1).below g) ((E3.out.below kn1).below g) (by omega) (by omega))
      have C4 := Lib.hid (fun W (g : Below W21.heap.size W21 W) => prints_any m Al nl cl xs W ((EN.out.below kn1).below g) ((E4.out.below kn1).below g) (by omega) (by omega))
      have C5 := Lib.hid (fun W (g : Below W21.heap.size W21 W) => prints_any nI A1 N c1 rs W ((EN.out.below kn1).below g) ((E2.out.below kn1).below g) (by omega) hnI)
      clear kn1 PN1
      have g0 := Below.refl W21.heap.size W21
      have D1 := C1.out _ g0
      obtain ⟨a0, a1, _, _⟩ := X1.out
      go_wp2_with (go_at_call 15; (with_reducible refine D1.mono ?_); rintro r v1 ⟨rfl, g1⟩; refine stopHere ?_)
      unfold Stop
      clear a0 a1 D1
      have D2 := C2.out _ g1
      obtain ⟨a0, a1, _, _⟩ := X2.out.below g1
      go_wp2_with (go_at_call 15; (with_reducible refine D2.mono ?_); rintro r v2 ⟨rfl, g2⟩; refine stopHere ?_)
      unfold Stop
      clear a0 a1 D2
      have G2 := kbq g1 g2
      have D3 := C3.out _ G2
      obtain ⟨a0, a1, _, _⟩ := X3.out.below G2
      go_wp2_with (go_at_call 15; (with_reducible refine D3.mono ?_); rintro r v3 ⟨rfl, g3⟩; refine stopHere ?_)
      unfold Stop
      clear a0 a1 D3
      have G3 := kbq G2 g3
      have D4 := C4.out _ G3
      obtain ⟨a0, a1, _, _⟩ := X4.out.below G3
      go_wp2_with (go_at_call 15; (with_reducible refine D4.mono ?_); rintro r v4 ⟨rfl, g4⟩; refine stopHere ?_)
      unfold Stop
      clear a0 a1 D4
      have G4 := kbq G3 g4
      have D5 := C5.out _ G4
      obtain ⟨a0, a1, _, _⟩ := PN'.out.below G4
      go_wp2_with (go_at_call 15; (with_reducible refine D5.mono ?_); rintro r v5 ⟨rfl, g5⟩; refine stopHere ?_)
      unfold Stop
      clear a0 a1 D5
      have G5 := kbq G4 g5
      have BB : Hid (Below w.heap.size w v5) := Lib.hid (kbq (kbq B4.out kn'.out) G5)
      clear g0 g1 g2 g3 g4 g5 G2 G3 G4 G5
      go_wp2
      go_ret
      exact ⟨rfl, BB.out⟩
end Go.Proofs.YtckaiejbgnhgcaaGreatDoor.Wd
