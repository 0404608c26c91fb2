/- ConfigBlanks; no conditions but those that each names. -/
import Derived.Test.YtckaiejbgnhgcaaGreatDoorZCfgBp
import Derived.Test.YtckaiejbgnhgcaaGreatDoorZQ
import Derived.Test.YtckaiejbgnhgcaaGreatDoorZCfgU
import Derived.Test.YtckaiejbgnhgcaaGreatDoorZE
namespace Go.Proofs.YtckaiejbgnhgcaaGreatDoor.Wd
open Go Go.RowKit
set_option linter.unusedVariables false
set_option maxRecDepth 100000
theorem str_at (S : List UInt8) (j : Nat) (h : j < S.length) (W : World) : (Instr.index 9 (.string (str S)) (.int .i64 (j : Int))).run Tryz.prog W = .ok (.int .u8 ((S.getD j 0).toNat : Int)) W := by
  have h1 : (str S).size = S.length := str_size S
  simp [go_sem, Tryz.underlying9, h1, h]
  rfl
/-- What stands ahead of line j. -/
def zOf (cs : List UInt8) (nc j : Nat) : List UInt8 := if j < nc then Ws.pfx.getD ((cs.getD j 0).toNat % 6) [] else []
theorem zOf_in (cs : List UInt8) (nc j : Nat) : zOf cs nc j ∈ Ws.pfx := by
  unfold zOf
  split
  · have h : (cs.getD j 0).toNat % 6 < 6 := Nat.mod_lt _ (by omega)
    generalize (cs.getD j 0).toNat % 6 = q at h
    have hq : q = 0 ∨ q = 1 ∨ q = 2 ∨ q = 3 ∨ q = 4 ∨ q = 5 := by omega
    rcases hq with rfl | rfl | rfl | rfl | rfl | rfl <;> decide
  · decide
theorem pcL_succ (m : Int) (rs : List Rl) (odd : Bool) (z : Nat → List UInt8) (k : Nat) : Ws.pcs (pcL m rs odd z (k + 1)) = Ws.pcs (pcL m rs odd z k) ++ (z k ++ (Ws.bodyP (lnI m rs (onI rs.length odd k)) ++ [10])) := by
  simp [Ws.pcs, pcL, List.range_succ]
theorem s_add (a b : List UInt8) (h : a.length + b.length ≤ 1000000) (W : World) : (Op.stringOp .add (str a) (str b)).run Tryz.prog W = .ok (.string (str (a ++ b))) W := by
  rw [run_string_add_sum W _ _ (by rw [str_size, str_size]; omega), str_append]
theorem lit6_at (q : Nat) (h : q < 6) : ([.string ⟨#[]⟩, .string ⟨#[32]⟩, .string ⟨#[9, 32]⟩, .string ⟨#[10]⟩, .string ⟨#[35, 32, 120, 10]⟩, .string ⟨#[32, 35, 115, 105, 122, 101, 32, 53, 10, 10]⟩] : List Value)[q]? = some (.string (str (Ws.pfx.getD q []))) := by
  have hq : q = 0 ∨ q = 1 ∨ q = 2 ∨ q = 3 ∨ q = 4 ∨ q = 5 := by omega
  rcases hq with rfl | rfl | rfl | rfl | rfl | rfl <;> rfl
set_option maxHeartbeats 4000000 in
theorem blanks_walk (most : Int) (A Ac : Option Addr) (n cap nc capc : Nat) (cs : List UInt8) (w : World) (hN : Nam w) (hm : 0 ≤ most ∧ most ≤ 65535) (h : Nmr w A n) (hn : n ≤ 9223372036854775807) (hc : Ws.Txt w Ac nc cs) (hnc : nc ≤ 140737488351232) :
    Calls Tryz.prog 6 #[.int .u16 most, .slice A n cap, .slice Ac nc capc] w fun r w' => r = .returned (.bool true) ∧ Below w.heap.size w w' := by
  have CP := policy_any most A n cap w hm h hn
  clear h
  go_enter Tryz.func6, Tryz.ntmps6
  go_wp2_with (go_at_call 11; (with_reducible refine CP.mono ?_); rintro r w1 ⟨⟨m, rs, v, rfl, hO, hl, hP⟩, k1⟩; refine stopHere ?_)
  unfold Stop
  obtain ⟨A1, c1, rfl, ⟨hc1, hc2⟩, hRo, -, -⟩ := hO.form2 hP.out.ok
  have m1 := hP.out.m1
  have m2 := hP.out.m2
  have kC := (Below.refl _ w1).alloc (Nat.le_refl _) (.cells #[.int .i64 m, .slice A1 rs.length c1] 28)
  have P1 := PB.new w1 m (.slice A1 rs.length c1)
  have B1 := Lib.hid (kbq k1 kC)
  have R1 := hRo.below kC
  have N1 := hN.below B1.out
  have T1 := hc.below B1.out
  clear CP hO hN hc kC hRo k1
  go_upto_region 2 with fail
  generalize hW : w1.alloc (.cells #[.int .i64 m, .slice A1 rs.length c1] 28) = W2 at *
  clear hW
  have PX := Lib.hid (fun W (g : Below W2.heap.size W2 W) => P1.below g)
  have RX := Lib.hid (fun W (g : Below W2.heap.size W2 W) => R1.below g)
  have NX := Lib.hid (fun W (g : Below W2.heap.size W2 W) => N1.below g)
  have TX := Lib.hid (fun W (g : Below W2.heap.size W2 W) => T1.below g)
  have hcl := Lib.hid T1.1
  clear P1 R1 N1 T1
  have hpar : ∃ odd : Bool, (nc = 0 ∧ odd = false) ∨ (0 < nc ∧ odd = false ∧ (cs.getD 0 0).toNat % 2 ≠ 1) ∨ (0 < nc ∧ odd = true ∧ (cs.getD 0 0).toNat % 2 = 1) := by
    by_cases c : nc = 0
    · exact ⟨false, .inl ⟨c, rfl⟩⟩
    · by_cases d : (cs.getD 0 0).toNat % 2 = 1
      · exact ⟨true, .inr (.inr ⟨by omega, rfl, d⟩)⟩
      · exact ⟨false, .inr (.inl ⟨by omega, rfl, d⟩)⟩
  obtain ⟨odd, hodd⟩ := hpar
  have HODD := Lib.hid hodd
  have hfin := Lib.hid (blanks_text hP.out hl odd (zOf_in cs nc))
  have hlen := Lib.hid (fun k => (pcL_ok hP.out hl odd (zOf_in cs nc) k).2)
  have hsucc := Lib.hid (pcL_succ m rs odd (zOf cs nc))
  have h0 : Ws.pcs (pcL m rs odd (zOf cs nc) 0) = [] := rfl
  generalize hTT : (fun k => Ws.pcs (pcL m rs odd (zOf cs nc) k)) = TT
  have hTk : ∀ k, Ws.pcs (pcL m rs odd (zOf cs nc) k) = TT k := fun k => by rw [← hTT]
  simp only [hTk] at hfin hlen hsucc h0
  clear hTT hTk hodd
  have E0 : Ws.BRow W2 W2.heap.size (.slice none 0 0) (TT 0) := by rw [h0]; exact Ws.BRow.nil _ _
  have E1 := Below.refl W2.heap.size W2
  clear h0
  go_wp2
  go_loopw [8, 9] (fun v i wr => ∃ k : Nat, i = .int .i64 (k : Int) ∧ k ≤ rs.length + 1 ∧ Ws.BRow wr W2.heap.size v (TT k) ∧ Below W2.heap.size W2 wr) (fun _ i _ => rs.length + 1 - (intOf i).toNat)
  case atStart => exact ⟨0, rfl, by omega, E0, E1⟩
  case round =>
    clear E0 E1
    obtain ⟨k, rfl, hk, hBR, hB⟩ := hrel
    have k0 : (0 : Int) ≤ (k : Int) := Int.natCast_nonneg _
    have HB := Lib.hid hB
    have HBR := Lib.hid hBR
    obtain ⟨p0, p1, _, _⟩ := PX.out _ hB
    have hTc := TX.out _ hB
    have hRl := Lib.hid (RX.out _ hB)
    obtain ⟨At, ct, rfl, hcap, hTx, _, _⟩ := hBR.form2
    have HF := Lib.hid (And.intro hcap hTx)
    clear hB hBR hcap hTx
    by_cases hkN : k ≤ rs.length
    · have y1 : (k : Int) ≤ (rs.length : Int) := by omega
      go_upto_region 7 with fail
      go_cut [38] from 29 to 38 (fun c wx => c = .bool odd ∧ wx = wr)
      case first =>
        rcases HODD.out with ⟨d1, d2⟩ | ⟨d1, d2, d3⟩ | ⟨d1, d2, d3⟩
        · subst d1 d2
          go_wp2
          go_meet
          case rel => exact ⟨rfl, rfl⟩
        · subst d2
          have f1 : (0 : Int) < (nc : Int) := by omega
          obtain ⟨bc, oc, rfl, _, hcc⟩ := hTc.2 d1
          have x0 := hcc 0 d1
          rw [Nat.add_zero] at x0
          have e1 : IntKind.u8.wrap (((cs.getD 0 0).toNat : Int).tmod 2) = (((cs.getD 0 0).toNat % 2 : Nat) : Int) := by
            rw [Int.tmod_eq_emod_of_nonneg (by omega)]
            exact IntWalk.u8_in _ (by omega)
          have f2 : ¬ (((cs.getD 0 0).toNat % 2 : Nat) : Int) = 1 := by omega
          go_wp2
          go_meet
          case rel => exact ⟨congrArg Value.bool (by have h3 := d3; rw [List.getD_eq_getElem?_getD] at h3; simp; omega), rfl⟩
        · subst d2
          have f1 : (0 : Int) < (nc : Int) := by omega
          obtain ⟨bc, oc, rfl, _, hcc⟩ := hTc.2 d1
          have x0 := hcc 0 d1
          rw [Nat.add_zero] at x0
          have e1 : IntKind.u8.wrap (((cs.getD 0 0).toNat : Int).tmod 2) = (((cs.getD 0 0).toNat % 2 : Nat) : Int) := by
            rw [Int.tmod_eq_emod_of_nonneg (by omega)]
            exact IntWalk.u8_in _ (by omega)
          have f2 : (((cs.getD 0 0).toNat % 2 : Nat) : Int) = 1 := by omega
          go_wp2
          go_meet
          case rel => exact ⟨congrArg Value.bool (by have h3 := d3; rw [List.getD_eq_getElem?_getD] at h3; simp; omega), rfl⟩
      case rest =>
      obtain ⟨rfl, rfl⟩ := hcut
      go_upto_if 38 with fail
      go_cut [10] from 39 to 43 (fun i wx => i = .int .i64 ((onI rs.length odd k : Nat) : Int) ∧ wx = wc)
      case first =>
        cases odd
        · go_wp2
          go_meet
          case rel => exact ⟨rfl, rfl⟩
        · have e2 : IntKind.i64.wrap ((rs.length : Int) - (k : Int)) = ((rs.length - k : Nat) : Int) := by
            rw [show (rs.length : Int) - (k : Int) = ((rs.length - k : Nat) : Int) by omega]
            exact IntWalk.i64_in _ (by omega)
          go_wp2
          go_meet
          case rel => exact ⟨rfl, rfl⟩
      case rest =>
      obtain ⟨rfl, rfl⟩ := hcut
      have hiN : onI rs.length odd k ≤ rs.length := by unfold onI; split <;> omega
      have HS := Lib.hid (hsucc.out k)
      generalize onI rs.length odd k = i at hiN HS
      have hRl2 := Lib.hid hRl.out
      have mm : ((m.toNat : Nat) : Int) = m := by omega
      have mw : IntKind.u64.wrap m = m := IntWalk.u64_in _ (by omega)
      have CZ := refPrint_any m.toNat wc (by omega)
      rw [mm] at CZ
      have hd20 := dec_len20 m.toNat (by omega)
      have A1' : ∀ W, (Op.stringOp .add ⟨#[115, 105, 122, 101, 32, 9]⟩ (str (Lib.decDigits m.toNat))).run Tryz.prog W = .ok (.string (str ([115, 105, 122, 101, 32, 9] ++ Lib.decDigits m.toNat))) W := fun W => s_add [115, 105, 122, 101, 32, 9] _ (by simp; omega) W
      have A2' : ∀ W, (Op.stringOp .add (str ([115, 105, 122, 101, 32, 9] ++ Lib.decDigits m.toNat)) ⟨#[32]⟩).run Tryz.prog W = .ok (.string (str (Ws.bodyP (szP m)))) W := fun W => by
        have := s_add ([115, 105, 122, 101, 32, 9] ++ Lib.decDigits m.toNat) [32] (by simp; omega) W
        have e : [115, 105, 122, 101, 32, 9] ++ Lib.decDigits m.toNat ++ [32] = Ws.bodyP (szP m) := by
          have e1 : lb (dig m.toNat) = Lib.decDigits m.toNat := by unfold dig lb; rw [str_data]
          simp [Ws.bodyP, szP, e1]
          rfl
        rw [e] at this
        exact this
      generalize Lib.decDigits m.toNat = dd at CZ A1' A2' hd20
      generalize [115, 105, 122, 101, 32, 9] ++ dd = SD at A1' A2'
      go_wp2_with (go_at_call 21; (with_reducible refine CZ.mono ?_); rintro r w5 ⟨rfl, rfl⟩; refine stopHere ?_)
      unfold Stop
      clear CZ
      go_upto_region 10 with fail
      clear A1' A2' mm mw hd20
      go_cut [54] from 50 to 54 (fun c wx => ∃ t : Bool, c = .bool t ∧ Hid (t = decide (i < rs.length)) ∧ wx = wc)
      case first =>
        by_cases hi : i < rs.length
        · have hi1 : (i : Int) < (rs.length : Int) := by omega
          go_wp2
          go_meet
          case rel => exact ⟨true, rfl, Lib.hid (decide_eq_true hi).symm, rfl⟩
        · have hi1 : ¬ (i : Int) < (rs.length : Int) := by omega
          go_wp2
          go_meet
          case rel => exact ⟨false, rfl, Lib.hid (decide_eq_false hi).symm, rfl⟩
      case rest =>
      obtain ⟨t, rfl, ht, rfl⟩ := hcut
      go_upto_if 54 with fail
      go_cut [11, 12, 13] from 55 to 73 (fun s _ _ wx => s = .string (str (Ws.bodyP (lnI m rs i))) ∧ Below wc.heap.size wc wx)
      case first =>
        cases t
        · have hi : ¬ i < rs.length := of_decide_eq_false ht.out.symm
          have e : Hid (lnI m rs i = szP m) := Lib.hid (if_neg hi)
          go_wp2
          go_meet
          case rel => exact ⟨by rw [e.out], Below.refl _ _⟩
        · have hi : i < rs.length := of_decide_eq_true ht.out.symm
          have e : Hid (lnI m rs i = rlP (fnOf rs i)) := Lib.hid (if_pos hi)
          have hRw := hRl.out
          have hok := hRw.ok i
          have her : (fnOf rs i).er = 0 := (hP.out.own _ (fn_mem hi)).er
          obtain ⟨bb, bo, eA, hbb, hcc⟩ := hRw.2.2 (by omega)
          subst eA
          obtain ⟨x0, x1, x2, x3⟩ := hcc i hi
          have hi1 : (i : Int) < (rs.length : Int) := by omega
          have hi0 : (0 : Int) ≤ (i : Int) := Int.natCast_nonneg _
          have hLN := Lib.hid (rlP_len hok her)
          have hl5 : (rlW (fnOf rs i)).length ≤ 5 := rlW_len _
          have hsz : Hid (∀ x ∈ rlW (fnOf rs i), x.size ≤ 128) := Lib.hid (fun x hx => rlW_size hok (er_short her) x hx)
          obtain ⟨⟨xp, xe, xb, xk⟩, hX⟩ : ∃ x, fnOf rs i = x := ⟨_, rfl⟩
          rw [hX] at x0 x1 x2 x3 hok hLN hl5 hsz e
          dsimp only at x0 x1 x2 x3
          obtain ⟨ok1, ok2, ok3, ok4⟩ := hok
          unfold U at ok2 ok3
          dsimp only at ok1 ok2 ok3 ok4
          obtain ⟨E, rfl⟩ : ∃ E : Nat, xe = (E : Int) := ⟨xe.toNat, by have := ok2.1; omega⟩
          obtain ⟨F, rfl⟩ : ∃ F : Nat, xb = (F : Int) := ⟨xb.toNat, by have := ok3.1; omega⟩
          have Cx := refprint_any xp E F xk wc ok1 (by have := ok2.2; omega) (by have := ok3.2; omega) ok4
          have ew : rlW ⟨xp, (E : Int), (F : Int), xk⟩ = prW xp E F xk := rfl
          unfold rlP at e
          unfold rlP at hLN
          rw [ew] at hl5 hsz e hLN
          generalize prW xp E F xk = ws at *
          clear ew hcc hX her hRw
          go_wp2_with (go_at_call 22; refine stopHere ?_)
          unfold Stop
          refine Cx.mono ?_
          rintro r v5 ⟨⟨vv, rfl, hO5⟩, k5⟩
          obtain ⟨A5, c5, rfl, hc5, hc5', hS5⟩ := hO5.sts (fun x hx => by have := hsz.out x hx; omega)
          clear Cx hO5 x0 x1 x2 x3
          have HS5 := Lib.hid hS5
          have K5 := Lib.hid k5
          have wn0 : (0 : Int) ≤ (ws.length : Int) := Int.natCast_nonneg _
          clear hS5 k5
          go_wp2
          go_loopw [11, 13] (fun s j wl => ∃ q : Nat, j = .int .i64 (q : Int) ∧ q ≤ ws.length ∧ s = .string (str (Ws.bodyP ((ws.take q).map fun x => (lb x, [32, 32])))) ∧ wl = v5) (fun _ j _ => ws.length - (intOf j).toNat)
          case atStart => exact ⟨0, rfl, Nat.zero_le _, rfl, rfl⟩
          case round =>
            obtain ⟨q, rfl, hq, rfl, rfl⟩ := hrel
            have q0 : (0 : Int) ≤ (q : Int) := Int.natCast_nonneg _
            by_cases hqn : q < ws.length
            · have q1 : (q : Int) < (ws.length : Int) := by omega
              obtain ⟨b6, o6, eA6, _, hc6⟩ := HS5.out.2.2 (by omega)
              subst eA6
              have y0 := hc6 q hqn
              have hx := hsz.out (ws.getD q nob) (by rw [List.getD_eq_getElem?_getD, List.getElem?_eq_getElem hqn]; exact List.getElem_mem hqn)
              have hT : ws.take (q + 1) = ws.take q ++ [ws.getD q nob] := by rw [List.take_succ_eq_append_getElem hqn, List.getD_eq_getElem?_getD, List.getElem?_eq_getElem hqn]; rfl
              have hb : Hid (Ws.bodyP ((ws.take (q + 1)).map fun x => (lb x, [32, 32])) = Ws.bodyP ((ws.take q).map fun x => (lb x, [32, 32])) ++ lb (ws.getD q nob) ++ [32, 32]) := Lib.hid (by rw [hT]; simp [Ws.bodyP])
              have hbl : (Ws.bodyP ((ws.take q).map fun x => (lb x, [32, 32]))).length ≤ 650 := by
                have := body_len 130 ((ws.take q).map fun x => (lb x, [32, 32])) (fun y hy => by
                  obtain ⟨x, hx, rfl⟩ := List.mem_map.1 hy
                  have := hsz.out x (List.mem_of_mem_take hx)
                  show (lb x).length + 2 ≤ 130
                  rw [list_size]; omega)
                rw [List.length_map, List.length_take] at this
                omega
              have hxl : (lb (ws.getD q nob)).length ≤ 128 := by rw [list_size]; exact hx
              have hxs : ws.getD q nob = str (lb (ws.getD q nob)) := (strx_lb _).symm
              generalize Ws.bodyP ((ws.take q).map fun x => (lb x, [32, 32])) = acc at *
              rw [hxs] at y0
              generalize lb (ws.getD q nob) = xx at *
              have a1 := fun W => s_add acc xx (by omega) W
              have a2 : ∀ W, (Op.stringOp .add (str (acc ++ xx)) ⟨#[32, 32]⟩).run Tryz.prog W = .ok (.string (str (acc ++ xx ++ [32, 32]))) W := fun W => s_add (acc ++ xx) [32, 32] (by simp; omega) W
              clear hT hxs hc6 hx
              generalize acc ++ xx = ax at *
              generalize ax ++ [32, 32] = ay at *
              go_wp2
              go_roundw
              case rel => exact ⟨q + 1, by go_num, by omega, by rw [hb.out], by first | rfl | trivial⟩
              case measure => simp [intOf]; omega
            · have q1 : ¬ (q : Int) < (ws.length : Int) := by omega
              have hqe : q = ws.length := by omega
              have hte : Hid (Ws.bodyP ((ws.take q).map fun x => (lb x, [32, 32])) = Ws.bodyP (ws.map fun x => (lb x, [32, 32]))) := Lib.hid (by rw [hqe, List.take_length])
              generalize Ws.bodyP ((ws.take q).map fun x => (lb x, [32, 32])) = acc at *
              clear hqe
              go_wp2
              go_meet
              case rel => exact ⟨by rw [e.out, hte.out], K5.out⟩
      case rest =>
      obtain ⟨rfl, hB5⟩ := hcut
      have kbx := kbq HB.out hB5
      have HK := Lib.hid kbx
      have hTd := TX.out _ kbx
      have hBD := Lib.hid (show (Ws.bodyP (lnI m rs i)).length ≤ 650 from by
        obtain ⟨g1, g2, g3, g4, g5⟩ := riE_0 (polr_ri hP.out hl)
        unfold lnI
        split
        · exact rlP_len (hP.out.ok _ (fn_mem (by assumption))) (hP.out.own _ (fn_mem (by assumption))).er
        · exact szP_len m g1)
      have HS2 := HS
      generalize Ws.bodyP (lnI m rs i) = BD at *
      clear kbx
      go_upto_region 17 with fail
      go_cut [77] from 74 to 77 (fun c wx => ∃ t : Bool, c = .bool t ∧ Hid (t = decide (k < nc)) ∧ wx = wc)
      case first =>
        by_cases hi : k < nc
        · have hi1 : (k : Int) < (nc : Int) := by omega
          go_wp2
          go_meet
          case rel => exact ⟨true, rfl, Lib.hid (decide_eq_true hi).symm, rfl⟩
        · have hi1 : ¬ (k : Int) < (nc : Int) := by omega
          go_wp2
          go_meet
          case rel => exact ⟨false, rfl, Lib.hid (decide_eq_false hi).symm, rfl⟩
      case rest =>
      obtain ⟨t, rfl, ht, hw7⟩ := hcut
      subst hw7
      go_upto_if 77 with fail
      go_cut [11] from 78 to 87 (fun s wx => s = .string (str (zOf cs nc k ++ BD)) ∧ Below wc.heap.size wc wx)
      case first =>
        cases t
        · have hi : ¬ k < nc := of_decide_eq_false ht.out.symm
          have e : Hid (zOf cs nc k = []) := Lib.hid (if_neg hi)
          go_wp2
          go_meet
          case rel => exact ⟨by rw [e.out]; rfl, Below.refl _ _⟩
        · have hi : k < nc := of_decide_eq_true ht.out.symm
          have e : Hid (zOf cs nc k = Ws.pfx.getD ((cs.getD k 0).toNat % 6) []) := Lib.hid (if_pos hi)
          have hi1 : (k : Int) < (nc : Int) := by omega
          obtain ⟨bc, oc, eAc, _, hcc⟩ := hTd.2 (by omega)
          subst eAc
          have x0 := hcc k hi
          have hz := pfx_len (zOf_in cs nc k)
          rw [e.out] at hz
          have q6 : (cs.getD k 0).toNat % 6 < 6 := Nat.mod_lt _ (by omega)
          have e6 : IntKind.u8.wrap (((cs.getD k 0).toNat : Int).tmod 6) = (((cs.getD k 0).toNat % 6 : Nat) : Int) := by
            rw [Int.tmod_eq_emod_of_nonneg (by omega)]
            exact IntWalk.u8_in _ (by omega)
          have l6 := lit6_at ((cs.getD k 0).toNat % 6) q6
          generalize Ws.pfx.getD ((cs.getD k 0).toNat % 6) [] = zz at *
          generalize (cs.getD k 0).toNat = cb at *
          have a1 := fun W => s_add zz BD (by have := hBD.out; omega) W
          have x1 := acell (o := .cells #[.string ⟨#[]⟩, .string ⟨#[32]⟩, .string ⟨#[9, 32]⟩, .string ⟨#[10]⟩, .string ⟨#[35, 32, 120, 10]⟩, .string ⟨#[32, 35, 115, 105, 122, 101, 32, 53, 10, 10]⟩] 9) x0
          have l7 : ∀ h, ([.string ⟨#[]⟩, .string ⟨#[32]⟩, .string ⟨#[9, 32]⟩, .string ⟨#[10]⟩, .string ⟨#[35, 32, 120, 10]⟩, .string ⟨#[32, 35, 115, 105, 122, 101, 32, 53, 10, 10]⟩] : List Value)[cb % 6]'h = .string (str zz) := fun h => by
            rw [List.getElem?_eq_getElem h] at l6
            exact Option.some.inj l6
          clear hcc l6
          go_wp2
          go_meet
          case rel => exact ⟨by rw [e.out], (Below.refl _ wc).alloc (Nat.le_refl _) _⟩
      case rest =>
      obtain ⟨rfl, hB6⟩ := hcut
      have kb7 := kbq HK.out hB6
      have hBR7 := (HBR.out.below hB5).below hB6
      have hSl : (zOf cs nc k ++ BD).length ≤ 660 := by
        have := pfx_len (zOf_in cs nc k)
        have := hBD.out
        rw [List.length_append]; omega
      have hTl : (TT k).length ≤ 9254 := by
        have := hlen.out k
        have : k * 661 ≤ 14 * 661 := Nat.mul_le_mul_right _ (by omega)
        omega
      have HS3 : Hid (TT (k + 1) = TT k ++ (zOf cs nc k ++ BD) ++ [10]) := Lib.hid (by rw [HS2.out]; simp)
      generalize zOf cs nc k ++ BD = SS at *
      have hBR8 : Ws.BRow wc W2.heap.size (.slice At (TT k).length ct) (TT k ++ SS.take 0) := by rw [List.take_zero, List.append_nil]; exact hBR7
      have ss0 : (0 : Int) ≤ (SS.length : Int) := Int.natCast_nonneg _
      have hss : (str SS).size = SS.length := str_size SS
      clear hBR7 hB5 hB6 p0 p1 HS HS2
      go_wp2
      go_loopw [8, 14] (fun v j wl => ∃ q : Nat, j = .int .i64 (q : Int) ∧ q ≤ SS.length ∧ Ws.BRow wl W2.heap.size v (TT k ++ SS.take q) ∧ Below W2.heap.size W2 wl) (fun _ j _ => SS.length - (intOf j).toNat)
      case atStart => exact ⟨0, rfl, Nat.zero_le _, hBR8, kb7⟩
      case round =>
        clear hBR8 kb7
        obtain ⟨q, rfl, hq, hBR, hBl⟩ := hrel
        have q0 : (0 : Int) ≤ (q : Int) := Int.natCast_nonneg _
        obtain ⟨A7, c7, rfl, ⟨hc5, hc6⟩, hT7, _, _⟩ := hBR.form2
        by_cases hqn : q < SS.length
        · have q1 : (q : Int) < (SS.length : Int) := by omega
          have hX := fun W => str_at SS q hqn W
          have hzt2 : Hid (TT k ++ SS.take (q + 1) = TT k ++ SS.take q ++ [SS.getD q 0]) := Lib.hid (by
            rw [List.take_succ_eq_append_getElem hqn, List.getD_eq_getElem?_getD, List.getElem?_eq_getElem hqn, List.append_assoc]; rfl)
          have hal : (TT k ++ SS.take q).length ≤ 700000 := by rw [List.length_append, List.length_take]; omega
          generalize SS.getD q 0 = bt at *
          have kE := (Below.refl _ wr).alloc (Nat.le_refl _) (.cells #[.int .u8 (bt.toNat : Int)] 5)
          have hBR2 := Lib.hid (hBR.below kE)
          have hBl2 := Lib.hid (hBl.alloc hBl.size (.cells #[.int .u8 (bt.toNat : Int)] 5))
          have hbs : W2.heap.size ≤ (wr.alloc (.cells #[.int .u8 (bt.toNat : Int)] 5)).heap.size := Nat.le_trans hBl.size kE.size
          generalize TT k ++ SS.take q = acc at *
          clear hBR hT7 kE hBl
          go_wp2_with (at_builtin; refine wpList_app_byte _ rfl _ _ rfl W2.heap.size (.slice A7 acc.length c7) acc rfl hBR2.out wr.heap.size bt rfl (by simp) (by omega) hbs ?_; intro g cp w6 hO6 _ _ b6; refine stopHere ?_)
          unfold Stop
          have HO6 := Lib.hid hO6
          have HB6 := Lib.hid (hBl2.out.trans b6)
          clear hO6 b6
          go_wp2
          go_roundw
          case rel => exact ⟨q + 1, by go_num, by omega, by rw [hzt2.out]; exact HO6.out, HB6.out⟩
          case measure => simp [intOf]; omega
        · have q1 : ¬ (q : Int) < (SS.length : Int) := by omega
          have hqe : q = SS.length := by omega
          have hte : SS.take q = SS := by rw [hqe, List.take_length]
          rw [hte] at hBR hc5 hT7 ⊢
          clear hqe hte
          have hal : (TT k ++ SS).length ≤ 700000 := by rw [List.length_append]; omega
          have kE := (Below.refl _ wr).alloc (Nat.le_refl _) (.cells #[.int .u8 10] 5)
          have hBR2 := Lib.hid (hBR.below kE)
          have hBl2 := Lib.hid (hBl.alloc hBl.size (.cells #[.int .u8 10] 5))
          have hbs : W2.heap.size ≤ (wr.alloc (.cells #[.int .u8 10] 5)).heap.size := Nat.le_trans hBl.size kE.size
          generalize TT k ++ SS = acc at *
          clear hBR hT7 kE hBl
          go_wp2_with (at_builtin; refine wpList_app_byte _ rfl _ _ rfl W2.heap.size (.slice A7 acc.length c7) acc rfl hBR2.out wr.heap.size 10 rfl (by simp) (by omega) hbs ?_; intro g cp w6 hO6 _ _ b6; refine stopHere ?_)
          unfold Stop
          have HO6 := Lib.hid hO6
          have HB6 := Lib.hid (hBl2.out.trans b6)
          clear hO6 b6
          go_wp2
          go_roundw
          case rel => exact ⟨k + 1, by go_num, by omega, by rw [HS3.out]; exact HO6.out, HB6.out⟩
          case measure => simp [intOf]; omega
    · have hk2 : k = rs.length + 1 := by omega
      have y1 : ¬ (k : Int) ≤ (rs.length : Int) := by omega
      have hfk : cfgP (TT k) = .ok m (ordL rs) := by rw [hk2]; exact hfin.out
      have C1 := cparse_any At (TT k).length ct (TT k) wr (NX.out _ HB.out) HF.out.2 HF.out.1.1 HF.out.1.2
      rw [hfk] at C1
      dsimp only at C1
      rw [ordL_length] at C1
      have HP0 := Lib.hid p0
      have HP1 := Lib.hid p1
      have hRo := Lib.hid (RX.out _ HB.out)
      have hNr := Lib.hid (NX.out _ HB.out)
      have Bz := Lib.hid (kbq B1.out HB.out)
      clear hk2 hfk hTc HBR HF hfin hlen hsucc HODD
      go_wp2_with (go_at_call 17; (with_reducible refine C1.mono ?_); rintro r w4 ⟨⟨A4, rfl, hR4⟩, k4⟩; refine stopHere ?_)
      unfold Stop
      have kA := (Below.refl _ w4).alloc (Nat.le_refl _) (.cells #[.int .i64 m, .slice A4 rs.length rs.length] 28)
      have kB := (Below.refl _ (w4.alloc (.cells #[.int .i64 m, .slice A4 rs.length rs.length] 28))).alloc (Nat.le_refl _) (.cells #[.int .i64 0, .int .i64 0] 44)
      have kC := kbq kA kB
      have k5 := kbq k4 kC
      have q0 : ((w4.alloc (.cells #[.int .i64 m, .slice A4 rs.length rs.length] 28)).alloc (.cells #[.int .i64 0, .int .i64 0] 44)).cell? ⟨w4.heap.size, 0, none⟩ = some (.int .i64 m) := by simp
      have q1 : ((w4.alloc (.cells #[.int .i64 m, .slice A4 rs.length rs.length] 28)).alloc (.cells #[.int .i64 0, .int .i64 0] 44)).cell? ⟨w4.heap.size, 1, none⟩ = some (.slice A4 rs.length rs.length) := by simp
      replace p0 := celln k5 HP0.out
      replace p1 := celln k5 HP1.out
      have hRq := hR4.below kC
      have hRp := hRo.out.below k5
      have hN5 := hNr.out.below k5
      have B5 := kbq Bz.out k5
      clear kA kB kC k5 k4 C1 hR4
      go_upto_region 25 with fail
      generalize hW : (w4.alloc (.cells #[.int .i64 m, .slice A4 rs.length rs.length] 28)).alloc (.cells #[.int .i64 0, .int .i64 0] 44) = W at *
      clear hW
      have C1 := Lib.hid (fun W' (g : Below W.heap.size W W') => known_any W' (hN5.below g))
      have C2 := Lib.hid (fun W' (g : Below W.heap.size W W') => order_any m A1 rs.length c1 rs W' (hRp.below g) (by omega))
      have C3 := Lib.hid (fun W' (g : Below W.heap.size W W') A' (hA : Rls W' A' rs.length (ordL rs)) => same12_any m A4 A' rs.length rs.length rs.length (ordL rs) W' (hRq.below g) hA (by omega))
      have HB5 := Lib.hid B5
      have kW : Below W.heap.size W W := Below.refl _ _
      clear hN5 hRp hRq B5
      go_region_held3 (fun w' => Below W.heap.size W w' ∧ w'.cell? ⟨w1.heap.size, 0, none⟩ = some (.int .i64 m) ∧ w'.cell? ⟨w1.heap.size, 1, none⟩ = some (.slice A1 rs.length c1) ∧ w'.cell? ⟨w4.heap.size, 0, none⟩ = some (.int .i64 m) ∧ w'.cell? ⟨w4.heap.size, 1, none⟩ = some (.slice A4 rs.length rs.length))
        (first | with_reducible exact ⟨kW, p0, p1, q0, q1⟩ | with_reducible exact ⟨kW.drew, dcell p0, dcell p1, dcell q0, dcell q1⟩)
        (first
        | (go_at_call 10; ((with_reducible refine (C1.out _ (by first | exact kW | exact kW.drew)).mono ?_); rintro r w2 ⟨rfl, g⟩; (first | with_reducible (replace kW := kbq kW g; replace p0 := celln g p0; replace p1 := celln g p1; replace q0 := celln g q0; replace q1 := celln g q1) | with_reducible (replace kW := kbq kW.drew g; replace p0 := celln g (dcell p0); replace p1 := celln g (dcell p1); replace q0 := celln g (dcell q0); replace q1 := celln g (dcell q1))); clear g))
        | (go_at_call 19; ((with_reducible refine (C2.out _ (by first | exact kW | exact kW.drew)).mono ?_); rintro r w2 ⟨⟨BB, rfl, hRo9⟩, g⟩; (first | with_reducible (replace kW := kbq kW g; replace p0 := celln g p0; replace p1 := celln g p1; replace q0 := celln g q0; replace q1 := celln g q1) | with_reducible (replace kW := kbq kW.drew g; replace p0 := celln g (dcell p0); replace p1 := celln g (dcell p1); replace q0 := celln g (dcell q0); replace q1 := celln g (dcell q1))); clear g))
        | (go_at_call 18; ((with_reducible refine (C3.out _ (by first | exact kW | exact kW.drew) _ hRo9).mono ?_); rintro r w2 ⟨rfl, g⟩; clear hRo9; (first | with_reducible (replace kW := kbq kW g; replace p0 := celln g p0; replace p1 := celln g p1; replace q0 := celln g q0; replace q1 := celln g q1) | with_reducible (replace kW := kbq kW.drew g; replace p0 := celln g (dcell p0); replace p1 := celln g (dcell p1); replace q0 := celln g (dcell q0); replace q1 := celln g (dcell q1))); clear g)))
      all_goals
        rename_i hH
        go_wp2
        go_ret
        exact ⟨rfl, kbq HB5.out hH.1⟩
end Go.Proofs.YtckaiejbgnhgcaaGreatDoor.Wd
