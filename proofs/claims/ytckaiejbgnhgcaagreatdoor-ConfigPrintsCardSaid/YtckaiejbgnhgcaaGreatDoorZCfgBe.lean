/- A text of rules with something another one (tollerlaw12.Bent): how long it is; no conditions but those that each names. -/
import Derived.Test.YtckaiejbgnhgcaaGreatDoorZCfgU2
import Derived.Test.YtckaiejbgnhgcaaGreatDoorZH
namespace Go.Proofs.YtckaiejbgnhgcaaGreatDoor.Wd
open Go Go.RowKit
set_option linter.unusedVariables false
set_option maxRecDepth 100000
theorem byte_of {b : Int} (h : 0 ≤ b ∧ b ≤ 255) : ∃ bt : UInt8, b = (bt.toNat : Int) := by
  refine ⟨UInt8.ofNat b.toNat, ?_⟩
  rw [UInt8.toNat_ofNat']
  have : b.toNat % 2 ^ 8 = b.toNat := Nat.mod_eq_of_lt (by omega)
  omega

set_option maxHeartbeats 4000000 in
theorem bent_any (m : Int) (A : Option Addr) (n cap : Nat) (rs : List Rl) (at_ b : Int) (s : ByteArray) (w : World) (h : Rls w A n rs) (hn : n ≤ 1000000000) (hm : -9223372036854775808 ≤ m ∧ m ≤ 9223372036854775807) (hat : 0 ≤ at_ ∧ at_ ≤ 65535) (hb : 0 ≤ b ∧ b ≤ 255) (hs : s.size ≤ 1000) :
    Calls Tryz.prog 13 #[.agg #[.int .i64 m, .slice A n cap], .int .u16 at_, .int .u8 b, .string s] w fun e w' => (∃ v bs, e = .returned v ∧ Ws.BRow w' w.heap.size v bs ∧ bs.length ≤ 648001) ∧ Below w.heap.size w w' := by
  have B0 := (Below.refl _ w).alloc (Nat.le_refl _) (.cells #[.int .i64 m, .slice A n cap] 28)
  have CP := rprint12_any m A n cap rs _ (h.below B0) hn hm
  have hlen : (if riE m rs = 0 then prTx m rs else []).length ≤ 647000 := by
    by_cases c : riE m rs = 0
    · rw [if_pos c]; exact prTx_len c h.2.1
    · rw [if_neg c]; simp
  generalize (if riE m rs = 0 then prTx m rs else []) = tx at CP hlen
  generalize riE m rs = R at CP
  obtain ⟨bt, rfl⟩ := byte_of hb
  have z1 : (bt.toNat : Int).tmod 3 = (bt.toNat : Int) % 3 := Int.tmod_eq_emod_of_nonneg (Int.natCast_nonneg _)
  have z2 : (bt.toNat : Int).tmod 5 = (bt.toNat : Int) % 5 := Int.tmod_eq_emod_of_nonneg (Int.natCast_nonneg _)
  have z3 : IntKind.u8.wrap ((bt.toNat : Int) % 3) = (bt.toNat : Int) % 3 := IntWalk.u8_in _ (by omega)
  have z4 : IntKind.u8.wrap ((bt.toNat : Int) % 5) = (bt.toNat : Int) % 5 := IntWalk.u8_in _ (by omega)
  clear h hn hm
  go_enter Tryz.func13, Tryz.ntmps13
  go_wp2_with (go_at_call 25; (with_reducible refine CP.mono ?_); rintro r w2 ⟨⟨v2, rfl, hB2⟩, k2⟩; refine stopHere ?_)
  unfold Stop
  obtain ⟨A2, c2, rfl, ⟨hc3, hc4⟩, hT, hA0, hAs⟩ := hB2.form2
  have B2 := Lib.hid (kbq B0 k2)
  obtain ⟨N, hN⟩ : ∃ N, tx.length = N := ⟨_, rfl⟩
  obtain ⟨I, hI⟩ : ∃ I : Nat, at_.toNat % (N + 1) = I := ⟨_, rfl⟩
  have hIN : I ≤ N := by have := Nat.mod_lt at_.toNat (show 0 < N + 1 by omega); omega
  rw [hN] at hT hc3 hlen ⊢
  have e1 : IntKind.i64.wrap at_ = at_ := IntWalk.i64_in _ (by omega)
  have e0 : IntKind.i64.wrap ((N : Int) + 1) = (N : Int) + 1 := IntWalk.i64_in _ (by omega)
  have e2 : at_.tmod ((N : Int) + 1) = (I : Int) := by
    rw [Int.tmod_eq_emod_of_nonneg hat.1, ← hI]
    have : at_ = (at_.toNat : Int) := by omega
    conv => lhs; rw [this]
    rfl
  have e3 : IntKind.i64.wrap (I : Int) = (I : Int) := IntWalk.i64_in _ (by omega)
  have n0 : ((N : Int) + 1 == 0) = false := by rw [← Bool.not_eq_true, beq_iff_eq]; omega
  have n1 : ¬ (N : Int) + 1 = 0 := by omega
  have hS1 := fun W => Ws.bslice_front A2 N c2 I (by omega) hc4 W
  have hT2 := Lib.hid hT
  have HA := Lib.hid (And.intro hA0 (fun ad e => (hAs ad e).1))
  have hTf := Lib.hid (hT.front hIN)
  have htl : Hid ((tx.take I).length = I) := Lib.hid (by rw [List.length_take]; omega)
  have hTX := Lib.hid hN
  clear CP B0 k2 hB2 hA0 hAs hT hI hat hb hN
  go_wp2_with (at_builtin; refine Ws.wpList_app_bytes _ rfl _ _ rfl w2.heap.size (.slice none 0 0) [] rfl (Ws.BRow.nil _ _) A2 I c2 (tx.take I) rfl hTf.out HA.out.1 HA.out.2 (by simp; omega) (Nat.le_refl _) ?_; intro v5 w5 hO5 gw5; rw [List.nil_append] at hO5; refine stopHere ?_)
  unfold Stop
  have k5 : Below w2.heap.size w2 w5 := (Below.refl _ w2).grown gw5 (Nat.le_refl _) (fun b hb => by cases hb)
  have hX5 : Hid (∃ bs, Ws.BRow w5 w2.heap.size v5 bs ∧ bs.length = I) := Lib.hid ⟨_, hO5, htl.out⟩
  clear hO5 gw5 hTf htl
  have hsz5 := k5.size
  go_upto_region 5 with fail
  obtain ⟨q, hq⟩ : ∃ q : Bool, (((bt.toNat : Int) % 3) == 0) = q := ⟨_, rfl⟩
  obtain ⟨q2, hq2⟩ : ∃ q : Bool, (((bt.toNat : Int) % 5) == 1) = q := ⟨_, rfl⟩
  go_upto_if 32 with fail
  clear hq
  go_cut [12] from 33 to 36 (fun v wy => ∃ bs, Ws.BRow wy w2.heap.size v bs ∧ bs.length ≤ I + 1 ∧ Below w2.heap.size w2 wy)
  case first =>
    obtain ⟨bs, hO, hl⟩ := hX5.out
    cases q
    case true =>
      have kE := (Below.refl _ w5).alloc (Nat.le_refl _) (.cells #[.int .u8 (bt.toNat : Int)] 5)
      have hO' := Lib.hid (hO.below kE)
      have hB' := Lib.hid (k5.alloc k5.size (.cells #[.int .u8 (bt.toNat : Int)] 5))
      have hone := Lib.hid (Ws.txt_one w5 bt)
      have hbz : w2.heap.size ≤ (w5.alloc (.cells #[.int .u8 (bt.toNat : Int)] 5)).heap.size := hB'.out.size
      clear hO kE
      go_wp2_with (at_builtin; refine Ws.wpList_app_bytes _ rfl _ _ rfl w2.heap.size v5 bs rfl hO'.out (some ⟨w5.heap.size, 0, none⟩) 1 1 [bt] rfl hone.out (fun h => nomatch h) (fun ad h => by cases h; rfl) (by omega) hbz ?_; intro v6 w6 hO6 gw6; refine stopHere ?_)
      unfold Stop
      have b6 := Lib.hid (hB'.out.grown gw6 hbz (fun b hb => (World.ownsRow.lt hO'.out b hb).1))
      have hO6 := Lib.hid hO6
      clear gw6
      go_wp2
      go_meet
      case rel => exact ⟨_, hO6.out, by rw [List.length_append]; simp; omega, b6.out⟩
    case false =>
      have hO' := Lib.hid hO
      clear hO
      go_wp2
      go_meet
      case rel => exact ⟨_, hO'.out, by omega, k5⟩
  case rest =>
  obtain ⟨bs6, hO6, hl6, k6⟩ := hcut
  clear hX5 k5 hsz5
  go_upto_region 8 with fail
  go_loopw [12, 13] (fun v i wr => ∃ (k : Nat) (bs : List UInt8), i = .int .i64 (k : Int) ∧ k ≤ s.size ∧ Ws.BRow wr w2.heap.size v bs ∧ bs.length ≤ I + 1 + k ∧ Below w2.heap.size w2 wr) (fun _ i _ => s.size - (intOf i).toNat)
  case atStart => exact ⟨0, bs6, rfl, Nat.zero_le _, hO6, by omega, k6⟩
  case round =>
    clear hO6 hl6 k6
    obtain ⟨k, bs, rfl, hk, hO, hl, hB⟩ := hrel
    have j0 : (0 : Int) ≤ (k : Int) := Int.natCast_nonneg _
    by_cases hks : k < s.size
    · have j1 : (k : Int) < (s.size : Int) := by omega
      have kE := (Below.refl _ wr).alloc (Nat.le_refl _) (.cells #[.int .u8 (s[k].toNat : Int)] 5)
      have hO' := Lib.hid (hO.below kE)
      have hB' := Lib.hid (hB.alloc hB.size (.cells #[.int .u8 (s[k].toNat : Int)] 5))
      have hone := Lib.hid (Ws.txt_one wr s[k])
      have hbz : w2.heap.size ≤ (wr.alloc (.cells #[.int .u8 (s[k].toNat : Int)] 5)).heap.size := hB'.out.size
      clear hO kE hB
      go_wp2_with (at_builtin; refine Ws.wpList_app_bytes _ rfl _ _ rfl w2.heap.size u12 bs rfl hO'.out (some ⟨wr.heap.size, 0, none⟩) 1 1 [s[k]] rfl hone.out (fun h => nomatch h) (fun ad h => by cases h; rfl) (by omega) hbz ?_; intro v6 w6 hO6 gw6; refine stopHere ?_)
      unfold Stop
      have b6 := Lib.hid (hB'.out.grown gw6 hbz (fun b hb => (World.ownsRow.lt hO'.out b hb).1))
      have hO6 := Lib.hid hO6
      clear gw6
      go_wp2
      go_roundw
      case rel => exact ⟨k + 1, _, by go_num, by omega, hO6.out, by rw [List.length_append]; simp; omega, b6.out⟩
      case measure => simp [intOf]; omega
    · have j1 : ¬ (k : Int) < (s.size : Int) := by omega
      have HO := Lib.hid hO
      clear hO
      obtain ⟨wa, rfl⟩ : ∃ wa, wa = wr := ⟨_, rfl⟩
      go_upto_region 11 with fail
      go_cut [57] from 49 to 57 (fun c wy => ∃ t : Bool, c = .bool t ∧ Hid (t = false ∨ I < N) ∧ wy = wa)
      case first =>
        by_cases hIN2 : I < N
        · have i1 : (I : Int) < (N : Int) := by omega
          cases q2
          · go_wp2
            go_meet
            case rel => exact ⟨false, rfl, Lib.hid (.inl rfl), rfl⟩
          · go_wp2
            go_meet
            case rel => exact ⟨true, rfl, Lib.hid (.inr hIN2), rfl⟩
        · have i1 : ¬ (I : Int) < (N : Int) := by omega
          cases q2
          · go_wp2
            go_meet
            case rel => exact ⟨false, rfl, Lib.hid (.inl rfl), rfl⟩
          · go_wp2
            go_meet
            case rel => exact ⟨false, rfl, Lib.hid (.inl rfl), rfl⟩
      case rest =>
      obtain ⟨t, rfl, ht, rfl⟩ := hcut
      go_upto_if 57 with fail
      go_cut [11] from 58 to 59 (fun c wy => ∃ J : Nat, c = .int .i64 (J : Int) ∧ J ≤ N ∧ I ≤ J ∧ wy = wc)
      case first =>
        cases t
        · go_wp2
          go_meet
          case rel => exact ⟨I, rfl, hIN, Nat.le_refl _, rfl⟩
        · have hJt : I + 1 ≤ N := by
            rcases ht.out with e | e
            · cases e
            · omega
          go_wp2
          go_meet
          case rel => exact ⟨I + 1, by go_num, hJt, by omega, rfl⟩
      case rest =>
      obtain ⟨J, rfl, hJ, hIJ, rfl⟩ := hcut
      obtain ⟨A7, hS2, hS3, hA7, hA8⟩ := Ws.bslice_back A2 N c2 J hJ hc3
      have hT9 := Lib.hid (hS3 _ _ (hT2.out.below hB))
      have hA9 : Hid ((A7 = none → c2 - J = 0) ∧ ∀ ad, A7 = some ad → ad.spot = none) := Lib.hid ⟨fun h => by rw [HA.out.1 (hA7 h)]; simp, hA8 HA.out.2⟩
      have HB9 := Lib.hid hB
      have hbz := hB.size
      clear hS3 hA7 hA8 hB
      go_wp2_with (at_builtin; refine Ws.wpList_app_bytes _ rfl _ _ rfl w2.heap.size u12 bs rfl HO.out A7 (N - J) (c2 - J) (tx.drop J) rfl hT9.out hA9.out.1 hA9.out.2 (by omega) hbz ?_; intro v6 w6 hO6 gw6; refine stopHere ?_)
      unfold Stop
      have b6 := HB9.out.grown gw6 hbz (fun b hb => (World.ownsRow.lt HO.out b hb).1)
      have hz : Hid (Ws.BRow w6 w.heap.size v6 (bs ++ tx.drop J) ∧ (bs ++ tx.drop J).length ≤ 648001 ∧ Below w.heap.size w w6) := Lib.hid ⟨own_low hO6 B2.out.size, by rw [List.length_append, List.length_drop, hTX.out]; omega, kbq B2.out b6⟩
      clear hO6 gw6 b6
      go_wp2
      go_ret
      exact ⟨⟨_, _, rfl, hz.out.1, hz.out.2.1⟩, hz.out.2.2⟩
end Go.Proofs.YtckaiejbgnhgcaaGreatDoor.Wd
