/- What (*node).branch does; no conditions but those that each names. -/
import Derived.Test.YtekpmepcacbloaaPreB
namespace Go.Proofs.Ytekpmepcacbloaa.Wd
open Go Go.RowKit Go.Shelf
set_option linter.unusedVariables false
set_option maxRecDepth 100000

theorem cm_pos {a b : ByteArray} {c : UInt8} (h : (lb a).head? = some c) (g : (lb b).head? = some c) : 1 ≤ cm (lb a) (lb b) := by
  cases e : lb a with
  | nil => rw [e] at h; cases h
  | cons x l =>
    cases e2 : lb b with
    | nil => rw [e2] at g; cases g
    | cons y m =>
      rw [e] at h; rw [e2] at g
      simp at h g
      rw [cm_cons, if_pos (h.trans g.symm)]; omega
/-- How a step is parted where it goes on unlike. -/
theorem part_step {r s : ByteArray} {c : UInt8} (h0 : (lb r).head? = some c) (h1 : (lb s).head? = some c) (hp : ¬ lb s <+: lb r) :
    ∃ k, cm (lb r) (lb s) = k ∧ 1 ≤ k ∧ k < s.size ∧ k ≤ r.size ∧ lb s = lb (r.extract 0 k) ++ lb (cutB s k) ∧ (r.extract 0 k).size = k ∧ hdB (r.extract 0 k) = c ∧ 0 < (cutB s k).size ∧ lb r = lb (r.extract 0 k) ++ lb (cutB r k) ∧ (k < r.size → hdB (cutB s k) ≠ hdB (cutB r k)) := by
  have e1 := cm_le_left (lb r) (lb s)
  have e2 := cm_le_right (lb r) (lb s)
  have e3 : cm (lb r) (lb s) ≠ (lb s).length := fun e => hp ((cm_has _ _).1 e)
  have e4 := cm_take (lb r) (lb s)
  have e5 := cm_unlike (lb r) (lb s)
  have e6 := cm_pos h0 h1
  generalize cm (lb r) (lb s) = k at *
  rw [lb_len] at e1 e2 e3
  have hx : (r.extract 0 k).size = k := front_size r k e1
  refine ⟨k, rfl, e6, by omega, e1, ?_, hx, ?_, by rw [cut_size]; omega, ?_, fun hk => ?_⟩
  · rw [lb_front, lb_cut, e4, List.take_append_drop]
  · refine (hd_of ?_).1
    rw [lb_front]
    cases e : lb r with
    | nil => rw [e] at h0; cases h0
    | cons a l =>
      rw [e] at h0
      match k, e6 with
      | k + 1, _ => simpa using h0
  · rw [lb_front, lb_cut, List.take_append_drop]
  · have g1 : k < (lb r).length := by rw [lb_len]; exact hk
    have g2 : k < (lb s).length := by rw [lb_len]; omega
    have := e5 g1 g2
    have a1 : hdB (cutB r k) = (lb r)[k] := by
      refine (hd_of ?_).1
      rw [lb_cut, List.head?_drop, List.getElem?_eq_getElem g1]
    have a2 : hdB (cutB s k) = (lb s)[k] := by
      refine (hd_of ?_).1
      rw [lb_cut, List.head?_drop, List.getElem?_eq_getElem g2]
    rw [a1, a2]
    exact fun e => this e.symm

theorem sl_front (s : ByteArray) (k : Nat) (hk : k ≤ s.size) (V : World) : (Instr.slice 9 (.string s) none (some (.int .i64 (k : Int))) none).run Try.prog V = .ok (.string (s.extract 0 k)) V := by
  rw [run_slice_string_to_if V 9 s .i64 _ Try.underlying9, if_pos ⟨by omega, by omega⟩]; rfl
theorem sl_back (s : ByteArray) (k : Nat) (hk : k ≤ s.size) (V : World) : (Instr.slice 9 (.string s) (some (.int .i64 (k : Int))) none none).run Try.prog V = .ok (.string (cutB s k)) V := by
  rw [run_slice_string_from_if V 9 s .i64 _ Try.underlying9, if_pos ⟨by omega, by omega⟩]; rfl
abbrev lfN (p : List UInt8) (s : ByteArray) : Nd := ⟨p, s, none, [], none⟩
theorem Lies.free {w : World} {F : Nat → Option Nd} {t : Nat} {lo : Nat → Prop} (h : Lies w F lo) (ht : w.heap.size ≤ t) : F t = none := by
  cases e : F t with
  | none => rfl
  | some x => have := (h.under t x e).1; omega
theorem ok_leaf (p : List UInt8) (s : ByteArray) (h : s.size ≤ 281474976710656) : (lfN p s).step.size ≤ 281474976710656 ∧ Okr (rlOf (lfN p s)) := ⟨h, okr0⟩

/-- A node that is made. -/
theorem fresh {w : World} {F : Nat → Option Nd} {lo : Nat → Prop} (h : Lies w F lo) (hlo : Fr lo w.heap.size) (p : List UInt8) (s : ByteArray) (hs : s.size ≤ 281474976710656) :
    Lies (w.alloc (.cells #[.string s, .map none, .string ⟨#[]⟩, .int .u64 0, .int .u64 0, .int .u8 0, .bool false] 54)) (upd F w.heap.size (lfN p s)) lo ∧
    Below w.heap.size w (w.alloc (.cells #[.string s, .map none, .string ⟨#[]⟩, .int .u64 0, .int .u64 0, .int .u8 0, .bool false] 54)) ∧ (w.alloc (.cells #[.string s, .map none, .string ⟨#[]⟩, .int .u64 0, .int .u64 0, .int .u8 0, .bool false] 54)).heap.size = w.heap.size + 1 := by
  have g := (Below.refl _ w).alloc (Nat.le_refl _) (.cells #[.string s, .map none, .string ⟨#[]⟩, .int .u64 0, .int .u64 0, .int .u8 0, .bool false] 54)
  exact ⟨(h.below g).more (h.free (Nat.le_refl _)) (Blk.new w _ _) rfl rfl (hlo _ (Nat.le_refl _)) (ok_leaf p s hs), g, by simp⟩
/-- One node is put below another one. -/
theorem put_lies (n x : Nat) (lo : Nat → Prop) (nd xd : Nd) (F : Nat → Option Nd) (w : World) (h : Lies w F lo) (hn : F n = some nd) (hx : F x = some xd) (h0 : 0 < xd.step.size) (hne : x ≠ n) (hlo : Fr lo w.heap.size) :
    Calls Try.prog 29 #[.pointer (some ⟨n, 0, none⟩), .pointer (some ⟨x, 0, none⟩)] w fun e w' => e = .returned (.pointer (some ⟨x, 0, none⟩)) ∧
      ∃ m', Hid (Lies w' (upd F n { nd with mp := some m', dn := putD nd.dn (hdB xd.step) x }) lo) ∧ Tch lo w w' := by
  refine (put_any n x nd xd.step w (h.node n nd hn) (fun m hm => h.map n nd m hn hm) (h.bare n nd hn) (h.nc hx).c0 h0 hne).mono ?_
  rintro e w' ⟨rfl, m', h1, h2, h3, h4⟩
  refine ⟨rfl, m', Lib.hid (h.change hn h1 h2 rfl h3 h4 hlo ⟨(h.small n nd hn).1, (h.small n nd hn).2⟩), h4.mono (fun k _ hk => ?_)⟩
  rcases hk with rfl | hk
  · exact (h.low _ nd hn).1
  · exact (h.low n nd hn).2 k hk
/-- What a call has made of the nodes. -/
def Grew (w' : World) (F G : Nat → Option Nd) (R : Nat) (lo : Nat → Prop) (b : Nat) (p : List UInt8) : Prop := Lies w' G lo ∧ Wood G R ∧ Ext F G ∧ ∃ nd', G b = some nd' ∧ nd'.path = p
set_option maxHeartbeats 2000000 in
theorem branch_any (n : Nat) (lo : Nat → Prop) (R : Nat) (rest : ByteArray) (nd : Nd) (F : Nat → Option Nd) (w : World) (hL : Lies w F lo) (hW : Wood F R) (hn : F n = some nd) (h0 : 0 < rest.size) (hsz : rest.size ≤ 281474976710656) (hend : Way F (look nd.dn (hdB rest)) rest []) (hlo : Fr lo w.heap.size) :
    Calls Try.prog 26 #[.pointer (some ⟨n, 0, none⟩), .string rest] w fun e w' => ∃ G b, e = .returned (.pointer (some ⟨b, 0, none⟩)) ∧ Hid (Grew w' F G R lo b (nd.path ++ lb rest)) ∧ Tch lo w w' := by
  have c1 := (hL.nc hn).c1
  have hi : rest[0] = hdB rest := hd_at h0
  have Ld : Lies w.drew F lo := hL.below (Below.refl _ _).drew
  have HL := Lib.hid hL
  have LD := Lib.hid Ld
  have HN := Lib.hid hn
  have hnl : n < w.heap.size := (hL.under n nd hn).1
  have hft : F w.heap.size = none := hL.free (Nat.le_refl _)
  cases e : look nd.dn (hdB rest) with
  | none =>
    have k0 : (Instr.lookup 52 (.map nd.mp) (.int .u8 ((hdB rest).toNat : Int)) true).run Try.prog w = .ok (.tuple #[.pointer none, .bool false]) w := by have := hL.down hn (hdB rest) true; rw [e] at this; exact this
    have k1 : (Instr.lookup 52 (.map nd.mp) (.int .u8 ((hdB rest).toNat : Int)) true).run Try.prog w.drew = .ok (.tuple #[.pointer none, .bool false]) w.drew := by have := Ld.down hn (hdB rest) true; rw [e] at this; exact this
    have HE := Lib.hid e
    clear hL Ld hn e hend
    go_enter Try.func26, Try.ntmps26
    go_wp2
    go_region
    go_wp2_with fail
    obtain ⟨L1, g1, s1⟩ := fresh HL.out hlo (nd.path ++ lb rest) rest hsz
    have L1' := L1.below (Below.refl _ _).drew
    have g1' := Lib.hid (Tch.of (S := lo) g1.drew)
    have hnt : n ≠ w.heap.size := Nat.ne_of_lt hnl
    go_at_call 29
    refine (put_lies n w.heap.size lo nd (lfN (nd.path ++ lb rest) rest) _ _ L1' ((upd_other _ _ hnt).trans HN.out) (upd_same _ _ _) h0 (Ne.symm hnt) (hlo.up (by show w.heap.size ≤ (w.alloc _).heap.size; rw [s1]; omega))).mono ?_
    rintro e2 w2 ⟨rfl, m', L2, g2⟩
    clear L1 L1' k0 k1 c1 LD g1 s1
    go_wp2
    go_ret
    refine ⟨_, w.heap.size, rfl, Lib.hid ⟨L2.out, ?_, ?_, ?_⟩, g1'.out.trans g2⟩
    · rw [upd_comm _ _ _ (Ne.symm hnt)]
      exact hW.leaf HN.out hft HE.out h0
    · rw [upd_comm _ _ _ (Ne.symm hnt)]
      exact ext_leaf HN.out hft rfl rfl rfl
    · exact ⟨lfN (nd.path ++ lb rest) rest, by rw [upd_other _ _ (Ne.symm hnt)]; exact upd_same _ _ _, rfl⟩
  | some b =>
    rw [e] at hend
    obtain ⟨bd, hb, hpre⟩ : ∃ bd, F b = some bd ∧ ¬ lb bd.step <+: lb rest := by
      cases hend with
      | off h1 h2 => exact ⟨_, h1, h2⟩
    obtain ⟨hbp, hbh, hbl⟩ := hW.longer hn e hb
    obtain ⟨k, hk, hk1, hk2, hk3, hxy, hxs, hxh, hy0, hrr, hun⟩ := part_step (hd_some h0) hbh hpre
    have hbn : b ≠ n := fun g => by rw [g, hn] at hb; cases hb; omega
    have k0 : (Instr.lookup 52 (.map nd.mp) (.int .u8 ((hdB rest).toNat : Int)) true).run Try.prog w = .ok (.tuple #[.pointer (some ⟨b, 0, none⟩), .bool true]) w := by have := hL.down hn (hdB rest) true; rw [e] at this; exact this
    have k1 : (Instr.lookup 52 (.map nd.mp) (.int .u8 ((hdB rest).toNat : Int)) true).run Try.prog w.drew = .ok (.tuple #[.pointer (some ⟨b, 0, none⟩), .bool true]) w.drew := by have := Ld.down hn (hdB rest) true; rw [e] at this; exact this
    have d0 := (hL.nc hb).c0
    have hbs := (hL.small b bd hb).1
    have HE := Lib.hid e
    have HB := Lib.hid hb
    have C := Lib.hid (fun V => common_any rest bd.step V (by omega) (by omega))
    rw [hk] at C
    have HH := Lib.hid (And.intro hxy (And.intro hxh (And.intro hrr hun)))
    have HK := Lib.hid hk
    clear hL Ld hn e hend hpre hbp hbh hbl hb hxy hxh hrr hun hk
    go_enter Try.func26, Try.ntmps26
    go_wp2
    go_region
    go_wp2_with (go_at_call 27; refine (C.out _).mono ?_; rintro e1 w1 ⟨rfl, g1⟩; refine stopHere ?_)
    unfold Stop
    have q1 := sl_front rest k hk3
    have L1 := Lib.hid (LD.out.below g1)
    have b1 := Lib.hid ((Below.refl w.heap.size w).drew.trans g1)
    clear k0 k1 c1 d0 g1 LD C
    go_wp2_with fail
    obtain ⟨x, hxd⟩ : ∃ x, x = rest.extract 0 k := ⟨_, rfl⟩
    obtain ⟨y, hyd⟩ : ∃ y, y = cutB bd.step k := ⟨_, rfl⟩
    have hlo1 : Fr lo w1.heap.size := hlo.up b1.out.size
    obtain ⟨L2, g2, s2⟩ := fresh L1.out hlo1 (nd.path ++ lb x) x (by rw [hxd, hxs]; omega)
    have hft1 : F w1.heap.size = none := L1.out.free (Nat.le_refl _)
    have hnt : n ≠ w1.heap.size := fun g => by rw [g] at HN; rw [HN.out] at hft1; cases hft1
    have hbt : b ≠ w1.heap.size := fun g => by rw [g] at HB; rw [HB.out] at hft1; cases hft1
    have hx0 : 0 < x.size := by rw [hxd, hxs]; omega
    have HX := Lib.hid hxd
    rw [← hxd]
    go_at_call 29
    refine (put_lies n w1.heap.size lo nd (lfN (nd.path ++ lb x) x) _ _ L2 ((upd_other _ _ hnt).trans HN.out) (upd_same _ _ _) hx0 (Ne.symm hnt) (hlo1.up (by rw [s2]; omega))).mono ?_
    rintro e3 w3 ⟨rfl, m', L3, g3⟩
    have b3 := Lib.hid ((Tch.of (S := lo) b1.out).trans ((Tch.of g2).trans g3))
    have hb3 := Lib.hid (show (upd (upd F w1.heap.size (lfN (nd.path ++ lb x) x)) n { nd with mp := some m', dn := putD nd.dn (hdB x) w1.heap.size }) b = some bd by rw [upd_other _ _ hbn, upd_other _ _ hbt]; exact HB.out)
    have BK := Lib.hid (show Blk w3 b (cellsN bd) _ from L3.out.node b bd hb3.out)
    have d0 := (L3.out.nc hb3.out).c0
    have f0 := BK.out.fz 0
    have q2 := sl_back bd.step k (by omega)
    rw [← hyd] at q2
    have HY := Lib.hid hyd
    clear q1 L2 g2 g3 s2 b1 L1 hyd hxd
    go_wp2_with fail
    have BS := BK.out.set 0 (.string y)
    have L4 := L3.out.store (n' := { bd with step := y }) hb3.out rfl rfl BS (Tch.set w3 b 0 _ rfl) ⟨by show y.size ≤ _; rw [HY.out, cut_size]; omega, (L3.out.small b bd hb3.out).2⟩
    have hy0' : 0 < y.size := by rw [HY.out]; exact hy0
    have g4 : Tch lo w3 (w3.setCell ⟨b, 0, none⟩ (.string y)) := Tch.set w3 b 0 _ (L3.out.low b bd hb3.out).1
    go_at_call 29
    refine (put_lies w1.heap.size b lo (lfN (nd.path ++ lb x) x) { bd with step := y } _ _ L4 (by rw [upd_other _ _ (Ne.symm hbt), upd_other _ _ (Ne.symm hnt)]; exact upd_same _ _ _) (upd_same _ _ _) hy0' hbt (hlo.up (Nat.le_trans b3.out.size g4.size))).mono ?_
    rintro e5 w5 ⟨rfl, m2, L5, g5⟩
    have b5 := Lib.hid (b3.out.trans (g4.trans g5))
    -- what the wood is now
    have hxy' : lb bd.step = lb x ++ lb y := by rw [HX.out, HY.out]; exact HH.out.1
    have hxh' : hdB x = hdB rest := by rw [HX.out]; exact HH.out.2.1
    obtain ⟨G, hG⟩ : ∃ G, G = upd (upd (upd F n { nd with mp := some m', dn := putD nd.dn (hdB x) w1.heap.size }) b { bd with step := y }) w1.heap.size ⟨nd.path ++ lb x, x, some m2, [(hdB y, b)], none⟩ := ⟨_, rfl⟩
    have L6 : Lies w5 G lo := by
      have := L5.out
      rw [upd_four _ _ _ _ _ hnt hbt] at this
      rw [hG]; exact this
    have W6 : Wood G R := by rw [hG]; exact hW.split HN.out hft1 HB.out (by rw [hxh']; exact HE.out) hxy' hx0 hy0'
    have E6 : Ext F G := by rw [hG]; exact ext_split HN.out HB.out hbn hft1 rfl rfl rfl rfl rfl
    have N6 : G w1.heap.size = some ⟨nd.path ++ lb x, x, some m2, [(hdB y, b)], none⟩ := by rw [hG]; exact upd_same _ _ _
    have ALL := Lib.hid (And.intro L6 (And.intro W6 (And.intro E6 N6)))
    clear hG L6 W6 E6 N6 L4 L5 g4 g5 d0 f0 q2 BS BK L3 hb3 b3 hxy' hxh'
    by_cases hkr : k = rest.size
    · have hc : ((k : Int) == (rest.size : Int)) = true := by rw [hkr]; simp
      have hxr : lb x = lb rest := by rw [HX.out, lb_front, hkr, ← lb_len, List.take_length]
      have HXR := Lib.hid hxr
      clear hkr hxr
      go_wp2
      go_ret
      exact ⟨G, w1.heap.size, rfl, Lib.hid ⟨ALL.out.1, ALL.out.2.1, ALL.out.2.2.1, _, ALL.out.2.2.2, by rw [HXR.out]⟩, b5.out⟩
    · have hc : ((k : Int) == (rest.size : Int)) = false := by rw [beq_eq_false_iff_ne]; omega
      have q3 := sl_back rest k hk3
      have hlo5 : Fr lo w5.heap.size := hlo.up b5.out.size
      obtain ⟨L7, g7, s7⟩ := fresh ALL.out.1 hlo5 ((nd.path ++ lb x) ++ lb (cutB rest k)) (cutB rest k) (by rw [cut_size]; omega)
      have hft5 : G w5.heap.size = none := ALL.out.1.free (Nat.le_refl _)
      have htt : w1.heap.size ≠ w5.heap.size := fun g => by rw [← g, ALL.out.2.2.2] at hft5; cases hft5
      have hz0 : 0 < (cutB rest k).size := by rw [cut_size]; omega
      have hun' : hdB y ≠ hdB (cutB rest k) := by rw [HY.out]; exact HH.out.2.2.2 (by omega)
      have hpath : (nd.path ++ lb x) ++ lb (cutB rest k) = nd.path ++ lb rest := by rw [List.append_assoc, HX.out, ← HH.out.2.2.1]
      have FR := Lib.hid (And.intro L7 (And.intro g7 (And.intro hun' hpath)))
      have S7 := Lib.hid s7
      clear hkr L7 g7 s7 hun' hpath
      go_wp2_with fail
      go_at_call 29
      refine (put_lies w1.heap.size w5.heap.size lo ⟨nd.path ++ lb x, x, some m2, [(hdB y, b)], none⟩ (lfN ((nd.path ++ lb x) ++ lb (cutB rest k)) (cutB rest k)) _ _ FR.out.1 ((upd_other _ _ htt).trans ALL.out.2.2.2) (upd_same _ _ _) hz0 (Ne.symm htt) (hlo5.up (by rw [S7.out]; omega))).mono ?_
      rintro e8 w8 ⟨rfl, m3, L8, g8⟩
      have g9 := Lib.hid (b5.out.trans ((Tch.of FR.out.2.1).trans g8))
      clear g8 q3 hc
      go_wp2
      go_ret
      refine ⟨_, w5.heap.size, rfl, Lib.hid ⟨L8.out, ?_, ?_, ?_⟩, g9.out⟩
      · rw [upd_comm _ _ _ (Ne.symm htt)]
        refine ALL.out.2.1.leaf ALL.out.2.2.2 hft5 ?_ hz0
        show look [(hdB y, b)] (hdB (cutB rest k)) = none
        simp [look, FR.out.2.2.1]
      · rw [upd_comm _ _ _ (Ne.symm htt)]
        exact ALL.out.2.2.1.trans (ext_leaf ALL.out.2.2.2 hft5 rfl rfl rfl)
      · exact ⟨_, (upd_other _ _ (Ne.symm htt)).trans (upd_same _ _ _), FR.out.2.2.2⟩
end Go.Proofs.Ytekpmepcacbloaa.Wd
