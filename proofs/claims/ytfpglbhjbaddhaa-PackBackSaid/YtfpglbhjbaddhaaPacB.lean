/- tollerlaw16.again, Bent; tollerref16.Same; no conditions but those that each names. -/
import Derived.Test.YtfpglbhjbaddhaaPacX
import Derived.Laws.StructEq
import Derived.Deep.RegionLaw
namespace Go.Proofs.Ytfpglbhjbaddhaa.Wd
open Go Go.RowKit Go.Shelf Go.Deep Go.Lib
set_option linter.unusedVariables false
set_option maxRecDepth 100000

set_option maxHeartbeats 2000000 in
theorem rentry_any (A : Option Addr) (n cap : Nat) (A' : Option Addr) (cap' : Nat) (xs : List En) (w : World) (h : Ens w A n xs) (h' : Ens w A' n xs) (hn : n ≤ 1000000) :
    Calls Try.prog 31 #[.slice A n cap, .slice A' n cap'] w fun e w' => e = .returned (.bool true) ∧ Drew w w' := by
  have H := Lib.hid h
  have H' := Lib.hid h'
  clear h h'
  go_enter Try.func31, Try.ntmps31
  go_wp2
  go_loopw [5] (fun s5 wr => ∃ k : Nat, s5 = .int .i64 (k : Int) ∧ k ≤ n ∧ Drew w wr) (fun s5 _ => n - (intOf s5).toNat)
  case atStart => exact ⟨0, rfl, by omega, Drew.refl _⟩
  case round =>
    obtain ⟨k, rfl, hk, hd⟩ := hrel
    by_cases hlt : k < n
    · obtain ⟨b, off, rfl, _, hc⟩ := (H.out.below hd.kept.2).2 (by omega)
      obtain ⟨b', off', rfl, _, hc'⟩ := (H'.out.below hd.kept.2).2 (by omega)
      obtain ⟨c0, c1⟩ := hc k hlt
      obtain ⟨d0, d1⟩ := hc' k hlt
      clear hc hc'
      generalize atE xs k = x at *
      obtain ⟨s, u⟩ := x
      dsimp only at c0 c1 d0 d1
      go_wp2_with fail
      go_quiet (fail)
      go_wp2
      go_roundw
      case rel => exact ⟨k + 1, by go_num, by omega, hd.trans ⟨_, rfl⟩⟩
      case measure => simp [intOf]; omega
    · go_wp2
      go_ret
      exact ⟨rfl, hd⟩
set_option maxHeartbeats 2000000 in
theorem rsame_any (c : Nat) (A : Option Addr) (n cap : Nat) (A' : Option Addr) (cap' : Nat) (xs : List En) (w : World) (h : Ens w A n xs) (h' : Ens w A' n xs) (hn : n ≤ 1000000) :
    Calls Try.prog 18 #[snV c A n cap, snV c A' n cap'] w fun e w' => e = .returned (.bool true) ∧ Below w.heap.size w w' := by
  have q0 := Lib.hid ((Blk.new w (snC c A n cap) Tsn).alloc (.cells (snC c A' n cap') Tsn))
  have q1 := Blk.new (w.alloc (.cells (snC c A n cap) Tsn)) (snC c A' n cap') Tsn
  rw [show (w.alloc (.cells (snC c A n cap) Tsn)).heap.size = w.heap.size + 1 by simp] at q1
  replace q1 := Lib.hid q1
  have k0 := Lib.hid (((Below.refl _ w).alloc (Nat.le_refl _) (.cells (snC c A n cap) Tsn)).alloc (by simp) (.cells (snC c A' n cap') Tsn))
  have H := Lib.hid (h.below k0.out)
  have H' := Lib.hid (h'.below k0.out)
  clear h h'
  go_enter Try.func18, Try.ntmps18
  go_upto_region 1 with fail
  generalize (w.alloc (.cells (snC c A n cap) Tsn)).alloc (.cells (snC c A' n cap') Tsn) = W at *
  have x0 := q0.out.cell 0
  have x1 := q0.out.cell 1
  have y0 := q1.out.cell 0
  have y1 := q1.out.cell 1
  simp at x0 x1 y0 y1
  go_wp2_with (go_at_call 31; refine (rentry_any A n cap A' cap' xs _ H.out H'.out hn).mono ?_; rintro e w1 ⟨rfl, hd⟩)
  go_ret
  exact ⟨rfl, kbq k0.out hd.kept.2⟩
set_option maxHeartbeats 4000000 in
theorem again_any (A : Option Addr) (n cap : Nat) (l : List UInt8) (w : World) (hT : Txt w A n l) (hc1 : n ≤ cap) (hc2 : cap ≤ 9223372036854775807) (hn : n ≤ 2000) :
    Calls Try.prog 20 #[.slice A n cap] w fun e w' => e = .returned (.bool true) ∧ Below w.heap.size w w' := by
  have hl : l.length = n := hT.1
  generalize hX : dcA l = v
  obtain ⟨e, c, xs⟩ := v
  have CD := Lib.hid (decode_all A n cap l w hT hc1 hc2 (by omega) e c xs hX)
  have HT := Lib.hid hT
  clear hT
  by_cases h0 : e = 0
  · subst h0
    obtain ⟨hc, hlen, hup, hu, hen⟩ := dc_some hX
    have hw : 16 + wgt xs = n := by rw [← enB_len c xs, hen, hl]
    have hrg : rgE xs = 0 := (rg_zero xs).2 hup
    have heo : enO c xs = l := by unfold enO; rw [if_pos hrg, hen]
    clear hX
    go_enter Try.func20, Try.ntmps20
    go_upto_region 2 with (go_at_call 17; refine CD.out.mono ?_; rintro e w1 ⟨v1, rfl, o1, g1⟩; obtain ⟨A1, c1, rfl, _, _, hE, _⟩ := o1.form)
    have q1 := Lib.hid (Blk.new w1 (snC c A1 xs.length c1) Tsn)
    have E1 := Lib.hid (hE.below ((Below.refl _ w1).alloc (Nat.le_refl _) (.cells (snC c A1 xs.length c1) Tsn)))
    have G1 := Lib.hid (g1.alloc g1.size (.cells (snC c A1 xs.length c1) Tsn))
    clear hE g1 o1 CD
    generalize w1.alloc (.cells (snC c A1 xs.length c1) Tsn) = W at *
    have x0 := q1.out.cell 0
    have x1 := q1.out.cell 1
    simp at x0 x1
    have CE := Lib.hid (encode_any c A1 xs.length c1 xs W hc E1.out (by omega) hu)
    rw [hrg, heo] at CE
    have T1 := Lib.hid (HT.out.below G1.out)
    go_upto_region 5 with (go_at_call 16; refine CE.out.mono ?_; rintro e w2 ⟨v2, rfl, o2, g2⟩; obtain ⟨A2, c2, rfl, _, T2, _, _⟩ := o2.form2)
    have cv1 := all_str (T1.out.below g2) cap
    have cv2 := all_str T2 c2
    have he : (l == l) = true := beq_self_eq_true _
    have G2 := Lib.hid (kbq G1.out g2)
    rw [hl] at cv2
    clear o2 T2 g2 CE x0 x1 heo hen
    go_wp2
    go_ret
    exact ⟨rfl, G2.out⟩
  · have hbad := dc_bad l (by rw [hX]; exact h0)
    rw [hX] at hbad
    simp only [Prod.mk.injEq] at hbad
    obtain ⟨rfl, rfl⟩ := hbad
    have hne : ((e : Int) != 0) = true := by simp; omega
    clear hX
    go_enter Try.func20, Try.ntmps20
    go_upto_region 2 with (go_at_call 17; refine CD.out.mono ?_; rintro e w1 ⟨v1, rfl, o1, g1⟩; obtain ⟨A1, c1, rfl, _, _, hE, _⟩ := o1.form)
    have q1 := Lib.hid (Blk.new w1 (snC 0 A1 0 c1) Tsn)
    have G1 := Lib.hid (g1.alloc g1.size (.cells (snC 0 A1 0 c1) Tsn))
    clear hE g1 o1 CD
    generalize w1.alloc (.cells #[.int .u64 0, .slice A1 0 c1] Tsn) = W at *
    have x0 := q1.out.cell 0
    have x1 := q1.out.cell 1
    simp at x0 x1
    go_wp2
    go_ret
    exact ⟨rfl, G1.out⟩
end Go.Proofs.Ytfpglbhjbaddhaa.Wd
