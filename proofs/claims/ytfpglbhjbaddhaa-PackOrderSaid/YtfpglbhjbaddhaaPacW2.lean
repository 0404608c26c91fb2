/- PackShort answers true, for any numbers, choices and bytes; no conditions. -/
import Derived.Test.YtfpglbhjbaddhaaPacX
namespace Go.Proofs.Ytfpglbhjbaddhaa.Wd
open Go Go.RowKit Go.Shelf Go.Deep Go.Lib
set_option linter.unusedVariables false
set_option maxRecDepth 100000

/-- What Snap and then Encode tell. -/
theorem enc_snap (c : Nat) (A : Option Addr) (n cap : Nat) (F : Option Addr) (m fcap : Nat) (w : World) (hc : c < 18446744073709551616) (h : Rws w A n) (hn : n ≤ 9223372036854775807) (hF : U16s w F m) (hm : m ≤ 9223372036854775807) :
    Calls Try.prog 11 #[.int .u64 (c : Int), .slice A n cap, .slice F m fcap] w fun e w' => ∃ B d xs, e = .returned (snV c B xs.length d) ∧ Ens w' B xs.length xs ∧ Hid (Okx 10 xs ∧ wgt xs ≤ 210 ∧ (∀ x ∈ xs, x.2 < 18446744073709551616)) ∧ Below w.heap.size w w' ∧ xs.length ≤ d ∧ d ≤ 9223372036854775807 ∧ (B = none → d = 0) ∧ (∀ ad, B = some ad → ad.spot = none) :=
  (snap_any c A n cap F m fcap w hc h hn hF hm).mono (by
    rintro e w' ⟨B, k, d, xs, rfl, o1, O, g1⟩
    obtain ⟨_, _, e, hk1, hk2, hE, hB0, hBs⟩ := o1.form2
    simp only [Value.slice.injEq] at e
    obtain ⟨rfl, rfl, rfl⟩ := e
    exact ⟨B, d, xs, rfl, hE, Lib.hid ⟨O.out, O.out.wgt (Nat.le_refl _), fun x hx => (O.out.sz x hx).2⟩, g1, hk1, hk2, hB0, hBs⟩)
theorem enc_of (c : Nat) (B : Option Addr) (d : Nat) (xs : List En) (w : World) (hc : c < 18446744073709551616) (hE : Ens w B xs.length xs) (O : Okx 10 xs ∧ wgt xs ≤ 210 ∧ (∀ x ∈ xs, x.2 < 18446744073709551616)) :
    Calls Try.prog 16 #[snV c B xs.length d] w fun e w' => ∃ A2 c2, e = .returned (.tuple #[.slice A2 (16 + wgt xs) c2, .int .u16 0]) ∧ 16 + wgt xs ≤ c2 ∧ c2 ≤ 9223372036854775807 ∧ Txt w' A2 (16 + wgt xs) (enB c xs) ∧ (A2 = none → c2 = 0) ∧ (∀ ad, A2 = some ad → ad.spot = none) ∧ Below w.heap.size w w' := by
  have h := encode_any c B xs.length d xs w hc hE (by omega) O.2.2
  rw [O.1.rg, O.1.enO c] at h
  refine h.mono ?_
  rintro e w' ⟨v, rfl, o, g⟩
  obtain ⟨A2, c2, rfl, ⟨h1, h2⟩, hT, h3, h4⟩ := o.form2
  rw [enB_len] at h1 hT ⊢
  exact ⟨A2, c2, rfl, h1, h2, hT, h3, (fun ad e => (h4 ad e).1), g⟩
theorem dc_more1 (c : Nat) (xs : List En) (r : List UInt8) (hc : c < 18446744073709551616) (O : Okx 10 xs ∧ wgt xs ≤ 210 ∧ (∀ x ∈ xs, x.2 < 18446744073709551616)) : dcA (enB c xs ++ r) = if r = [] then (0, c, xs) else (43, 0, []) :=
  dc_more c xs r hc (by have := O.1.len; omega) O.1.up O.2.2
theorem dc_front1 (c : Nat) (xs : List En) (m : Nat) (hc : c < 18446744073709551616) (O : Okx 10 xs ∧ wgt xs ≤ 210 ∧ (∀ x ∈ xs, x.2 < 18446744073709551616)) (hm : m < 16 + wgt xs) : dcA ((enB c xs).take m) = (if m < 4 then 40 else 41, 0, []) :=
  dc_front c xs m hc (by have := O.1.len; omega) O.1.up O.2.2 (by rw [enB_len]; exact hm)
set_option maxHeartbeats 4000000 in
theorem short_walk (c : Int) (A : Option Addr) (n cap : Nat) (F : Option Addr) (m fcap : Nat) (at_ : Int) (M : Option Addr) (mn mcap : Nat) (ms : List UInt8) (w : World) (hc : 0 ≤ c ∧ c ≤ 18446744073709551615) (h : Rws w A n) (hn : n ≤ 9223372036854775807) (hF : U16s w F m) (hm : m ≤ 9223372036854775807)
    (hat : 0 ≤ at_ ∧ at_ ≤ 65535) (hM : Txt w M mn ms) (hmc : mn ≤ mcap) (hmx : mcap ≤ 9223372036854775807) (hM0 : M = none → mcap = 0) :
    Calls Try.prog 5 #[.int .u64 c, .slice A n cap, .slice F m fcap, .int .u16 at_, .slice M mn mcap] w fun e w' => e = .returned (.bool true) ∧ Below w.heap.size w w' := by
  obtain ⟨c, rfl⟩ := Int.eq_ofNat_of_zero_le hc.1
  obtain ⟨a, rfl⟩ := Int.eq_ofNat_of_zero_le hat.1
  have hc64 : c < 18446744073709551616 := by omega
  have CF := Lib.hid (few_any A n cap w h hn)
  have CS := Lib.hid (enc_snap c A n cap F m fcap w hc64 h hn hF hm)
  have CK := Lib.hid (fun W => known_any W)
  have HM := Lib.hid hM
  have HM0 := Lib.hid hM0
  clear h hF hM hM0
  go_enter Try.func5, Try.ntmps5
  go_upto_region 1 with fail
  go_wp2_with (go_at_call 9; refine CF.out.mono ?_; rintro e w1 ⟨⟨b, rfl⟩, rfl⟩; refine stopHere ?_)
  unfold Stop
  by_cases hgo : b = true ∧ mn ≤ 100
  rotate_left
  · cases b with
    | false =>
      go_wp2_with (go_at_call 10; refine (CK.out _).mono ?_; rintro e w1 ⟨rfl, g1⟩)
      go_ret
      exact ⟨rfl, g1⟩
    | true =>
      have hbig : decide ((100 : Int) < (mn : Int)) = true := decide_eq_true (by have : ¬ mn ≤ 100 := fun e => hgo ⟨rfl, e⟩; omega)
      go_wp2_with (go_at_call 10; refine (CK.out _).mono ?_; rintro e w1 ⟨rfl, g1⟩)
      go_ret
      exact ⟨rfl, g1⟩
  · obtain ⟨rfl, hsm⟩ := hgo
    have hbig : decide ((100 : Int) < (mn : Int)) = false := decide_eq_false (by omega)
    go_upto_region 4 with (first
      | (go_at_call 11; refine CS.out.mono ?_; rintro e w1 ⟨B, d, xs, rfl, hE, O, g1, _, _, _, _⟩)
      | (go_at_call 16; refine (enc_of c B d xs _ hc64 hE O.out).mono ?_; rintro e w2 ⟨A2, c2, rfl, hc1, hc2, T2, h20, h2s, g2⟩))
    have GA := Lib.hid (kbq g1 g2)
    have T2' := Lib.hid T2
    have D1 := Lib.hid (fun I (hI : I < 16 + wgt xs) => dc_front1 c xs I hc64 O.out hI)
    have D2 := Lib.hid (dc_more1 c xs ms hc64 O.out)
    have hw := O.out.2.1
    have hLE := enB_len c xs
    obtain ⟨Z, hZ⟩ : ∃ Z, Z = 16 + wgt xs := ⟨_, rfl⟩
    rw [← hZ] at hc1 T2' D1 hLE
    have hz16 : 16 ≤ Z := by omega
    have hz226 : Z ≤ 226 := by omega
    generalize enB c xs = eb at *
    clear g1 g2 T2 hE O CS CF hw
    have hZ' := Lib.hid hZ
    rw [← hZ]
    clear hZ
    have hne : ((Z : Int) == 0) = false := beq_eq_false_iff_ne.2 (by omega)
    have hne0 : ¬ Z = 0 := by omega
    obtain ⟨I, hI⟩ : ∃ I, I = a % Z := ⟨_, rfl⟩
    have hti : (a : Int).tmod (Z : Int) = (I : Int) := by rw [hI]; exact (Int.ofNat_tmod a Z).symm
    have hti2 : (a : Int) % (Z : Int) = (I : Int) := by rw [hI]; exact (Int.natCast_emod a Z).symm
    have hIZ : I < Z := by rw [hI]; exact Nat.mod_lt _ (by omega)
    obtain ⟨E1, hE1⟩ : ∃ E1 : Nat, E1 = if I < 4 then 40 else 41 := ⟨_, rfl⟩
    have D1' := D1.out I hIZ
    rw [← hE1] at D1'
    have hf := bslice_front A2 Z c2 I (by omega) hc2
    have TF := Lib.hid (T2'.out.front (i := I) (by omega))
    have C1 := Lib.hid (decode_all A2 I c2 (eb.take I) w2 TF.out (by omega) hc2 (by rw [List.length_take]; omega) E1 0 [] D1')
    have HI := Lib.hid hI
    have HE1 := Lib.hid hE1
    clear hI hE1 D1 D1' TF
    go_upto_region 8 with (first
      | (go_at_call 17; refine C1.out.mono ?_; rintro e w3 ⟨v3, rfl, o3, g3⟩; obtain ⟨A3, c3, rfl, _, _, _, _⟩ := o3.form))
    have gB := Lib.hid (g3.alloc g3.size (.cells #[.int .u64 0, .slice A3 0 c3] Tsn))
    have TW := Lib.hid (T2'.out.below gB.out)
    have GC := Lib.hid (kbq GA.out gB.out)
    have MW := Lib.hid (HM.out.below GC.out)
    have hml : ms.length = mn := HM.out.1
    clear o3 g3 gB GA C1 T2' HM
    have HF0 := Lib.hid h20
    have HM1 := HM0.out
    go_upto_region 9 with fail
    generalize w3.alloc (.cells #[.int .u64 0, .slice A3 0 c3] Tsn) = W3 at *
    go_upto_region 10 with (refine wpList_app_txt _ rfl _ _ rfl W3.heap.size _ [] rfl (BRow.nil _ _) A2 Z c2 eb rfl TW.out HF0.out (by simp; omega) (Nat.le_refl _) ?_; intro v4 w4 o4 g4)
    have G4 := Lib.hid (Gr.row (BRow.nil W3 W3.heap.size) (Nat.le_refl _) g4)
    rw [List.nil_append] at o4
    have O4 := Lib.hid o4
    have MW4 := Lib.hid (MW.out.below (G4.out.below))
    have hb4 : W3.heap.size ≤ w4.heap.size := G4.out.size
    have hl4 : eb.length + mn ≤ 140737488355328 := by omega
    clear o4 g4
    obtain ⟨L, hL⟩ : ∃ L, L = (eb ++ ms).length := ⟨_, rfl⟩
    have hL2 : L = Z + mn := by rw [hL, List.length_append]; omega
    have HL := Lib.hid hL
    have hLb : L ≤ 400 := by omega
    clear hL2
    obtain ⟨E2, cc, ys, hD, hE2⟩ : ∃ E2 cc ys, dcA (eb ++ ms) = (E2, cc, ys) ∧ ((mn = 0 ∧ E2 = 0) ∨ (0 < mn ∧ E2 = 43)) := by
      rw [D2.out]
      by_cases e : ms = []
      · rw [if_pos e]; exact ⟨_, _, _, rfl, .inl ⟨by rw [← hml, e]; rfl, rfl⟩⟩
      · rw [if_neg e]; exact ⟨_, _, _, rfl, .inr ⟨by rw [← hml]; exact List.length_pos_iff.2 e, rfl⟩⟩
    clear hL D2
    have HE2 := Lib.hid hE2
    clear hE2
    go_upto_region 11 with (refine wpList_app_txt _ rfl _ _ rfl W3.heap.size _ eb rfl O4.out M mn mcap ms rfl MW4.out HM1 hl4 hb4 ?_; intro v5 w5 o5 g5; have G5 := Gr.row O4.out hb4 g5; obtain ⟨A5, c5, rfl, ⟨h51, h52⟩, T5, _, _⟩ := o5.form2; rw [← HL.out] at h51 T5 ⊢)
    have C2 := Lib.hid (decode_all A5 L c5 (eb ++ ms) w5 T5 h51 h52 (by rw [← HL.out]; omega) E2 cc ys hD)
    have GD := Lib.hid ((GC.out.trans (G4.out.below.mono GC.out.size)).trans (G5.below.mono GC.out.size))
    clear T5 o5 g5 G5 hD O4 MW4 TW MW G4
    go_upto_region 12 with (go_at_call 17; refine C2.out.mono ?_; rintro e w6 ⟨v6, rfl, o6, g6⟩; obtain ⟨A6, c6, rfl, _, _, _, _⟩ := o6.form)
    have GE := Lib.hid (kbq GD.out (g6.alloc g6.size (.cells #[.int .u64 (cc : Int), .slice A6 ys.length c6] Tsn)))
    clear o6 g6 C2 GD
    generalize w6.alloc (.cells #[.int .u64 (cc : Int), .slice A6 ys.length c6] Tsn) = W6 at *
    by_cases hI4 : I < 4
    · have hIi : (I : Int) < 4 := by omega
      have e1 : E1 = 40 := by rw [HE1.out, if_pos hI4]
      subst e1
      rcases HE2.out with ⟨rfl, rfl⟩ | ⟨hm0, rfl⟩
      · go_wp2_with (go_at_call 10; refine (CK.out _).mono ?_; rintro e w7 ⟨rfl, g7⟩)
        go_ret
        exact ⟨rfl, kbq GE.out g7⟩
      · have hmI : ((mn : Int) == 0) = false := beq_eq_false_iff_ne.2 (by omega)
        have hmN : ¬ mn = 0 := by omega
        go_wp2_with (go_at_call 10; refine (CK.out _).mono ?_; rintro e w7 ⟨rfl, g7⟩)
        go_ret
        exact ⟨rfl, kbq GE.out g7⟩
    · have hIi : ¬ (I : Int) < 4 := by omega
      have e1 : E1 = 41 := by rw [HE1.out, if_neg hI4]
      subst e1
      rcases HE2.out with ⟨rfl, rfl⟩ | ⟨hm0, rfl⟩
      · go_wp2_with (go_at_call 10; refine (CK.out _).mono ?_; rintro e w7 ⟨rfl, g7⟩)
        go_ret
        exact ⟨rfl, kbq GE.out g7⟩
      · have hmI : ((mn : Int) == 0) = false := beq_eq_false_iff_ne.2 (by omega)
        have hmN : ¬ mn = 0 := by omega
        go_wp2_with (go_at_call 10; refine (CK.out _).mono ?_; rintro e w7 ⟨rfl, g7⟩)
        go_ret
        exact ⟨rfl, kbq GE.out g7⟩
end Go.Proofs.Ytfpglbhjbaddhaa.Wd
