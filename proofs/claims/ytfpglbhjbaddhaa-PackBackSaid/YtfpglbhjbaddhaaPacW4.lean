/- PackBack answers true, for any numbers, choices and bytes; no conditions. -/
import Derived.Test.YtfpglbhjbaddhaaPacT
import Derived.Test.YtfpglbhjbaddhaaPacW2
namespace Go.Proofs.Ytfpglbhjbaddhaa.Wd
open Go Go.RowKit Go.Shelf Go.Deep Go.Lib
set_option linter.unusedVariables false
set_option maxRecDepth 100000

set_option maxHeartbeats 4000000 in
theorem back_walk (c : Int) (A : Option Addr) (n cap : Nat) (F : Option Addr) (m fcap : Nat) (M : Option Addr) (mn mcap : Nat) (ms : List UInt8) (at_ x h_ : Int) (w : World) (hc : 0 ≤ c ∧ c ≤ 18446744073709551615) (h : Rws w A n) (hn : n ≤ 9223372036854775807) (hF : U16s w F m) (hm : m ≤ 9223372036854775807)
    (hM : Txt w M mn ms) (hmc : mn ≤ mcap) (hmx : mcap ≤ 9223372036854775807) (hat : 0 ≤ at_ ∧ at_ ≤ 65535) (hx : 0 ≤ x ∧ x ≤ 255) (hh : 0 ≤ h_ ∧ h_ ≤ 255) :
    Calls Try.prog 4 #[.int .u64 c, .slice A n cap, .slice F m fcap, .slice M mn mcap, .int .u16 at_, .int .u8 x, .int .u8 h_] w fun e w' => e = .returned (.bool true) ∧ Below w.heap.size w w' := by
  obtain ⟨c, rfl⟩ := Int.eq_ofNat_of_zero_le hc.1
  obtain ⟨a, rfl⟩ := Int.eq_ofNat_of_zero_le hat.1
  obtain ⟨x, rfl⟩ := Int.eq_ofNat_of_zero_le hx.1
  obtain ⟨ho, rfl⟩ := Int.eq_ofNat_of_zero_le hh.1
  have hc64 : c < 18446744073709551616 := by omega
  have CF := Lib.hid (few_any A n cap w h hn)
  have CS := Lib.hid (enc_snap c A n cap F m fcap w hc64 h hn hF hm)
  have CK := Lib.hid (fun W => known_any W)
  have HM := Lib.hid hM
  clear h hF hM
  go_enter Try.func4, Try.ntmps4
  go_upto_region 1 with fail
  go_wp2_with (go_at_call 9; refine CF.out.mono ?_; rintro e w1 ⟨⟨b, rfl⟩, rfl⟩; refine stopHere ?_)
  unfold Stop
  by_cases hgo : b = true ∧ mn ≤ 300
  rotate_left
  · cases b with
    | false =>
      go_wp2_with (go_at_call 10; refine (CK.out _).mono ?_; rintro e w1 ⟨rfl, g1⟩)
      go_ret
      exact ⟨rfl, g1⟩
    | true =>
      have hbig : decide ((300 : Int) < (mn : Int)) = true := decide_eq_true (by have : ¬ mn ≤ 300 := fun e => hgo ⟨rfl, e⟩; omega)
      go_wp2_with (go_at_call 10; refine (CK.out _).mono ?_; rintro e w1 ⟨rfl, g1⟩)
      go_ret
      exact ⟨rfl, g1⟩
  · obtain ⟨rfl, hsm⟩ := hgo
    have hbig : decide ((300 : Int) < (mn : Int)) = false := decide_eq_false (by omega)
    go_upto_region 4 with (go_at_call 11; refine CS.out.mono ?_; rintro e w1 ⟨B, d, xs, rfl, hE, O, g1, _, _, _, _⟩)
    have q1 := Lib.hid (Blk.new w1 (snC c B xs.length d) Tsn)
    have E1 := Lib.hid (hE.below ((Below.refl _ w1).alloc (Nat.le_refl _) (.cells (snC c B xs.length d) Tsn)))
    have G1 := Lib.hid (g1.alloc g1.size (.cells (snC c B xs.length d) Tsn))
    clear hE g1 CS CF
    generalize w1.alloc (.cells (snC c B xs.length d) Tsn) = W at *
    have x0 := q1.out.cell 0
    have x1 := q1.out.cell 1
    simp at x0 x1
    have CA := Lib.hid (enc_of c B d xs W hc64 E1.out O.out)
    have hw := O.out.2.1
    have h9 := wgt_len xs
    have hD := dc_back c xs hc64 (by omega) O.out.1.up O.out.2.2
    obtain ⟨Z, hZ⟩ : ∃ Z, Z = 16 + wgt xs := ⟨_, rfl⟩
    have hLe := enB_len c xs
    rw [← hZ] at CA hLe
    have hz226 : Z ≤ 226 := by omega
    have HZ := Lib.hid hZ
    clear hZ
    go_upto_region 5 with (go_at_call 16; refine CA.out.mono ?_; rintro e w2 ⟨A2, c2, rfl, h21, h22, T2, h20, h2s, g2⟩)
    have CD := Lib.hid (decode_all A2 Z c2 (enB c xs) w2 T2 h21 h22 (by omega) 0 c xs hD)
    have T2' := Lib.hid T2
    have q2 := Lib.hid (q1.out.below g2)
    have E2 := Lib.hid (E1.out.below g2)
    have G2 := Lib.hid (kbq G1.out g2)
    generalize enB c xs = eb at *
    clear T2 x0 x1 q1 E1 g2 G1 CA hD
    go_upto_region 6 with (go_at_call 17; refine CD.out.mono ?_; rintro e w3 ⟨v3, rfl, o3, g3⟩; obtain ⟨A3, c3, rfl, _, _, hE3, _⟩ := o3.form)
    have k4 := Lib.hid ((Below.refl _ w3).alloc (Nat.le_refl _) (.cells (snC c A3 xs.length c3) Tsn))
    have q3 := Lib.hid ((q2.out.below g3).below k4.out)
    have q4 := Lib.hid (Blk.new w3 (snC c A3 xs.length c3) Tsn)
    have E3 := Lib.hid ((E2.out.below g3).below k4.out)
    have E4 := Lib.hid (hE3.below k4.out)
    have G4 := Lib.hid (kbq (kbq G2.out g3) k4.out)
    have T4 := Lib.hid ((T2'.out.below g3).below k4.out)
    have M4 := Lib.hid (HM.out.below G4.out)
    clear o3 hE3 g3 k4 q2 E2 T2' G2 CD HM
    generalize w3.alloc (.cells (snC c A3 xs.length c3) Tsn) = W4 at *
    have x0 := q3.out.cell 0
    have x1 := q3.out.cell 1
    have y0 := q4.out.cell 0
    have y1 := q4.out.cell 1
    simp at x0 x1 y0 y1
    have CM := Lib.hid (fun (W' : World) (g : Below W4.heap.size W4 W') => rsame_any c B xs.length d A3 c3 xs W' (E3.out.below g) (E4.out.below g) (by omega))
    have CZ := Lib.hid (fun (W' : World) (g : Below W4.heap.size W4 W') => psize_any c B xs.length d xs W' (E3.out.below g) (by omega))
    rw [← HZ.out] at CZ
    have CB := Lib.hid (fun (W' : World) (g : Below W4.heap.size W4 W') => again_any M mn mcap ms W' (M4.out.below g) hmc hmx (by omega))
    have CT := Lib.hid (fun (W' : World) (g : Below W4.heap.size W4 W') => bent_any A2 Z c2 eb a x ho W' (T4.out.below g) h21 h22 h20 (by omega) (by omega) (by omega) (by omega))
    have kW := Below.refl W4.heap.size W4
    clear E3 E4 T4 M4 q3 q4 h20 h2s O
    go_wp2_with (first
      | (go_at_call 10; refine (CK.out _).mono ?_; rintro e w5 ⟨rfl, g⟩; replace x0 := celln g x0; replace x1 := celln g x1; replace y0 := celln g y0; replace y1 := celln g y1; replace kW := kbq kW g; clear g)
      | (go_at_call 18; refine (CM.out _ kW).mono ?_; rintro e w6 ⟨rfl, g⟩; replace x0 := celln g x0; replace x1 := celln g x1; replace kW := kbq kW g; clear g)
      | (go_at_call 19; refine (CZ.out _ kW).mono ?_; rintro e w7 ⟨rfl, g⟩; replace kW := kbq kW g; clear g)
      | (go_at_call 15; refine (CT.out _ kW).mono ?_; rintro e w9 ⟨A9, n9, c9, rfl, h91, h92, S9, _, g⟩; replace kW := kbq kW g; clear g; refine stopHere ?_)
      | (go_at_call 20; refine (CB.out _ kW).mono ?_; rintro e w8 ⟨rfl, g⟩; replace kW := kbq kW g; clear g))
    unfold Stop
    obtain ⟨h93, l9, T9⟩ := S9.out
    have CB9 := Lib.hid (again_any A9 n9 c9 l9 _ T9 h91 h92 (by omega))
    clear T9 S9
    go_wp2_with (go_at_call 20; refine CB9.out.mono ?_; rintro e w10 ⟨rfl, g⟩; replace kW := kbq kW g; clear g)
    go_ret
    exact ⟨rfl, kbq G4.out kW⟩
end Go.Proofs.Ytfpglbhjbaddhaa.Wd
