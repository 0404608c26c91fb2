/- PackAsks answers true, for any snapshot, bytes and choices; no conditions. -/
import Derived.Test.YtbejkcdaefkibaaPacJ
import Derived.Test.YtbejkcdaefkibaaPacK
import Derived.Test.YtbejkcdaefkibaaPacT
import Derived.Test.YtbejkcdaefkibaaPacV
namespace Go.Proofs.Ytbejkcdaefkibaa.Wd
open Go Go.RowKit Go.Shelf Go.Deep Go.Lib
set_option linter.unusedVariables false
set_option maxRecDepth 100000
/-- How many bytes the first k keys have, and one each. -/
def smE (xs : List En) (k : Nat) : Nat := ((xs.take k).map (fun x => 1 + x.1.size)).sum
theorem smE_next {xs : List En} {k : Nat} (h : k < xs.length) : smE xs (k + 1) = smE xs k + (1 + (atE xs k).1.size) := by
  unfold smE
  rw [List.take_succ_eq_append_getElem h, List.map_append, List.sum_append]
  simp [atE, List.getD, h]
theorem smE_wgt : ∀ xs : List En, wgt xs ≤ 9 * (xs.map (fun x => 1 + x.1.size)).sum
  | [] => Nat.le_refl _
  | x :: r => by
    have := smE_wgt r
    rw [List.map_cons, List.sum_cons]
    unfold wgt
    omega
theorem smE_all {xs : List En} {k : Nat} (h : xs.length ≤ k) : wgt xs ≤ 9 * smE xs k := by
  unfold smE
  rw [List.take_of_length_le h]
  exact smE_wgt xs
set_option maxHeartbeats 16000000 in
theorem asks16_walk (c0 : Int) (A0 : Option Addr) (n0 cap0 : Nat) (xs : List En) (A1 : Option Addr) (n1 cap1 : Nat) (bs : List UInt8) (c : Int) (A : Option Addr) (n cap : Nat) (F : Option Addr) (m fcap : Nat) (a x ho : Int) (w : World)
    (hc0 : 0 ≤ c0 ∧ c0 ≤ 18446744073709551615) (h0 : Ens w A0 n0 xs) (hx0 : ∀ x ∈ xs, x.1.size ≤ 140737488351232 ∧ x.2 < 18446744073709551616) (hn0 : n0 ≤ 9223372036854775807)
    (h1 : Txt w A1 n1 bs) (hb1 : n1 ≤ cap1) (hb2 : cap1 ≤ 9223372036854775807) (hc : 0 ≤ c ∧ c ≤ 18446744073709551615) (h : Rws w A n) (hn : n ≤ 9223372036854775807) (hF : U16s w F m) (hm : m ≤ 9223372036854775807)
    (ha : 0 ≤ a ∧ a ≤ 65535) (hx : 0 ≤ x ∧ x ≤ 255) (hh : 0 ≤ ho ∧ ho ≤ 255) :
    Calls Try.prog 3 #[.agg #[.int .u64 c0, .slice A0 n0 cap0], .slice A1 n1 cap1, .int .u64 c, .slice A n cap, .slice F m fcap, .int .u16 a, .int .u8 x, .int .u8 ho] w fun e w' => e = .returned (.bool true) ∧ Below w.heap.size w w' := by
  obtain ⟨c0, rfl⟩ := Int.eq_ofNat_of_zero_le hc0.1
  obtain ⟨c, rfl⟩ := Int.eq_ofNat_of_zero_le hc.1
  obtain ⟨a, rfl⟩ := Int.eq_ofNat_of_zero_le ha.1
  obtain ⟨x, rfl⟩ := Int.eq_ofNat_of_zero_le hx.1
  obtain ⟨ho, rfl⟩ := Int.eq_ofNat_of_zero_le hh.1
  have hc064 : c0 < 18446744073709551616 := by omega
  have hc64 : c < 18446744073709551616 := by omega
  have ha16 : a < 65536 := by omega
  have hx8 : x < 256 := by omega
  have hh8 : ho < 256 := by omega
  have CK := Lib.hid (fun W => known_any W)
  have q0 := Lib.hid (Blk.new w (snC c0 A0 n0 cap0) Tsn)
  have k0 := Lib.hid ((Below.refl _ w).alloc (Nat.le_refl _) (.cells (snC c0 A0 n0 cap0) Tsn))
  have E0 := Lib.hid (h0.below k0.out)
  have T1 := Lib.hid (h1.below k0.out)
  have CF := Lib.hid (fun (W : World) (g : Below w.heap.size w W) => few_any A n cap W (Rws.below h g) hn)
  have CS := Lib.hid (fun (W : World) (g : Below w.heap.size w W) => enc_snap c A n cap F m fcap W hc64 (Rws.below h g) hn (U16s.below hF g) hm)
  have HX0 := Lib.hid hx0
  have HL := Lib.hid h0.1
  have HN := Lib.hid (fun (k : Nat) (hk : k < n0) => smE_next (xs := xs) (k := k) (by have := h0.1; omega))
  clear h0 h1 h hF hx0 hc0 hc ha hx hh
  go_enter Try.func3, Try.ntmps3
  go_upto_region 1 with fail
  generalize w.alloc (.cells (snC c0 A0 n0 cap0) Tsn) = W at *
  have x0 := q0.out.cell 0
  have x1 := q0.out.cell 1
  simp at x0 x1
  go_wp2_with fail
  go_loop [17, 18] (fun s3 s4 => ∃ (k tt : Nat), s3 = .int .i64 (tt : Int) ∧ s4 = .int .i64 (k : Int) ∧ k ≤ n0 ∧ tt ≤ 9223372036854775807 ∧ Hid (tt = n1 + smE xs k)) (fun _ s4 => n0 - (intOf s4).toNat)
  case atStart => exact ⟨0, n1, rfl, rfl, by omega, by omega, Lib.hid (by unfold smE; simp)⟩
  case round =>
    obtain ⟨k, tt, rfl, rfl, hk, htt, E⟩ := hrel
    have ends : Hid (1000 < tt → True) := Lib.hid (fun _ => trivial)
    by_cases hlt : k < n0
    · have d1 : decide ((k : Int) < (n0 : Int)) = true := decide_eq_true (by omega)
      by_cases hx : tt ≤ 1000
      · have d2 : decide ((tt : Int) ≤ 1000) = true := decide_eq_true (by omega)
        obtain ⟨b, off, rfl, hb, hcl⟩ := E0.out.2 (by omega)
        obtain ⟨y0, y1⟩ := hcl k hlt
        have hmem : atE xs k ∈ xs := atE_mem (by rw [HL.out]; exact hlt)
        have hkx := (HX0.out _ hmem).1
        have HWk := Lib.hid (HN.out k hlt)
        clear hcl hmem
        generalize atE xs k = e at *
        obtain ⟨s, u⟩ := e
        dsimp only at y0 y1 hkx HWk
        go_wp2
        go_round
        case rel => exact ⟨k + 1, tt + (1 + s.size), by go_num, by go_num, by omega, by omega, Lib.hid (by rw [HWk.out, E.out]; omega)⟩
        case measure => simp [intOf]; omega
      · have d2 : decide ((tt : Int) ≤ 1000) = false := decide_eq_false (by omega)
        have d3 : decide ((1000 : Int) < (tt : Int)) = true := decide_eq_true (by omega)
        go_wp2_with (go_at_call 5; refine (CK.out _).mono ?_; rintro e w1 ⟨rfl, g1⟩)
        go_ret
        exact ⟨rfl, kbq k0.out g1⟩
    · have d1 : decide ((k : Int) < (n0 : Int)) = false := decide_eq_false (by omega)
      obtain rfl : k = n0 := by omega
      by_cases hx : tt ≤ 1000
      · have d3 : decide ((1000 : Int) < (tt : Int)) = false := decide_eq_false (by omega)
        have hw9 : wgt xs ≤ 9000 := by have := smE_all (xs := xs) (k := k) (by rw [HL.out]; exact Nat.le_refl _); have := E.out; omega
        have hn1 : n1 ≤ 1000 := by have := E.out; omega
        have HX1 : Hid (∀ x ∈ xs, x.2 < 18446744073709551616) := Lib.hid (fun x hx => (HX0.out x hx).2)
        clear E HN HX0 HL hlt hk ends
        go_wp2_with (first
          | (go_at_call 4; refine (CF.out _ k0.out).mono ?_; rintro e w1 ⟨⟨bb, rfl⟩, rfl⟩; refine stopHere ?_))
        unfold Stop
        cases bb with
        | false =>
          go_wp2_with (go_at_call 5; refine (CK.out _).mono ?_; rintro e w1 ⟨rfl, g1⟩)
          go_ret
          exact ⟨rfl, kbq k0.out g1⟩
        | true =>
          go_wp2_with (go_at_call 5; refine (CK.out _).mono ?_; rintro e w1 ⟨rfl, g1⟩; refine stopHere ?_)
          unfold Stop
          have q1 := Lib.hid (q0.out.below g1)
          have k1 := Lib.hid (kbq k0.out g1)
          have E1 := Lib.hid (E0.out.below g1)
          have T1' := Lib.hid (T1.out.below g1)
          have CS1 := Lib.hid (CS.out _ k1.out)
          clear x0 x1 q0 k0 E0 T1 g1 CS CF
          go_upto_region 9 with (go_at_call 6; refine CS1.out.mono ?_; rintro e w2 ⟨B, d, ys, rfl, hE, O, g2, _, _, _, _⟩)
          have g3 : Below w2.heap.size w2 (w2.alloc (.cells (snC c B ys.length d) Tsn)) := (Below.refl _ w2).alloc (Nat.le_refl _) _
          have q3 := Lib.hid (Blk.new w2 (snC c B ys.length d) Tsn)
          have q2 := Lib.hid ((q1.out.below g2).below g3)
          have k2 := Lib.hid (kbq (kbq k1.out g2) g3)
          have E2 := Lib.hid ((E1.out.below g2).below g3)
          have T2 := Lib.hid ((T1'.out.below g2).below g3)
          have F2 := Lib.hid (hE.below g3)
          clear hE g2 g3 q1 k1 E1 T1' CS1
          generalize w2.alloc (.cells (snC c B ys.length d) Tsn) = V at *
          have hup := (rg_zero ys).2 O.out.1.up
          have heo : enO c ys = enB c ys := by unfold enO; rw [if_pos hup]
          have hw := O.out.2.1
          have CE := Lib.hid (rencode_any c B ys.length d ys V hc64 F2.out (by omega) O.out.2.2)
          rw [hup, heo] at CE
          have hLe := enB_len c ys
          obtain ⟨Z, hZ⟩ : ∃ Z, Z = 16 + wgt ys := ⟨_, rfl⟩
          rw [← hZ] at hLe
          have hz226 : Z ≤ 226 := by omega
          generalize enB c ys = eb at *
          have x0 := q2.out.cell 0
          have x1 := q2.out.cell 1
          have y0 := q3.out.cell 0
          have y1 := q3.out.cell 1
          simp at x0 x1 y0 y1
          have O' := Lib.hid O.out.2.2
          have HW2 := Lib.hid hw
          clear hZ heo hup hw O
          go_upto_region 10 with (go_at_call 7; refine CE.out.mono ?_; rintro e w4 ⟨v4, rfl, o4, g4⟩; obtain ⟨A4, c4, rfl, hc41, T4, hc40, _⟩ := o4.form2)
          rw [hLe] at T4 hc41
          have hc42 := hc41.2
          have hc41' := hc41.1
          have q5 := Lib.hid (q2.out.below g4)
          have q6 := Lib.hid (q3.out.below g4)
          have C1 := Lib.hid (fun (W' : World) (g : Below w4.heap.size w4 W') => encodes_any c0 A0 k cap0 xs W' hc064 (E2.out.below (kbq g4 g)) (by omega) HX1.out)
          have C2 := Lib.hid (fun (W' : World) (g : Below w4.heap.size w4 W') => encodes_any c B ys.length d ys W' hc64 (F2.out.below (kbq g4 g)) (by have := HW2.out; omega) O'.out)
          have C3 := Lib.hid (fun (W' : World) (g : Below w4.heap.size w4 W') => decodes_any A1 n1 cap1 bs W' (T2.out.below (kbq g4 g)) hb1 hb2 (by omega))
          have C4 := Lib.hid (fun (W' : World) (g : Below w4.heap.size w4 W') => decodes_any A4 Z c4 eb W' (T4.below g) hc41' hc42 (by omega))
          have CT := Lib.hid (fun (W' : World) (g : Below w4.heap.size w4 W') => bent_any A4 Z c4 eb a x ho W' (T4.below g) hc41' hc42 hc40 (by omega) ha16 hx8 hh8)
          have K4 := Lib.hid (kbq k2.out g4)
          have kW := Below.refl w4.heap.size w4
          have x0 := q5.out.cell 0
          have x1 := q5.out.cell 1
          have y0 := q6.out.cell 0
          have y1 := q6.out.cell 1
          simp at x0 x1 y0 y1
          clear o4 T4 g4 CE q2 q3 k2 E2 T2 F2 O' HW2 HX1 q5 q6 hc40 hc41
          go_wp2_with (first
            | (go_at_call 8; (first
              | (with_reducible refine (C1.out _ kW).mono ?_; rintro e w5 ⟨rfl, g⟩; replace y0 := celln g y0; replace y1 := celln g y1; replace kW := kbq kW g; clear g C1)
              | (with_reducible refine (C2.out _ kW).mono ?_; rintro e w6 ⟨rfl, g⟩; replace kW := kbq kW g; clear g C2)))
            | (go_at_call 9; (first
              | (with_reducible refine (C3.out _ kW).mono ?_; rintro e w7 ⟨rfl, g⟩; replace kW := kbq kW g; clear g C3)
              | (with_reducible refine (C4.out _ kW).mono ?_; rintro e w8 ⟨rfl, g⟩; replace kW := kbq kW g; clear g C4)))
            | (go_at_call 10; with_reducible refine (CT.out _ kW).mono ?_; rintro e w9 ⟨A9, n9, c9, rfl, h91, h92, S9, _, g⟩; replace kW := kbq kW g; clear g; refine stopHere ?_))
          unfold Stop
          obtain ⟨h93, l9, T9⟩ := S9.out
          have C9 := Lib.hid (decodes_any A9 n9 c9 l9 _ T9 h91 h92 (by omega))
          clear T9 S9
          go_wp2_with (first
            | (go_at_call 9; with_reducible refine C9.out.mono ?_; rintro e w10 ⟨rfl, g⟩; replace kW := kbq kW g; clear g)
            | (go_at_call 10; with_reducible refine (CT.out _ kW).mono ?_; rintro e w11 ⟨A11, n11, c11, rfl, h111, h112, S11, h110, g⟩; replace kW := kbq kW g; clear g; refine stopHere ?_))
          unfold Stop
          obtain ⟨h113, l11, T11⟩ := S11.out
          have CB := Lib.hid (bent_any A11 n11 c11 l11 (a / 2) ho x _ T11 h111 h112 h110 (by omega) (by omega) hh8 hx8)
          have hdv : (a : Int).tdiv 2 = ((a / 2 : Nat) : Int) := rfl
          have hw16 : IntKind.u16.wrap ((a / 2 : Nat) : Int) = ((a / 2 : Nat) : Int) := by rw [IntKind.wrap_u16]; omega
          clear T11 S11 C9 CT
          generalize a / 2 = a2 at *
          go_wp2_with (go_at_call 10; with_reducible refine CB.out.mono ?_; rintro e w12 ⟨A12, n12, c12, rfl, h121, h122, S12, h120, g⟩; replace kW := kbq kW g; clear g; refine stopHere ?_)
          unfold Stop
          obtain ⟨h123, l12, T12⟩ := S12.out
          have C9 := Lib.hid (decodes_any A12 n12 c12 l12 _ T12 h121 h122 (by omega))
          clear T12 S12 CB hdv
          go_wp2_with (go_at_call 9; with_reducible refine C9.out.mono ?_; rintro e w13 ⟨rfl, g⟩; replace kW := kbq kW g; clear g)
          go_ret
          exact ⟨rfl, kbq K4.out kW⟩
      · have d3 : decide ((1000 : Int) < (tt : Int)) = true := decide_eq_true (by omega)
        go_wp2_with (go_at_call 5; refine (CK.out _).mono ?_; rintro e w1 ⟨rfl, g1⟩)
        go_ret
        exact ⟨rfl, kbq k0.out g1⟩
end Go.Proofs.Ytbejkcdaefkibaa.Wd
