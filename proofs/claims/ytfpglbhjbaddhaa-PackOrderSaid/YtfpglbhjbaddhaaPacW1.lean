/- PackSize answers true, for any numbers and choices; no conditions. -/
import Derived.Test.YtfpglbhjbaddhaaPacQ
namespace Go.Proofs.Ytfpglbhjbaddhaa.Wd
open Go Go.RowKit Go.Shelf Go.Deep Go.Lib
set_option linter.unusedVariables false
set_option maxRecDepth 100000

theorem Okx.enO {k : Nat} {xs : List En} (h : Okx k xs) (c : Nat) : enO c xs = enB c xs := by unfold Wd.enO; rw [if_pos ((rg_zero xs).2 h.up)]
theorem Okx.rg {k : Nat} {xs : List En} (h : Okx k xs) : rgE xs = 0 := (rg_zero xs).2 h.up
set_option maxHeartbeats 4000000 in
theorem size_walk (c : Int) (A : Option Addr) (n cap : Nat) (F : Option Addr) (m fcap : Nat) (w : World) (hc : 0 ≤ c ∧ c ≤ 18446744073709551615) (h : Rws w A n) (hn : n ≤ 9223372036854775807) (hF : U16s w F m) (hm : m ≤ 9223372036854775807) :
    Calls Try.prog 7 #[.int .u64 c, .slice A n cap, .slice F m fcap] w fun e w' => e = .returned (.bool true) ∧ Below w.heap.size w w' := by
  obtain ⟨c, rfl⟩ := Int.eq_ofNat_of_zero_le hc.1
  have CF := Lib.hid (few_any A n cap w h hn)
  have CS := Lib.hid (snap_any c A n cap F m fcap w (by omega) h hn hF hm)
  have CK := Lib.hid (fun W => known_any W)
  clear h hF
  go_enter Try.func7, Try.ntmps7
  go_upto_region 1 with fail
  go_wp2_with (go_at_call 9; refine CF.out.mono ?_; rintro e w1 ⟨⟨b, rfl⟩, rfl⟩; refine stopHere ?_)
  unfold Stop
  cases b with
  | false =>
    go_wp2_with (go_at_call 10; refine (CK.out _).mono ?_; rintro e w1 ⟨rfl, g1⟩)
    go_ret
    exact ⟨rfl, g1⟩
  | true =>
    go_upto_region 4 with (go_at_call 11; refine CS.out.mono ?_; rintro e w1 ⟨B, k, d, xs, rfl, o1, O, g1⟩)
    obtain ⟨_, _, e, hk1, hk2, hE, hB0, hBs⟩ := o1.form2
    simp only [Value.slice.injEq] at e
    obtain ⟨rfl, rfl, rfl⟩ := e
    have hw := O.out.wgt (Nat.le_refl _)
    have h9 := wgt_len xs
    have hu : ∀ x ∈ xs, x.2 < 18446744073709551616 := fun x hx => (O.out.sz x hx).2
    have hz : ∀ k, k < xs.length → (atE xs k).1.size ≤ 12 := fun k hk => atE_len hk O.out
    have HW := Lib.hid (fun (k : Nat) (hk : k < xs.length) => wgt_step xs k hk)
    have HT := Lib.hid (fun (k : Nat) => wgt_take xs k)
    have q0 := Lib.hid (Blk.new w1 (snC c B xs.length d) Tsn)
    have H0 := Lib.hid (hE.below ((Below.refl _ w1).alloc (Nat.le_refl _) (.cells (snC c B xs.length d) Tsn)))
    have k0 := Lib.hid (g1.alloc g1.size (.cells (snC c B xs.length d) Tsn))
    have hp : w1.heap.size = w1.heap.size := rfl
    clear o1 g1 hE
    generalize w1.alloc (.cells (snC c B xs.length d) Tsn) = W at *
    have x0 := q0.out.cell 0
    have x1 := q0.out.cell 1
    simp at x0 x1
    have CE := Lib.hid (encode_any c B xs.length d xs W (by omega) H0.out (by omega) hu)
    rw [O.out.rg, O.out.enO c] at CE
    have CZ := Lib.hid (fun (W' : World) (g : Below W.heap.size W W') => psize_any c B xs.length d xs W' (H0.out.below g) (by omega))
    have hlen : (enB c xs).length = 16 + wgt xs := enB_len c xs
    have hmg : (enB c xs).take 4 = mg := by have := (enB_parts c xs []).1; rwa [List.append_nil] at this
    generalize enB c xs = eb at *
    obtain ⟨Z, hZ⟩ : ∃ Z, Z = 16 + wgt xs := ⟨_, rfl⟩
    rw [← hZ] at CZ hlen
    have hzb : Z ≤ 226 := by omega
    have hz16 : 16 ≤ Z := by omega
    have HZ := Lib.hid hZ
    clear hu O CF CS hZ
    go_wp2_with fail
    go_loopw [8, 9] (fun s8 s9 wr => ∃ j t : Nat, s8 = .int .i64 (t : Int) ∧ s9 = .int .i64 (j : Int) ∧ j ≤ xs.length ∧ Hid (t = 16 + wgt (xs.take j)) ∧ wr = W) (fun _ s9 _ => xs.length - (intOf s9).toNat)
    case atStart => exact ⟨0, 16, rfl, rfl, by omega, Lib.hid rfl, rfl⟩
    case round =>
      obtain ⟨j, t, rfl, rfl, hj, E, rfl⟩ := hrel
      by_cases hlt : j < xs.length
      · obtain ⟨bv, ov, rfl, hbv, hcv⟩ := H0.out.2 (by omega)
        obtain ⟨e0, e1⟩ := hcv j hlt
        have hks := hz j hlt
        have ht : t ≤ 226 := by have := HT.out j; have := E.out; omega
        have HWj := Lib.hid (HW.out j hlt)
        obtain ⟨ky, hky⟩ : ∃ ky, ky = (atE xs j).1 := ⟨_, rfl⟩
        rw [← hky] at e0 hks HWj
        clear hcv hky hz CE CZ HW HT e1
        go_wp2
        go_roundw
        case rel => exact ⟨j + 1, t + (9 + ky.size), by go_num, by go_num, by omega, Lib.hid (by rw [HWj.out, E.out]; omega), by first | rfl | trivial⟩
        case measure => simp [intOf]; omega
      · obtain rfl : j = xs.length := by omega
        have e : t = Z := by have := E.out; rw [List.take_of_length_le (Nat.le_refl _)] at this; rw [this, HZ.out]
        subst e
        clear hz HW HT E HZ
        go_upto_region 10 with (go_at_call 16; refine CE.out.mono ?_; rintro e w2 ⟨v2, rfl, o2, g2⟩; obtain ⟨A2, c2, rfl, ⟨hc1, hc2⟩, T2, _, _⟩ := o2.form2)
        have T4 := Lib.hid (T2.front (i := 4) (by omega))
        rw [hmg] at T4
        have hf := bslice_front A2 eb.length c2 4 (by omega) hc2
        rw [show ((4 : Nat) : Int) = 4 from rfl] at hf
        rw [hlen] at hf hc1
        replace x0 := celln g2 x0
        replace x1 := celln g2 x1
        have K2 := Lib.hid g2
        have he : (([84, 76, 82, 49] : List UInt8) == [84, 76, 82, 49]) = true := rfl
        have hz16' : (16 : Int) ≤ (t : Int) := by omega
        clear g2 o2 T2 CE
        go_wp2_with (first
          | (go_at_call 10; refine (CK.out _).mono ?_; rintro e w3 ⟨rfl, g3⟩; replace x0 := celln g3 x0; replace x1 := celln g3 x1)
          | (go_at_call 19; refine (CZ.out _ (kbq K2.out g3)).mono ?_; rintro e w4 ⟨rfl, g4⟩; have cv := all_str (T4.out.below (kbq g3 g4)) c2))
        trace_state
        go_ret
        exact ⟨rfl, kbq (kbq (kbq k0.out K2.out) g3) g4⟩
end Go.Proofs.Ytfpglbhjbaddhaa.Wd
