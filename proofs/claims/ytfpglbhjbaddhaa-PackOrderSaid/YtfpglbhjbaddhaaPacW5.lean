/- PackOrder answers true, for any numbers, choices and texts; no conditions. -/
import Derived.Test.YtfpglbhjbaddhaaPacU
namespace Go.Proofs.Ytfpglbhjbaddhaa.Wd
open Go Go.RowKit Go.Shelf Go.Deep Go.Lib
set_option linter.unusedVariables false
set_option maxRecDepth 100000

set_option maxHeartbeats 8000000 in
theorem order_walk (c : Int) (A : Option Addr) (n cap : Nat) (at_ : Int) (ky : ByteArray) (w : World) (hc : 0 ≤ c ∧ c ≤ 18446744073709551615) (h : Rws w A n) (hn : n ≤ 9223372036854775807) (hat : 0 ≤ at_ ∧ at_ ≤ 255) (hky : ky.size ≤ 9223372036854775807) :
    Calls Try.prog 6 #[.int .u64 c, .slice A n cap, .int .u8 at_, .string ky] w fun e w' => e = .returned (.bool true) ∧ Below w.heap.size w w' := by
  obtain ⟨c, rfl⟩ := Int.eq_ofNat_of_zero_le hc.1
  obtain ⟨a, rfl⟩ := Int.eq_ofNat_of_zero_le hat.1
  have hc64 : c < 18446744073709551616 := by omega
  have CF := Lib.hid (few_any A n cap w h hn)
  have CS := Lib.hid (enc_snap c A n cap none 0 0 w hc64 h hn (fun i hi => absurd hi (by omega)) (by decide))
  have CK := Lib.hid (fun W => known_any W)
  clear h
  go_enter Try.func6, Try.ntmps6
  go_upto_region 1 with fail
  go_wp2_with (go_at_call 9; refine CF.out.mono ?_; rintro e w1 ⟨⟨bb, rfl⟩, rfl⟩; refine stopHere ?_)
  unfold Stop
  by_cases hgo : bb = true ∧ ky.size ≤ 200
  rotate_left
  · cases bb with
    | false =>
      go_wp2_with (go_at_call 10; refine (CK.out _).mono ?_; rintro e w1 ⟨rfl, g1⟩)
      go_ret
      exact ⟨rfl, g1⟩
    | true =>
      have hbig : decide ((200 : Int) < (ky.size : Int)) = true := decide_eq_true (by have : ¬ ky.size ≤ 200 := fun e => hgo ⟨rfl, e⟩; omega)
      go_wp2_with (go_at_call 10; refine (CK.out _).mono ?_; rintro e w1 ⟨rfl, g1⟩)
      go_ret
      exact ⟨rfl, g1⟩
  · obtain ⟨rfl, hsm⟩ := hgo
    have hbig : decide ((200 : Int) < (ky.size : Int)) = false := decide_eq_false (by omega)
    go_upto_region 4 with (go_at_call 11; refine CS.out.mono ?_; rintro e w1 ⟨B, d, xs, rfl, hE, O, g1, hd1, hd2, hB0, hBs⟩)
    have q1 := Lib.hid (Blk.new w1 (snC c B xs.length d) Tsn)
    have E1 := Lib.hid (hE.below ((Below.refl _ w1).alloc (Nat.le_refl _) (.cells (snC c B xs.length d) Tsn)))
    have G1 := Lib.hid (g1.alloc g1.size (.cells (snC c B xs.length d) Tsn))
    have hP : w1.heap.size < (w1.alloc (.cells (snC c B xs.length d) Tsn)).heap.size := by simp
    clear hE g1 CS CF
    generalize hPP : w1.heap.size = P at *
    generalize w1.alloc (.cells (snC c B xs.length d) Tsn) = W at *
    have x0 := q1.out.cell 0
    have x1 := q1.out.cell 1
    simp at x0 x1
    by_cases h0 : xs.length = 0
    · have h0I : ((xs.length : Int) == 0) = true := by rw [h0]; rfl
      go_wp2_with (go_at_call 10; refine (CK.out _).mono ?_; rintro e w2 ⟨rfl, g2⟩)
      go_ret
      exact ⟨rfl, kbq G1.out g2⟩
    · have h0I : ((xs.length : Int) == 0) = false := beq_eq_false_iff_ne.2 (by omega)
      obtain ⟨L, hL⟩ : ∃ L, L = xs.length := ⟨_, rfl⟩
      obtain ⟨I, hI⟩ : ∃ I, I = a % L := ⟨_, rfl⟩
      have hti : (a : Int).tmod (L : Int) = (I : Int) := by rw [hI]; exact (Int.ofNat_tmod a L).symm
      have hti2 : (a : Int) % (L : Int) = (I : Int) := by rw [hI]; exact (Int.natCast_emod a L).symm
      have hIL : I < L := by rw [hI]; exact Nat.mod_lt _ (by omega)
      have hw := O.out.2.1
      have h9 := wgt_len xs
      have hL10 : L ≤ 24 := by omega
      have HR1 := Lib.hid (rg_twice O.out.1 I (by omega))
      have HR2 := Lib.hid (rg_bad xs I (by omega) ky (atE xs I).2)
      have HW1 : Hid (wgt (xs.take (I + 1) ++ xs.drop I) ≤ 1000000) := Lib.hid (by
        rw [wgt_app]; have h1 := wgt_take xs (I + 1)
        have h2 : wgt xs = wgt (xs.take I) + wgt (xs.drop I) := by rw [← wgt_app, List.take_append_drop]
        omega)
      have HW2 : Hid (wgt (xs.set I (ky ++ ⟨#[32]⟩, (atE xs I).2)) ≤ 1000000) := Lib.hid (by
        have := wgt_set xs I (ky ++ ⟨#[32]⟩, (atE xs I).2)
        dsimp only at this
        rw [show (ky ++ (⟨#[32]⟩ : ByteArray)).size = ky.size + 1 from by rw [ByteArray.size_append']; rfl] at this
        omega)
      have HU1 : Hid (∀ x ∈ xs.take (I + 1) ++ xs.drop I, x.2 < 18446744073709551616) := Lib.hid (fun x hx => by
        rcases List.mem_append.1 hx with hx | hx
        · exact O.out.2.2 x (List.mem_of_mem_take hx)
        · exact O.out.2.2 x (List.mem_of_mem_drop hx))
      have HU2 : Hid (∀ x ∈ xs.set I (ky ++ ⟨#[32]⟩, (atE xs I).2), x.2 < 18446744073709551616) := Lib.hid (fun x hx => by
        rcases List.mem_or_eq_of_mem_set hx with hx | rfl
        · exact O.out.2.2 x hx
        · exact O.out.2.2 (atE xs I) (atE_mem (xs := xs) (k := I) (by omega)))
      have HL := Lib.hid hL
      rw [← hL] at x1 h0I E1 q1 hd1
      clear hL hI
      obtain ⟨bA, hBA⟩ : ∃ ad, B = some ad := by
        obtain ⟨b, off, e, _⟩ := E1.out.2 (by omega)
        exact ⟨_, e⟩
      subst hBA
      have hsp := hBs _ rfl
      have hf := eslice_front (some bA) L d (I + 1) (by omega) hd2
      rw [show ((I + 1 : Nat) : Int) = (I : Int) + 1 from rfl] at hf
      obtain ⟨B2, hbk, hbE, hbn, hbs⟩ := eslice_rest (some bA) L d I (by omega) hd1 (fun e => by cases e)
      have hw1 : IntKind.i64.wrap ((I : Int) + 1) = (I : Int) + 1 := by rw [IntKind.wrap_i64]; omega
      go_upto_region 9 with fail
      have x0' := E1.out
      have qR := Lib.hid (Blk.new W #[.int .u64 (c : Int), .slice none 0 0] Tsn)
      have kR := Lib.hid ((Below.refl _ W).alloc (Nat.le_refl _) (.cells #[.int .u64 (c : Int), .slice none 0 0] Tsn))
      have hR : (W.alloc (.cells #[.int .u64 (c : Int), .slice none 0 0] Tsn)).heap.size = W.heap.size + 1 := by simp
      have HE2 := Lib.hid ((E1.out.below kR.out).front (k := I + 1) (by omega))
      have q9 := Lib.hid (q1.out.below kR.out)
      clear x0' x0 x1
      generalize hRR : W.heap.size = R at *
      generalize W.alloc (.cells #[.int .u64 (c : Int), .slice none 0 0] Tsn) = W2 at *
      have x1 := q9.out.cell 1
      have t1 := qR.out.cell 1
      simp at x1 t1
      go_cut [] from 42 to 50 (fun wy => ∃ A6 c6, Hid (Blk wy R #[.int .u64 (c : Int), .slice A6 (I + 1) c6] Tsn) ∧ Hid (OwE wy (R + 1) (.slice A6 (I + 1) c6) (xs.take (I + 1))) ∧ Hid (Below R W2 wy))
      case first =>
        have hlen : (xs.take (I + 1)).length = I + 1 := HE2.out.1
        have ED := HE2.out.below ((Below.refl _ W2).drew)
        have EF := HE2.out
        have hbs : R + 1 ≤ W2.heap.size := by omega
        have hbs' : R + 1 ≤ W2.drew.heap.size := hbs
        have hsz : ([] : List En).length + (I + 1) ≤ 1000000 := by simp; omega
        go_wp2_with fail
        go_region_law (refine step_app_en (by rfl) _ _ (by rfl) (R + 1) (.slice none 0 0) [] (by rfl) (OwE.nil _ _) bA (I + 1) d (xs.take (I + 1)) (by rfl) (by first | exact EF | exact ED) hsp hsz (by first | exact hbs | exact hbs') ?_; intro v6 w6 o6 g6; rw [List.nil_append] at o6; obtain ⟨A6, c6, rfl, _⟩ := o6.form2; rw [hlen] at o6 ⊢; have z6 : Blk w6 R #[.int .u64 (c : Int), .slice none 0 0] Tsn := ((by first | exact (g6.block R qR.out.lt (by simp [Value.ownBlock])).trans qR.out)); have y1 := z6.cell 1; have f1 := z6.fz 1; simp at y1; have b6 : Below R W2 w6 := (by first | exact (Below.refl R W2).grown g6 (by omega) (fun kk e => by cases e) | exact ((Below.refl R W2).drew).grown g6 (by have : W2.drew.heap.size = W2.heap.size := rfl; omega) (fun kk e => by cases e)); replace z6 := Lib.hid z6; replace o6 := Lib.hid o6; replace b6 := Lib.hid b6; clear g6)
        all_goals
          have hZ := Lib.hid (show Blk (w6.setCell ⟨R, 1, none⟩ (.slice A6 (I + 1) c6)) R #[.int .u64 (c : Int), .slice A6 (I + 1) c6] Tsn from z6.out.set 1 (.slice A6 (I + 1) c6))
          have hO := Lib.hid (own_tch o6.out (Tch.set (S := fun b => b = R) w6 R 1 (.slice A6 (I + 1) c6) rfl) (fun kk hk _ e => by omega))
          have hB := Lib.hid (b6.out.setCell (p := ⟨R, 1, none⟩) (Nat.le_refl _) (.slice A6 (I + 1) c6))
          clear z6 o6 b6
          go_wp2
          go_meet
          case rel => exact ⟨A6, c6, hZ, hO, hB⟩
      case rest =>
      obtain ⟨A6, c6, qR2, O6, B6⟩ := hcut
      have hwR : w.heap.size ≤ R := by rw [← hRR]; exact G1.out.size
      have KR := Lib.hid (show Below W.heap.size W _ from by rw [hRR]; exact kR.out.trans B6.out)
      have KW := Lib.hid (kbq G1.out KR.out)
      have q10 := Lib.hid (q9.out.under B6.out hP)
      have HB2 := Lib.hid (hbE _ xs (E1.out.below KR.out))
      have hbW := hbs (fun ad e => by cases e; exact hsp)
      obtain ⟨bB, rfl⟩ : ∃ ad, B2 = some ad := by
        cases B2 with
        | none => have := hbn rfl; omega
        | some ad => exact ⟨ad, rfl⟩
      have hsp2 := hbW _ rfl
      have hR7 : R + 1 ≤ wc.heap.size := qR2.out.lt
      clear x1 t1 hf HE2 qR kR hR hbE hbn hbs hbW q9 B6
      obtain ⟨N7, hN7⟩ : ∃ N, N = (xs.take (I + 1) ++ xs.drop I).length := ⟨_, rfl⟩
      have hN7L : N7 ≤ 50 := by rw [hN7, List.length_append, List.length_take, List.length_drop]; have := HL.out; omega
      have HN7 := Lib.hid hN7
      clear hN7
      go_upto_region 10 with fail
      have x1 := q10.out.cell 1
      have t1 := qR2.out.cell 1
      simp at x1 t1
      go_cut [] from 51 to 58 (fun wy => ∃ A7 c7, Hid (Blk wy R #[.int .u64 (c : Int), .slice A7 N7 c7] Tsn) ∧ Hid (OwE wy (R + 1) (.slice A7 N7 c7) (xs.take (I + 1) ++ xs.drop I)) ∧ Hid (Below R wc wy))
      case first =>
        have hlen : (xs.take (I + 1)).length = I + 1 := by rw [List.length_take]; have := HL.out; omega
        have OA := O6.out
        have OB : OwE wc.drew (R + 1) (.slice A6 (I + 1) c6) (xs.take (I + 1)) := O6.out.below ((Below.refl _ wc).drew)
        have EF := HB2.out
        have ED : Ens wc.drew (some bB) (L - I) (xs.drop I) := HB2.out.below ((Below.refl _ wc).drew)
        have hbs' : R + 1 ≤ wc.drew.heap.size := hR7
        have hsz : (xs.take (I + 1)).length + (L - I) ≤ 1000000 := by omega
        go_wp2_with fail
        go_region_law (refine step_app_en (by rfl) _ _ (by rfl) (R + 1) (.slice A6 (I + 1) c6) (xs.take (I + 1)) (by rfl) (by first | exact OA | exact OB) bB (L - I) (d - I) (xs.drop I) (by rfl) (by first | exact EF | exact ED) hsp2 hsz (by first | exact hR7 | exact hbs') ?_; intro v6 w6 o6 g6; obtain ⟨A7, c7, rfl, _⟩ := o6.form2; rw [← HN7.out] at o6 ⊢; have tt : Tch (fun b => R + 1 ≤ b) wc w6 := (by first | exact Tch.own OA g6 | exact (Drew.tch ⟨1, rfl⟩).trans (Tch.own OB g6)); have z6 : Blk w6 R #[.int .u64 (c : Int), .slice A6 (I + 1) c6] Tsn := tt.blk qR2.out (by omega); have y1 := z6.cell 1; have f1 := z6.fz 1; simp at y1; have b6 : Below R wc w6 := tt.below (by omega) (fun kk e => by omega); replace z6 := Lib.hid z6; replace o6 := Lib.hid o6; replace b6 := Lib.hid b6; clear g6 tt)
        all_goals
          have hZ := Lib.hid (show Blk (w6.setCell ⟨R, 1, none⟩ (.slice A7 N7 c7)) R #[.int .u64 (c : Int), .slice A7 N7 c7] Tsn from z6.out.set 1 (.slice A7 N7 c7))
          have hO := Lib.hid (own_tch o6.out (Tch.set (S := fun b => b = R) w6 R 1 (.slice A7 N7 c7) rfl) (fun kk hk _ e => by omega))
          have hB := Lib.hid (b6.out.setCell (p := ⟨R, 1, none⟩) (Nat.le_refl _) (.slice A7 N7 c7))
          clear z6 o6 b6
          go_wp2
          go_meet
          case rel => exact ⟨A7, c7, hZ, hO, hB⟩
      case rest =>
      obtain ⟨A7, c7, qR3, O7, B7⟩ := hcut
      clear x1 t1 HB2 qR2 hbk O6
      have hRd := qR3.out.lt
      have KR2 := Lib.hid (KR.out.trans (show Below W.heap.size _ _ from by rw [hRR]; exact B7.out))
      have KW2 := Lib.hid (kbq G1.out KR2.out)
      have q11 := Lib.hid (q10.out.under B7.out hP)
      clear KR KW q10 B7
      obtain ⟨_, _, e7, _, _, hE7, _, _⟩ := O7.out.form2
      simp only [Value.slice.injEq] at e7
      obtain ⟨rfl, e72, rfl⟩ := e7
      rw [← e72] at hE7
      have CE1 := Lib.hid (encode_any c A7 N7 c7 _ wc hc64 hE7 HW1.out HU1.out)
      rw [HR1.out] at CE1
      clear e72 hE7 O7
      have t0 := qR3.out.cell 0
      have t1 := qR3.out.cell 1
      simp at t0 t1
      go_upto_region 12 with (go_at_call 16; refine CE1.out.mono ?_; rintro e w8 ⟨v8, rfl, o8, g8⟩)
      have q12 := Lib.hid (q11.out.below g8)
      have KW3 := Lib.hid (kbq KW2.out g8)
      have KR3 := Lib.hid (KR2.out.trans (g8.mono (by have := KR2.out.size; omega)))
      clear t0 t1 CE1 o8 g8 q11 qR3 KW2 KR2
      have x0 := q12.out.cell 0
      have x1 := q12.out.cell 1
      simp at x0 x1
      go_upto_region 14 with fail
      have qQ := Lib.hid (Blk.new w8 #[.int .u64 (c : Int), .slice none 0 0] Tsn)
      have kQ := Lib.hid ((Below.refl _ w8).alloc (Nat.le_refl _) (.cells #[.int .u64 (c : Int), .slice none 0 0] Tsn))
      have q13 := Lib.hid (q12.out.below kQ.out)
      have hQ : (w8.alloc (.cells #[.int .u64 (c : Int), .slice none 0 0] Tsn)).heap.size = w8.heap.size + 1 := by simp
      have E8 := Lib.hid (E1.out.below (KR3.out.trans (kQ.out.mono (by have := KR3.out.size; omega))))
      have hw8 : w.heap.size ≤ w8.heap.size := KW3.out.size
      clear x0 x1 q12 KR3
      generalize hQQ : w8.heap.size = Q at *
      generalize w8.alloc (.cells #[.int .u64 (c : Int), .slice none 0 0] Tsn) = W9 at *
      have x1 := q13.out.cell 1
      have t1 := qQ.out.cell 1
      have f1 := qQ.out.fz 1
      simp at x1 t1
      go_upto_region 15 with (refine wpList_app_en _ rfl _ _ rfl W9.heap.size _ [] rfl (OwE.nil _ _) (some bA) L d xs rfl E8.out (fun e => by cases e) (fun ad e => by cases e; exact hsp) (by simp; omega) (Nat.le_refl _) ?_; intro v9 w9 o9 g9; rw [List.nil_append] at o9; obtain ⟨A9, c9, rfl, _⟩ := o9.form2; rw [← HL.out] at o9 ⊢; have g9' := (Tch.own (OwE.nil W9 W9.heap.size) g9).below (Nat.le_refl _) (fun kk e => e); have z9 := qQ.out.below g9'; have t1 := z9.cell 1; have f1 := z9.fz 1; simp at t1)
      have zQ := Lib.hid (show Blk (w9.setCell ⟨Q, 1, none⟩ (.slice A9 L c9)) Q #[.int .u64 (c : Int), .slice A9 L c9] Tsn from z9.set 1 (.slice A9 L c9))
      have o10 := own_tch o9 (Tch.set (S := fun b => b = Q) w9 Q 1 (.slice A9 L c9) rfl) (fun kk hk _ e => by omega)
      have K10 := Lib.hid (show Below w.heap.size w (w9.setCell ⟨Q, 1, none⟩ (.slice A9 L c9)) from ((KW3.out.trans (kQ.out.mono hw8)).trans (g9'.mono (by omega))).setCell (p := ⟨Q, 1, none⟩) hw8 _)
      clear z9 g9 g9' t1 f1 x1 o9 qQ kQ q13 E8 KW3
      generalize w9.setCell ⟨Q, 1, none⟩ (.slice A9 L c9) = w10 at *
      obtain ⟨g, rfl⟩ : ∃ g, A9 = some ⟨g, 0, none⟩ := by
        rcases o10.2 with ⟨e, _⟩ | ⟨g, cap', cur, e, _⟩
        · simp only [Value.slice.injEq] at e; omega
        · simp only [Value.slice.injEq] at e; exact ⟨g, e.1⟩
      have hgQ : W9.heap.size ≤ g := (World.ownsRow.lt o10 g rfl).1
      have hsp10 : OwE w10 W9.heap.size (.slice (some ⟨g, 0, none⟩) L c9) xs := o10
      have cI : w10.cell? ⟨g, I * 2, none⟩ = some (.string (atE xs I).1) := by
        obtain ⟨_, _, e, _, _, hE, _⟩ := hsp10.form2
        simp only [Value.slice.injEq] at e
        obtain ⟨rfl, e2, rfl⟩ := e
        obtain ⟨b, off, e3, _, hc3⟩ := hE.2 (by omega)
        simp only [Option.some.injEq, Addr.mk.injEq] at e3
        obtain ⟨rfl, rfl, _⟩ := e3
        have := (hc3 I (by omega)).1
        rwa [Nat.zero_add] at this
      have fI : w10.frozen? ⟨g, I * 2, none⟩ = false := by
        rcases o10.2 with ⟨e, _⟩ | ⟨g', cap', cur, e, _, hg, _⟩
        · cases e
        · simp only [Value.slice.injEq, Option.some.injEq, Addr.mk.injEq] at e
          obtain ⟨⟨rfl, _, _⟩, _, _⟩ := e
          exact fz_of hg _
      have OP := Lib.hid (hsp10.put HL.out I hIL (ky ++ ⟨#[32]⟩))
      have ZQ := Lib.hid (zQ.out.other (c := g) (I * 2) (.string (ky ++ ⟨#[32]⟩)) (by omega))
      have K11 := Lib.hid (K10.out.setCell (p := ⟨g, I * 2, none⟩) (by show w.heap.size ≤ g; omega) (.string (ky ++ ⟨#[32]⟩)))
      have t1 := zQ.out.cell 1
      simp at t1
      have hILI : (I : Int) < (L : Int) := by omega
      clear o10 hsp10 zQ K10
      go_upto_region 16 with fail
      generalize w10.setCell ⟨g, I * 2, none⟩ (.string (ky ++ ⟨#[32]⟩)) = w11 at *
      have hE11 : Ens w11 (some ⟨g, 0, none⟩) L (xs.set I (ky ++ ⟨#[32]⟩, (atE xs I).2)) := by
        obtain ⟨_, _, e, _, _, hE, _⟩ := OP.out.form2
        simp only [Value.slice.injEq] at e
        obtain ⟨rfl, e2, rfl⟩ := e
        rw [← e2] at hE
        exact hE
      have CE2 := Lib.hid (encode_any c (some ⟨g, 0, none⟩) L c9 _ w11 hc64 hE11 HW2.out HU2.out)
      rw [HR2.out] at CE2
      have t0 := ZQ.out.cell 0
      have t1 := ZQ.out.cell 1
      simp at t0 t1
      clear hE11 OP cI fI ZQ
      go_upto_region 17 with (go_at_call 16; refine CE2.out.mono ?_; rintro e w12 ⟨v12, rfl, o12, g12⟩)
      clear o12 t0 t1 CE2
      go_wp2_with (go_at_call 10; refine (CK.out _).mono ?_; rintro e w13 ⟨rfl, g13⟩)
      go_ret
      exact ⟨rfl, kbq (kbq K11.out g12) g13⟩
end Go.Proofs.Ytfpglbhjbaddhaa.Wd
