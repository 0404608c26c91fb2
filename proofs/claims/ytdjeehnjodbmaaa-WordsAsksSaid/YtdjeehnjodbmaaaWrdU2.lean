/- The document's answer of chapter 10: a text's words (tollerref10.Split), for texts that are not too long; no conditions but those that each names. -/
import Derived.Test.YtdjeehnjodbmaaaWrdU
namespace Go.Proofs.Ytdjeehnjodbmaaa.Wd
open Go Go.RowKit
set_option linter.unusedVariables false
set_option linter.unusedSimpArgs false

set_option maxRecDepth 100000 in
set_option maxHeartbeats 4000000 in
theorem rsplit_any (A : Option Addr) (N cap : Nat) (bs : List UInt8) (w : World) (hT : Txt w A N bs) (hN : N ≤ 1048576) (hcap : N ≤ cap) (hcm : cap ≤ 9223372036854775807) :
    Calls Try.prog 18 #[.slice A N cap] w fun e w' => ∃ v, e = .returned (.tuple #[v, .int .i64 ((spl bs).er : Int), .agg #[.int .i64 ((spl bs).ln : Int), .int .i64 ((spl bs).cl : Int)]]) ∧ WRows w' v (spl bs).rows ∧ Below w.heap.size w w' := by
  have e : spl bs = aut bs .gap 1 1 [] [] := if_neg (by rw [hT.1]; omega)
  rw [e]
  obtain ⟨R, hR⟩ : ∃ R, aut bs .gap 1 1 [] [] = R := ⟨_, rfl⟩
  rw [hR]
  have hN' : ¬ (1048576 : Int) < (N : Int) := by omega
  obtain ⟨j0, jz, jz0, jz1, jz2⟩ := info_parts infoRow
  have HT := Lib.hid hT
  have hbl := hT.1
  have HR := Lib.hid hR
  clear hT e hR
  go_enter Try.func18, Try.ntmps18
  go_wp2
  have hI0 : RInv w (w.alloc (.cells #[.int .i64 0, .int .i64 0] 34)) [] (.slice none 0 0) := ⟨(Below.refl _ w).alloc (Nat.le_refl _) _, by simp, ⟨⟨by simp, by simp⟩, by simp, by simp⟩, [], World.ownsRow_nil _ _ _ _, trivial⟩
  go_loopw [5, 6, 7, 8] (fun v n f i wr => ∃ (nn fr k : Nat) (acc : List (List Wo)), (nn ≤ k + 1 ∧ fr ≤ k ∧ k ≤ N + 1 ∧ acc.length ≤ k) ∧ n = .int .i64 (nn : Int) ∧ f = .int .i64 (fr : Int) ∧ i = .int .i64 (k : Int) ∧ Hid (k ≤ N → aut (bs.drop fr) .gap nn 1 [] acc = R ∧ okL (part bs fr k)) ∧ Hid (k = N + 1 → R = .ok acc) ∧ Hid (RInv w wr acc v)) (fun _ _ _ i _ => N + 1 - (intOf i).toNat)
  case atStart => exact ⟨1, 0, 0, [], ⟨by omega, by omega, by omega, Nat.le_refl _⟩, rfl, rfl, rfl, Lib.hid (fun _ => ⟨HR.out, part_none bs 0⟩), Lib.hid (fun h => by omega), Lib.hid hI0⟩
  case round =>
    obtain ⟨nn, fr, k, acc, hb4, rfl, rfl, rfl, HA, HZ, HI⟩ := hrel
    by_cases hkN : k ≤ N
    · have HA1 := Lib.hid (HA.out hkN)
      by_cases hcont : k < N ∧ bs.getD k 0 ≠ 10
      · obtain ⟨b, off, rfl, hbb, hcell⟩ := (HT.out.below HI.out.below).2 (by omega)
        have hx := hcell k hcont.1
        have hx10 := u8_ten hcont.2
        have hn10 := Lib.hid hcont.2
        have hklt := hcont.1
        have hy256 : (bs.getD k 0).toNat < 256 := (bs.getD k 0).toNat_lt
        have RB := Lib.hid (fun W => rblank_any (bs.getD k 0) W)
        clear hcell hcont
        by_cases h1 : kd (bs.getD k 0) = 1
        · have hR2 : R = .bad nn (k - fr + 1) := (HA1.out.1).symm.trans (step_bad hb4.2.1 (by omega) HA1.out.2 h1)
          subst hR2
          have hbad := (kd_bad _).1 h1
          rw [decide_eq_false (by omega)] at RB
          obtain ⟨⟨p0, p1⟩, p2, p3⟩ := HI.out.place
          generalize (bs.getD k 0).toNat = y at *
          have hkf : (k : Int) - (fr : Int) + 1 = ((k - fr + 1 : Nat) : Int) := by omega
          have HKF := Lib.hid hkf
          clear hkf h1
          by_cases h33 : y < 33
          · have d33 : ((y : Int) < 33) := by omega
            clear hbad
            go_wp2_with ((go_at_call 25; ((with_reducible refine (RB.out _).mono ?_); rintro e w2 ⟨rfl, rfl⟩)))
            have gp := put_place wr w.heap.size (.int .i64 (nn : Int)) (.int .i64 ((k : Int) - (fr : Int) + 1))
            refine bodyPost_ret (v := .tuple #[.slice none 0 0, .int .i64 20, .agg #[.int .i64 (nn : Int), .int .i64 ((k : Int) - (fr : Int) + 1)]]) ?_ rfl ⟨_, (by rw [HKF.out]; rfl), WRows.nil _, HI.out.below.trans (but_below' gp (by have := HI.out.lt; omega))⟩
            simp [results, Try.results18, go_sem, p0, p1, cell_set]
          · have d33 : decide ((y : Int) < 33) = false := decide_eq_false (by omega)
            have d126 : (126 : Int) < (y : Int) := by omega
            clear hbad
            go_wp2_with ((go_at_call 25; ((with_reducible refine (RB.out _).mono ?_); rintro e w2 ⟨rfl, rfl⟩)))
            have gp := put_place wr w.heap.size (.int .i64 (nn : Int)) (.int .i64 ((k : Int) - (fr : Int) + 1))
            refine bodyPost_ret (v := .tuple #[.slice none 0 0, .int .i64 20, .agg #[.int .i64 (nn : Int), .int .i64 ((k : Int) - (fr : Int) + 1)]]) ?_ rfl ⟨_, (by rw [HKF.out]; rfl), WRows.nil _, HI.out.below.trans (but_below' gp (by have := HI.out.lt; omega))⟩
            simp [results, Try.results18, go_sem, p0, p1, cell_set]
        · have hw : kd (bs.getD k 0) = 2 ∨ vs (bs.getD k 0) = true := by
            rcases aut_ways (bs.getD k 0) with h | h | h | h
            · exact absurd h h1
            · exact .inl h
            · exact absurd ((kd_three _).1 h) hn10.out
            · exact .inr h
          have HOK := Lib.hid (part_ok_succ hb4.2.1 (by omega) HA1.out.2 hw)
          have HA2 : Hid (k + 1 ≤ N → aut (bs.drop fr) .gap nn 1 [] acc = R ∧ okL (part bs fr (k + 1))) := Lib.hid (fun _ => ⟨HA1.out.1, HOK.out⟩)
          by_cases h2 : kd (bs.getD k 0) = 2
          · rw [decide_eq_true h2] at RB
            clear h1 hw h2
            generalize (bs.getD k 0).toNat = y at *
            go_wp2_with ((go_at_call 25; ((with_reducible refine (RB.out _).mono ?_); rintro e w2 ⟨rfl, rfl⟩)))
            go_roundw
            case rel => exact ⟨nn, fr, k + 1, acc, by omega, rfl, rfl, by go_num, HA2, Lib.hid (fun h => by omega), HI⟩
            case measure => simp [intOf]; omega
          · rw [decide_eq_false h2] at RB
            have hb : ¬ _ := fun e => h1 ((kd_bad (bs.getD k 0)).2 e)
            have h32 : ¬ ((bs.getD k 0).toNat = 32) := fun e => h2 ((kd_two _).2 (.inl (UInt8.toNat_inj.1 e)))
            have h9 : ¬ ((bs.getD k 0).toNat = 9) := fun e => h2 ((kd_two _).2 (.inr (UInt8.toNat_inj.1 e)))
            clear h1 hw h2
            generalize (bs.getD k 0).toNat = y at *
            have d33 : decide ((y : Int) < 33) = false := decide_eq_false (by omega)
            have d126 : decide ((126 : Int) < (y : Int)) = false := decide_eq_false (by omega)
            clear hb h32 h9
            go_wp2_with ((go_at_call 25; ((with_reducible refine (RB.out _).mono ?_); rintro e w2 ⟨rfl, rfl⟩)))
            go_roundw
            case rel => exact ⟨nn, fr, k + 1, acc, by omega, rfl, rfl, by go_num, HA2, Lib.hid (fun h => by omega), HI⟩
            case measure => simp [intOf]; omega
      · have hend : (k < N ∧ bs.getD k 0 = 10) ∨ ¬ k < N := by
          by_cases h : k < N
          · left
            refine ⟨h, ?_⟩
            by_cases h' : bs.getD k 0 = 10
            · exact h'
            · exact absurd ⟨h, h'⟩ hcont
          · right; exact h
        obtain ⟨A1, hs1, ht1⟩ := bslice_part A N cap fr k hb4.2.1 hkN hcap
        have KL := Lib.hid (rline_any A1 (k - fr) (cap - fr) (part bs fr k) nn wr (ht1 wr bs (HT.out.below HI.out.below)) (by omega) (by omega) (by omega) HA1.out.2 (by omega))
        have HN : Hid (k + 1 ≤ N → aut (bs.drop (k + 1)) .gap (nn + 1) 1 [] (flush (line0 (part bs fr k) nn) acc) = R) := Lib.hid (fun h => by
          rcases hend with h2 | h2
          · exact (step_nl hb4.2.1 (by omega) HA1.out.2 h2.2).symm.trans HA1.out.1
          · omega)
        have HL : Hid (k + 1 = N + 1 → R = .ok (flush (line0 (part bs fr k) nn) acc)) := Lib.hid (fun h => by
          have hk : k = bs.length := by omega
          subst hk
          exact HA1.out.1.symm.trans (step_fin HA1.out.2))
        have hreg : (¬ k < N ∧ decide ((k : Int) < (N : Int)) = false) ∨ (k < N ∧ ∃ b off, A = some ⟨b, off, none⟩ ∧ wr.cell? ⟨b, off + k, none⟩ = some (.int .u8 10)) := by
          rcases hend with h | h
          · refine .inr ⟨h.1, ?_⟩
            obtain ⟨b, off, e, hbb, hcell⟩ := (HT.out.below HI.out.below).2 (by omega)
            have := hcell k h.1
            rw [h.2] at this
            exact ⟨b, off, e, this⟩
          · exact .inl ⟨h, decide_eq_false (by omega)⟩
        clear hcont hend HA HA1 HZ ht1
        generalize line0 (part bs fr k) nn = line at *
        rcases hreg with ⟨hkn, hkd⟩ | ⟨hkn, b, off, rfl, hx10⟩
        · skip
          go_wp2_with ((go_at_call 26; ((with_reducible refine KL.out.mono ?_); rintro e w2 ⟨v2, rfl, r2, g2⟩; obtain ⟨A2, c2, rfl⟩ := r2.slice; refine stopHere ?_)))
          unfold Stop
          have HI2 := Lib.hid (HI.out.grow g2)
          have HW2 := Lib.hid (own_mono r2 (by have := HI.out.lt; omega) : WRow w2 (w.heap.size + 1) _ _)
          clear r2 g2
          by_cases hne : line = []
          · subst hne
            have HF := Lib.hid (show flush [] acc = acc from if_pos rfl)
            simp only [List.length_nil]
            go_wp2
            go_roundw
            case rel => exact ⟨nn + 1, k + 1, k + 1, acc, by omega, by go_num, by go_num, by go_num, Lib.hid (fun h => ⟨by have := HN.out h; rw [HF.out] at this; exact this, part_none bs _⟩), Lib.hid (fun h => by have := HL.out h; rw [HF.out] at this; exact this), HI2⟩
            case measure => simp [intOf]; omega
          · have HF := Lib.hid (show flush line acc = acc ++ [line] from if_neg hne)
            have dl : (0 : Int) < (line.length : Int) := by have := List.length_pos_iff.2 hne; omega
            obtain ⟨us, o1, o2⟩ := HI2.out.rows
            have HO1 := Lib.hid o1
            have HO2 := Lib.hid o2
            clear hne o1 o2
            go_wp2_with ((at_builtin; refine stopHere ?_))
            unfold Stop
            have g0 := (Below.refl _ w2).alloc (Nat.le_refl _) (.cells #[.slice A2 line.length c2] 37)
            refine wpList_append_own _ rfl _ _ 30 rfl (w.heap.size + 1) 37 j0 (.slice none 0 0) 1 24 Try.underlying30 jz jz0 jz1 jz2 rfl (by decide) _ acc.length _ rfl (own_below HO1.out g0) ⟨w2.heap.size, 0, none⟩ 1 1 [.slice A2 line.length c2] rfl rfl (one_cell w2 _ _) (by simp [Value.oneCell']) (by unfold maxLen; omega) (by omega) (by have := g0.size; have := HI2.out.lt; omega) ?_
            intro v3 w3 own3 grow3 _
            have HI3 := Lib.hid ((HI2.out.grow g0).push (own_below HW2.out g0) (own_below HO1.out g0) (HO2.out.imp fun u ws hu hk => ⟨own_below hu g0, fun k e => Nat.lt_of_lt_of_le (hk k e) g0.size⟩) own3 grow3)
            clear own3 grow3 HO1 HO2 HI2 HI HW2
            go_wp2
            go_roundw
            case rel => exact ⟨nn + 1, k + 1, k + 1, acc ++ [line], by simp; omega, by go_num, by go_num, by go_num, Lib.hid (fun h => ⟨by have := HN.out h; rw [HF.out] at this; exact this, part_none bs _⟩), Lib.hid (fun h => by have := HL.out h; rw [HF.out] at this; exact this), HI3⟩
            case measure => simp [intOf]; omega
        · skip
          go_wp2_with ((go_at_call 26; ((with_reducible refine KL.out.mono ?_); rintro e w2 ⟨v2, rfl, r2, g2⟩; obtain ⟨A2, c2, rfl⟩ := r2.slice; refine stopHere ?_)))
          unfold Stop
          have HI2 := Lib.hid (HI.out.grow g2)
          have HW2 := Lib.hid (own_mono r2 (by have := HI.out.lt; omega) : WRow w2 (w.heap.size + 1) _ _)
          clear r2 g2
          by_cases hne : line = []
          · subst hne
            have HF := Lib.hid (show flush [] acc = acc from if_pos rfl)
            simp only [List.length_nil]
            go_wp2
            go_roundw
            case rel => exact ⟨nn + 1, k + 1, k + 1, acc, by omega, by go_num, by go_num, by go_num, Lib.hid (fun h => ⟨by have := HN.out h; rw [HF.out] at this; exact this, part_none bs _⟩), Lib.hid (fun h => by have := HL.out h; rw [HF.out] at this; exact this), HI2⟩
            case measure => simp [intOf]; omega
          · have HF := Lib.hid (show flush line acc = acc ++ [line] from if_neg hne)
            have dl : (0 : Int) < (line.length : Int) := by have := List.length_pos_iff.2 hne; omega
            obtain ⟨us, o1, o2⟩ := HI2.out.rows
            have HO1 := Lib.hid o1
            have HO2 := Lib.hid o2
            clear hne o1 o2
            go_wp2_with ((at_builtin; refine stopHere ?_))
            unfold Stop
            have g0 := (Below.refl _ w2).alloc (Nat.le_refl _) (.cells #[.slice A2 line.length c2] 37)
            refine wpList_append_own _ rfl _ _ 30 rfl (w.heap.size + 1) 37 j0 (.slice none 0 0) 1 24 Try.underlying30 jz jz0 jz1 jz2 rfl (by decide) _ acc.length _ rfl (own_below HO1.out g0) ⟨w2.heap.size, 0, none⟩ 1 1 [.slice A2 line.length c2] rfl rfl (one_cell w2 _ _) (by simp [Value.oneCell']) (by unfold maxLen; omega) (by omega) (by have := g0.size; have := HI2.out.lt; omega) ?_
            intro v3 w3 own3 grow3 _
            have HI3 := Lib.hid ((HI2.out.grow g0).push (own_below HW2.out g0) (own_below HO1.out g0) (HO2.out.imp fun u ws hu hk => ⟨own_below hu g0, fun k e => Nat.lt_of_lt_of_le (hk k e) g0.size⟩) own3 grow3)
            clear own3 grow3 HO1 HO2 HI2 HI HW2
            go_wp2
            go_roundw
            case rel => exact ⟨nn + 1, k + 1, k + 1, acc ++ [line], by simp; omega, by go_num, by go_num, by go_num, Lib.hid (fun h => ⟨by have := HN.out h; rw [HF.out] at this; exact this, part_none bs _⟩), Lib.hid (fun h => by have := HL.out h; rw [HF.out] at this; exact this), HI3⟩
            case measure => simp [intOf]; omega
    · obtain rfl : k = N + 1 := by omega
      have hR2 := HZ.out rfl
      subst hR2
      obtain ⟨⟨p0, p1⟩, p2, p3⟩ := HI.out.place
      clear HA HZ
      have dk : decide (((N + 1 : Nat) : Int) ≤ (N : Int)) = false := decide_eq_false (by omega)
      go_wp2
      have gp := put_place wr w.heap.size (.int .i64 0) (.int .i64 0)
      refine bodyPost_ret (v := .tuple #[_, .int .i64 0, .agg #[.int .i64 0, .int .i64 0]]) ?_ rfl ⟨_, rfl, HI.out.out gp, HI.out.below.trans (but_below' gp (by have := HI.out.lt; omega))⟩
      simp [results, Try.results18, go_sem, p0, p1, cell_set]
end Go.Proofs.Ytdjeehnjodbmaaa.Wd
