/- The document's answer of chapter 10: the words of a line (tollerref10.line); no conditions but those that each names. -/
import Derived.Test.YtdjeehnjodbmaaaWrdR
namespace Go.Proofs.Ytdjeehnjodbmaaa.Wd
open Go Go.RowKit
set_option linter.unusedVariables false
set_option linter.unusedSimpArgs false

theorem bslice_mid0 (b off n cap i j : Nat) (h : i ≤ j) (hj : j ≤ cap) (hi : i < cap) (W : World) : (Instr.slice 22 (.slice (some ⟨b, off, none⟩) n cap) (some (.int .i64 (i : Int))) (some (.int .i64 (j : Int))) none).run Try.prog W = .ok (.slice (some ⟨b, off + i, none⟩) (j - i) (cap - i)) W := by
  obtain ⟨i0, hz, hz0, hz1, hz2⟩ := info_parts infoByte
  have hne : ¬ cap = i := by omega
  simp [go_sem, Try.underlying22, sizeOf, typeInfo, hz, hz1, h, hj, sliced, hne, Go.WideShapes.add_plain]
set_option maxRecDepth 100000 in
set_option maxHeartbeats 2000000 in
theorem rline_any (A : Option Addr) (N cap : Nat) (s : List UInt8) (n : Nat) (w : World) (hT : Txt w A N s) (hN : N ≤ 1048576) (hcap : N ≤ cap) (hcm : cap ≤ 9223372036854775807) (hs : okL s) (hn : n ≤ 2097152) :
    Calls Try.prog 26 #[.slice A N cap, .int .i64 (n : Int)] w fun e w' => ∃ v, e = .returned v ∧ WRow w' w.heap.size v (line0 s n) ∧ Below w.heap.size w w' := by
  obtain ⟨i0, hz, hz0, hz1, hz2⟩ := info_parts infoWord
  have HT := Lib.hid hT
  have HSO := Lib.hid hs
  have hsl := hT.1
  obtain ⟨R, hR⟩ : ∃ R, line0 s n = R := ⟨_, rfl⟩
  rw [hR]
  have HR := Lib.hid hR
  clear hT hs hR
  go_enter Try.func26, Try.ntmps26
  go_wp2
  go_loopw [5, 6] (fun v i wr => ∃ (k : Nat) (line : List Wo), k ≤ N ∧ line.length ≤ k ∧ i = .int .i64 (k : Int) ∧ Hid (WRow wr w.heap.size v line) ∧ Hid (lnW (s.drop k) .gap n (k + 1) line = R) ∧ Below w.heap.size w wr) (fun _ i _ => N - (intOf i).toNat)
  case atStart => exact ⟨0, [], Nat.zero_le _, Nat.le_refl _, rfl, Lib.hid (WRow.nil _ _), HR, Below.refl _ _⟩
  case round =>
    obtain ⟨k, line, hk, hll, rfl, HW, HL, hB⟩ := hrel
    by_cases hlt : k < N
    · obtain ⟨b, off, rfl, hb, hcell⟩ := HT.out.2 (by omega)
      have HC := Lib.hid (fun (W : World) (hW : Below w.heap.size w W) (j : Nat) (hj : j < N) => (hW.cell (p := ⟨b, off + j, none⟩) hb).trans (hcell j hj))
      have hx := HC.out _ hB k hlt
      clear hcell
      have hks : k < s.length := by omega
      have RB := Lib.hid (fun W => rblank_any (s.getD k 0) W)
      by_cases h2 : kd (s.getD k 0) = 2
      · rw [decide_eq_true h2] at RB
        have HL2 := Lib.hid ((line_blank hks h2 n line).symm.trans HL.out)
        generalize (s.getD k 0).toNat = y at *
        go_wp2_with ((go_at_call 25; ((with_reducible refine (RB.out _).mono ?_); rintro e w2 ⟨rfl, rfl⟩)))
        go_roundw
        case rel => exact ⟨k + 1, line, by omega, by omega, by go_num, HW, HL2, hB⟩
        case measure => simp [intOf]; omega
      · rw [decide_eq_false h2] at RB
        have hv : vs (s.getD k 0) = true := by
          have hm : s.getD k 0 ∈ s := by rw [List.getD_eq_getElem?_getD, List.getElem?_eq_getElem hks]; exact List.getElem_mem hks
          exact (HSO.out _ hm).resolve_left h2
        obtain ⟨L, hL0, hL1, hL2, hL3, hL4⟩ := line_word HSO.out hks hv
        have HV := Lib.hid (fun (j : Nat) (hj : j < L) (W : World) => show Calls Try.prog 25 #[.int .u8 ((s.getD (k + j) 0).toNat : Int)] W fun e w' => e = .returned (.bool false) ∧ W = w' by
          have h := rblank_any (s.getD (k + j) 0) W
          have hvj : vs (s.getD (k + j) 0) = true := by
            by_cases e : j = 0
            · rw [e]; exact hv
            · exact hL2 j (by omega) hj
          have := vs_kd hvj
          rw [decide_eq_false (by omega)] at h
          exact h)
        have HE := Lib.hid (fun (hj : k + L < N) (W : World) => show Calls Try.prog 25 #[.int .u8 ((s.getD (k + L) 0).toNat : Int)] W fun e w' => e = .returned (.bool true) ∧ W = w' by
          have h := rblank_any (s.getD (k + L) 0) W
          have hkl : k + L < s.length := by omega
          have hm : s.getD (k + L) 0 ∈ s := by rw [List.getD_eq_getElem?_getD, List.getElem?_eq_getElem hkl]; exact List.getElem_mem hkl
          have h2 := (HSO.out _ hm).resolve_right (by rw [hL3 hkl]; decide)
          rw [decide_eq_true h2] at h
          exact h)
        have HL4 := Lib.hid hL4
        have HVK := Lib.hid hv
        clear hL2 hL3 hL4 hv h2
        have hx35 : (s.getD k 0).toNat < 256 := (s.getD k 0).toNat_lt
        obtain ⟨y, hy⟩ : ∃ y, (s.getD k 0).toNat = y := ⟨_, rfl⟩
        rw [hy] at RB hx
        have HY := Lib.hid hy
        clear hy hx35
        go_wp2_with ((go_at_call 25; ((with_reducible refine (RB.out _).mono ?_); rintro e w2 ⟨rfl, rfl⟩)))
        go_loopw [6] (fun i wr2 => ∃ j : Nat, j ≤ L ∧ i = .int .i64 ((k + j : Nat) : Int) ∧ wr = wr2) (fun i _ => k + L - (intOf i).toNat)
        case atStart => exact ⟨0, Nat.zero_le _, rfl, rfl⟩
        case round =>
          obtain ⟨j, hj, rfl, hw⟩ := hrel
          subst hw
          by_cases hjL : j < L
          · have hxj := HC.out _ hB (k + j) (by omega)
            have KB := Lib.hid (HV.out j hjL)
            have hkj : ((k + j : Nat) : Int) < (N : Int) := by omega
            generalize (s.getD (k + j) 0).toNat = z at *
            obtain ⟨p, hp⟩ : ∃ p, k + j = p := ⟨_, rfl⟩
            rw [hp] at hxj hkj ⊢
            have HP := Lib.hid hp
            have hpN : p < N := by omega
            clear hp
            go_wp2_with ((go_at_call 25; ((with_reducible refine (KB.out _).mono ?_); rintro e w2 ⟨rfl, rfl⟩)))
            go_roundw
            case rel => exact ⟨j + 1, by omega, by have := HP.out; rw [show k + (j + 1) = p + 1 by omega]; go_num, by first | rfl | trivial⟩
            case measure => have := HP.out; simp [intOf]; omega
          · obtain rfl : j = L := by omega
            obtain ⟨p, hp⟩ : ∃ p, k + j = p := ⟨_, rfl⟩
            obtain ⟨x, hxx⟩ : ∃ x, (s.drop k).take j = x := ⟨_, rfl⟩
            have HX := Lib.hid hxx
            have hcv := cut_str (HT.out.below hB) k j (cap - k) (by omega)
            rw [hxx] at hcv
            have hsl2 := bslice_mid0 b off N cap k p (by omega) (by omega) (by omega)
            rw [show p - k = j by omega] at hsl2
            have HP := Lib.hid hp
            have hpk : p ≤ N := by omega
            have hkp : k < p := by omega
            have hLp : p = k + j := hp.symm
            rw [hp]
            obtain ⟨Ar, cr, hvr⟩ := HW.out.slice
            subst hvr
            have hkN : (k : Int) < (N : Int) := by omega
            clear hxx
            by_cases hpN : p < N
            · have hxp := HC.out _ hB p hpN
              have KE := Lib.hid (fun W => HE.out (by omega) W)
              rw [hp] at KE
              generalize (s.getD p 0).toNat = z at *
              have hpN' : (p : Int) < (N : Int) := by omega
              clear hp hLp
              by_cases hl0 : line.length = 0
              · have dl : ((line.length : Int) == 0) = true := by rw [hl0]; rfl
                by_cases h35 : y = 35
                · have d35 : ((y : Int) == 35) = true := by rw [h35]; rfl
                  have HR0 := Lib.hid (show R = [] by
                    have hb35 : s.getD k 0 = 35 := UInt8.toNat_inj.1 (by rw [HY.out, h35]; rfl)
                    have hln : line = [] := List.eq_nil_of_length_eq_zero hl0
                    have := HL.out
                    rw [hln, line_hash HSO.out hks hb35 n] at this
                    exact this.symm)
                  clear h35
                  go_wp2_with (first | (go_at_call 25; ((with_reducible refine (KE.out _).mono ?_); rintro e w2 ⟨rfl, rfl⟩)) | fail)
                  go_ret
                  exact ⟨_, rfl, by rw [HR0.out]; exact WRow.nil _ _, hB⟩
                · have d35 : ((y : Int) == 35) = false := beq_eq_false_iff_ne.2 (by omega)
                  clear hl0
                  have HL5 : Hid (lnW (s.drop p) .gap n (p + 1) (line ++ [(x, n, k + 1)]) = R) := Lib.hid (by
                    have h := HL4.out n line (fun e => by exfalso; apply h35; rw [← HY.out, e]; rfl)
                    rw [HP.out, HX.out] at h
                    exact h.symm.trans HL.out)
                  go_wp2_with (first | (go_at_call 25; ((with_reducible refine (KE.out _).mono ?_); rintro e w2 ⟨rfl, rfl⟩)) | (at_builtin; refine stopHere ?_))
                  unfold Stop
                  have e3 := (Below.refl _ wr).alloc (Nat.le_refl _) (.cells #[.string (str x), .int .i64 (n : Int), .int .i64 ((k : Int) + 1)] 39)
                  refine wpList_append_own _ rfl _ _ 37 rfl w.heap.size 39 i0 (.agg #[.string ⟨#[]⟩, .int .i64 0, .int .i64 0]) 3 32 Try.underlying37 hz hz0 hz1 hz2 rfl (by decide) _ line.length _ rfl (own_below HW.out e3) ⟨wr.heap.size, 0, none⟩ 1 1 (wcl (x, n, k + 1)) rfl rfl (by have := one_word wr x n (k + 1); simpa using this) (flatW_one [(x, n, k + 1)]) (by unfold maxLen; omega) (by omega) (kbq hB e3).size ?_
                  intro v4 w4 own4 grow4 _
                  have hB4 := (kbq hB e3).grown grow4 (kbq hB e3).size (own_block HW.out)
                  have HW4 : Hid (WRow w4 w.heap.size v4 (line ++ [(x, n, k + 1)])) := Lib.hid (by unfold WRow; rw [flatW_append, List.length_append]; exact own4)
                  clear own4 grow4
                  go_wp2
                  go_roundw
                  case rel => exact ⟨p, line ++ [(x, n, k + 1)], by omega, by simp; omega, by first | rfl | go_num, HW4, HL5, hB4⟩
                  case measure => simp [intOf]; omega
              · have dl : ((line.length : Int) == 0) = false := beq_eq_false_iff_ne.2 (by omega)
                have HL5 : Hid (lnW (s.drop p) .gap n (p + 1) (line ++ [(x, n, k + 1)]) = R) := Lib.hid (by
                  have h := HL4.out n line (fun _ e => hl0 (by rw [e]; rfl))
                  rw [HP.out, HX.out] at h
                  exact h.symm.trans HL.out)
                go_wp2_with (first | (go_at_call 25; ((with_reducible refine (KE.out _).mono ?_); rintro e w2 ⟨rfl, rfl⟩)) | (at_builtin; refine stopHere ?_))
                unfold Stop
                have e3 := (Below.refl _ wr).alloc (Nat.le_refl _) (.cells #[.string (str x), .int .i64 (n : Int), .int .i64 ((k : Int) + 1)] 39)
                refine wpList_append_own _ rfl _ _ 37 rfl w.heap.size 39 i0 (.agg #[.string ⟨#[]⟩, .int .i64 0, .int .i64 0]) 3 32 Try.underlying37 hz hz0 hz1 hz2 rfl (by decide) _ line.length _ rfl (own_below HW.out e3) ⟨wr.heap.size, 0, none⟩ 1 1 (wcl (x, n, k + 1)) rfl rfl (by have := one_word wr x n (k + 1); simpa using this) (flatW_one [(x, n, k + 1)]) (by unfold maxLen; omega) (by omega) (kbq hB e3).size ?_
                intro v4 w4 own4 grow4 _
                have hB4 := (kbq hB e3).grown grow4 (kbq hB e3).size (own_block HW.out)
                have HW4 : Hid (WRow w4 w.heap.size v4 (line ++ [(x, n, k + 1)])) := Lib.hid (by unfold WRow; rw [flatW_append, List.length_append]; exact own4)
                clear own4 grow4
                go_wp2
                go_roundw
                case rel => exact ⟨p, line ++ [(x, n, k + 1)], by omega, by simp; omega, by first | rfl | go_num, HW4, HL5, hB4⟩
                case measure => simp [intOf]; omega
            · have hpN' : decide ((p : Int) < (N : Int)) = false := decide_eq_false (by omega)
              clear hp hLp
              by_cases hl0 : line.length = 0
              · have dl : ((line.length : Int) == 0) = true := by rw [hl0]; rfl
                by_cases h35 : y = 35
                · have d35 : ((y : Int) == 35) = true := by rw [h35]; rfl
                  have HR0 := Lib.hid (show R = [] by
                    have hb35 : s.getD k 0 = 35 := UInt8.toNat_inj.1 (by rw [HY.out, h35]; rfl)
                    have hln : line = [] := List.eq_nil_of_length_eq_zero hl0
                    have := HL.out
                    rw [hln, line_hash HSO.out hks hb35 n] at this
                    exact this.symm)
                  clear h35
                  go_wp2_with fail
                  go_ret
                  exact ⟨_, rfl, by rw [HR0.out]; exact WRow.nil _ _, hB⟩
                · have d35 : ((y : Int) == 35) = false := beq_eq_false_iff_ne.2 (by omega)
                  clear hl0
                  have HL5 : Hid (lnW (s.drop p) .gap n (p + 1) (line ++ [(x, n, k + 1)]) = R) := Lib.hid (by
                    have h := HL4.out n line (fun e => by exfalso; apply h35; rw [← HY.out, e]; rfl)
                    rw [HP.out, HX.out] at h
                    exact h.symm.trans HL.out)
                  go_wp2_with (at_builtin; refine stopHere ?_)
                  unfold Stop
                  have e3 := (Below.refl _ wr).alloc (Nat.le_refl _) (.cells #[.string (str x), .int .i64 (n : Int), .int .i64 ((k : Int) + 1)] 39)
                  refine wpList_append_own _ rfl _ _ 37 rfl w.heap.size 39 i0 (.agg #[.string ⟨#[]⟩, .int .i64 0, .int .i64 0]) 3 32 Try.underlying37 hz hz0 hz1 hz2 rfl (by decide) _ line.length _ rfl (own_below HW.out e3) ⟨wr.heap.size, 0, none⟩ 1 1 (wcl (x, n, k + 1)) rfl rfl (by have := one_word wr x n (k + 1); simpa using this) (flatW_one [(x, n, k + 1)]) (by unfold maxLen; omega) (by omega) (kbq hB e3).size ?_
                  intro v4 w4 own4 grow4 _
                  have hB4 := (kbq hB e3).grown grow4 (kbq hB e3).size (own_block HW.out)
                  have HW4 : Hid (WRow w4 w.heap.size v4 (line ++ [(x, n, k + 1)])) := Lib.hid (by unfold WRow; rw [flatW_append, List.length_append]; exact own4)
                  clear own4 grow4
                  go_wp2
                  go_roundw
                  case rel => exact ⟨p, line ++ [(x, n, k + 1)], by omega, by simp; omega, by first | rfl | go_num, HW4, HL5, hB4⟩
                  case measure => simp [intOf]; omega
              · have dl : ((line.length : Int) == 0) = false := beq_eq_false_iff_ne.2 (by omega)
                have HL5 : Hid (lnW (s.drop p) .gap n (p + 1) (line ++ [(x, n, k + 1)]) = R) := Lib.hid (by
                  have h := HL4.out n line (fun _ e => hl0 (by rw [e]; rfl))
                  rw [HP.out, HX.out] at h
                  exact h.symm.trans HL.out)
                go_wp2_with (at_builtin; refine stopHere ?_)
                unfold Stop
                have e3 := (Below.refl _ wr).alloc (Nat.le_refl _) (.cells #[.string (str x), .int .i64 (n : Int), .int .i64 ((k : Int) + 1)] 39)
                refine wpList_append_own _ rfl _ _ 37 rfl w.heap.size 39 i0 (.agg #[.string ⟨#[]⟩, .int .i64 0, .int .i64 0]) 3 32 Try.underlying37 hz hz0 hz1 hz2 rfl (by decide) _ line.length _ rfl (own_below HW.out e3) ⟨wr.heap.size, 0, none⟩ 1 1 (wcl (x, n, k + 1)) rfl rfl (by have := one_word wr x n (k + 1); simpa using this) (flatW_one [(x, n, k + 1)]) (by unfold maxLen; omega) (by omega) (kbq hB e3).size ?_
                intro v4 w4 own4 grow4 _
                have hB4 := (kbq hB e3).grown grow4 (kbq hB e3).size (own_block HW.out)
                have HW4 : Hid (WRow w4 w.heap.size v4 (line ++ [(x, n, k + 1)])) := Lib.hid (by unfold WRow; rw [flatW_append, List.length_append]; exact own4)
                clear own4 grow4
                go_wp2
                go_roundw
                case rel => exact ⟨p, line ++ [(x, n, k + 1)], by omega, by simp; omega, by first | rfl | go_num, HW4, HL5, hB4⟩
                case measure => simp [intOf]; omega
    · obtain rfl : k = N := by omega
      have hE := HL.out
      rw [List.drop_eq_nil_of_le (by omega)] at hE
      have hE2 : line = R := hE
      subst hE2
      have hno : decide ((k : Int) < (k : Int)) = false := decide_eq_false (by omega)
      go_wp2
      go_ret
      exact ⟨_, rfl, HW.out, hB⟩
end Go.Proofs.Ytdjeehnjodbmaaa.Wd
