/- The document's answers of chapter 10: which byte is a blank, what is joined (tollerref10.blank, Join); the words of a line, plain; no conditions but those that each names. The document's answer of chapter 10: the words of a line (tollerref10.line); no conditions but those that each names. tollerlaw10.WordsLong answers true, for any row of bytes and any two numbers of 8 bits; no conditions. tollerlaw10.WordsParts answers true, for any two rows of bytes; no conditions. tollerlaw10.WordsBlanks answers true, for any row of bytes and any number of 8 bits; no conditions. tollerlaw10.stand answers true, for any short row of bytes, and so does WordsStand; no conditions but those that each names. The document's answer of chapter 10: a text's words (tollerref10.Split), for texts that are not too long; no conditions but those that each names. The document's answer of chapter 10: a text's words (tollerref10.Split), for texts that are not too long; no conditions but those that each names. Plain facts on the words of a text: what is joined is split; what is split may be joined; no conditions but those that each names. The document's answer of chapter 10: what is joined (tollerref10.Join); no conditions but those that each names. Rows of bytes, and of rows of texts, that came in read as such; no conditions. -/
import Derived.Test.YtckaiejbgnhgcaaGreatDoorZH
import Derived.Deep.CutRange
import Derived.Deep.Slices
import Derived.OpenShut
namespace Go.Proofs.YtckaiejbgnhgcaaGreatDoor.Wd.Ws
open Go Go.RowKit
set_option linter.unusedVariables false
set_option maxRecDepth 100000
set_option linter.unusedSimpArgs false

theorem rblank_any (c : UInt8) (w : World) : Calls Tryz.prog 67 #[.int .u8 (c.toNat : Int)] w fun e w' => e = .returned (.bool (decide (kd c = 2))) ∧ w = w' := by
  have e0 : ∀ k : UInt8, c = k ↔ c.toNat = k.toNat := fun k => ⟨fun h => by rw [h], fun h => UInt8.toNat_inj.1 h⟩
  have hk : (kd c = 2) ↔ c.toNat = 32 ∨ c.toNat = 9 := by rw [kd_two, e0, e0]; rfl
  have hd : decide (kd c = 2) = decide (c.toNat = 32 ∨ c.toNat = 9) := by simp only [hk]
  rw [hd]
  clear hk hd e0
  generalize c.toNat = v
  by_cases h1 : v = 32
  · rw [decide_eq_true (.inl h1)]; subst h1
    go_enter Tryz.func67, Tryz.ntmps67
    go_wp2
    go_ret
    exact ⟨rfl, rfl⟩
  · have d1 : ((v : Int) == 32) = false := beq_eq_false_iff_ne.2 (by omega)
    by_cases h2 : v = 9
    · rw [decide_eq_true (.inr h2)]; subst h2
      go_enter Tryz.func67, Tryz.ntmps67
      go_wp2
      go_ret
      exact ⟨rfl, rfl⟩
    · have d2 : ((v : Int) == 9) = false := beq_eq_false_iff_ne.2 (by omega)
      rw [decide_eq_false (by omega)]
      go_enter Tryz.func67, Tryz.ntmps67
      go_wp2
      go_ret
      exact ⟨rfl, rfl⟩

/-! ### The words of a line, word by word -/
theorem okL_drop {s : List UInt8} (h : okL s) (k : Nat) : okL (s.drop k) := fun b hb => h b (List.mem_of_mem_drop hb)
theorem lnW_word : ∀ (r x : List UInt8) (c0 n c : Nat) (line : List Wo), okL r → lnW r (.wrd x c0) n c line = lnW (r.dropWhile vs) .gap n (c + (r.takeWhile vs).length) (line ++ [(x ++ r.takeWhile vs, n, c0)])
  | [], x, c0, n, c, line, _ => by simp [lnW, shutL]
  | b :: t, x, c0, n, c, line, hs => by
    have ht : okL t := fun y hy => hs y (List.mem_cons_of_mem _ hy)
    rcases hs b List.mem_cons_self with h | h
    · have hv : vs b = false := by unfold vs; rw [h]; rfl
      rw [List.dropWhile_cons, List.takeWhile_cons, if_neg (by rw [hv]; decide), if_neg (by rw [hv]; decide), lnW_2 h, lnW_2 h]
      simp only [List.append_nil, List.length_nil, Nat.add_zero]
      rfl
    · rw [lnW_v h, List.dropWhile_cons, List.takeWhile_cons, if_pos h, if_pos h]
      show lnW t (.wrd (x ++ [b]) c0) n (c + 1) line = _
      rw [lnW_word t _ _ _ _ _ ht]
      simp only [List.length_cons, List.append_assoc, List.cons_append, List.nil_append]
      rw [show c + 1 + (t.takeWhile vs).length = c + ((t.takeWhile vs).length + 1) by omega]
theorem lnW_rem : ∀ (t : List UInt8) (n c : Nat), okL t → lnW t .rem n c [] = []
  | [], n, c, _ => rfl
  | b :: t, n, c, hs => by
    have ht : okL t := fun y hy => hs y (List.mem_cons_of_mem _ hy)
    rcases hs b List.mem_cons_self with h | h
    · rw [lnW_2 h]; exact lnW_rem t n (c + 1) ht
    · rw [lnW_v h]; exact lnW_rem t n (c + 1) ht
/-- A word of a line, and what is behind it. -/
theorem line_word {s : List UInt8} (hs : okL s) {k : Nat} (hk : k < s.length) (hv : vs (s.getD k 0) = true) : ∃ L, 0 < L ∧ k + L ≤ s.length ∧ (∀ j, 1 ≤ j → j < L → vs (s.getD (k + j) 0) = true) ∧ (k + L < s.length → vs (s.getD (k + L) 0) = false) ∧
    ∀ n line, (s.getD k 0 = 35 → line ≠ []) → lnW (s.drop k) .gap n (k + 1) line = lnW (s.drop (k + L)) .gap n (k + L + 1) (line ++ [((s.drop k).take L, n, k + 1)]) := by
  obtain ⟨h1, h2, h3, h4⟩ := while_len (s.drop (k + 1))
  have hl : ((s.drop (k + 1)).takeWhile vs).length ≤ s.length - (k + 1) := by
    have := congrArg List.length h1
    rw [List.length_take, List.length_drop] at this
    omega
  have gd : ∀ j, (s.drop (k + 1)).getD j 0 = s.getD (k + 1 + j) 0 := fun j => by simp [List.getD_eq_getElem?_getD]
  generalize hq : ((s.drop (k + 1)).takeWhile vs).length = q at *
  refine ⟨q + 1, by omega, by omega, fun j hj1 hj2 => ?_, fun he => ?_, fun n line h35 => ?_⟩
  · have := h3 (j - 1) (by omega)
    rw [gd, show k + 1 + (j - 1) = k + j by omega] at this
    exact this
  · have := h4 (by rw [List.length_drop]; omega)
    rw [gd, show k + 1 + q = k + (q + 1) by omega] at this
    exact this
  · have e : seen (s.getD k 0) .gap (k + 1) line = .wrd [s.getD k 0] (k + 1) := if_neg (fun g => h35 ((kd_four _).1 g.1) g.2)
    rw [drop_at hk, lnW_v hv, e, lnW_word _ _ _ _ _ _ (okL_drop hs _), hq, ← h2, List.drop_drop, List.take_succ_cons, h1, show k + 1 + q = k + (q + 1) by omega]
    rw [show k + 1 + 1 + q = k + (q + 1) + 1 by omega]
    rfl
theorem line_hash {s : List UInt8} (hs : okL s) {k : Nat} (hk : k < s.length) (h : s.getD k 0 = 35) (n : Nat) : lnW (s.drop k) .gap n (k + 1) [] = [] := by
  have hv : vs (s.getD k 0) = true := by rw [h]; decide
  have e : seen (s.getD k 0) .gap (k + 1) [] = .rem := if_pos ⟨(kd_four _).2 h, rfl⟩
  rw [drop_at hk, lnW_v hv, e, lnW_rem _ _ _ (okL_drop hs _)]
theorem line_blank {s : List UInt8} {k : Nat} (hk : k < s.length) (h : kd (s.getD k 0) = 2) (n : Nat) (line : List Wo) : lnW (s.drop k) .gap n (k + 1) line = lnW (s.drop (k + 1)) .gap n (k + 1 + 1) line := by
  rw [drop_at hk, lnW_2 h]; rfl
end Go.Proofs.YtckaiejbgnhgcaaGreatDoor.Wd.Ws
namespace Go.Proofs.YtckaiejbgnhgcaaGreatDoor.Wd.Ws
open Go Go.RowKit
set_option linter.unusedVariables false
set_option maxRecDepth 100000
set_option linter.unusedSimpArgs false

theorem bslice_mid0 (b off n cap i j : Nat) (h : i ≤ j) (hj : j ≤ cap) (hi : i < cap) (W : World) : (Instr.slice 22 (.slice (some ⟨b, off, none⟩) n cap) (some (.int .i64 (i : Int))) (some (.int .i64 (j : Int))) none).run Tryz.prog W = .ok (.slice (some ⟨b, off + i, none⟩) (j - i) (cap - i)) W := by
  obtain ⟨i0, hz, hz0, hz1, hz2⟩ := info_parts infoByte
  have hne : ¬ cap = i := by omega
  simp [go_sem, Tryz.underlying22, sizeOf, typeInfo, hz, hz1, h, hj, sliced, hne, Go.WideShapes.add_plain]
set_option maxRecDepth 100000 in
set_option maxHeartbeats 2000000 in
theorem rline_any (A : Option Addr) (N cap : Nat) (s : List UInt8) (n : Nat) (w : World) (hT : Txt w A N s) (hN : N ≤ 1048576) (hcap : N ≤ cap) (hcm : cap ≤ 9223372036854775807) (hs : okL s) (hn : n ≤ 2097152) :
    Calls Tryz.prog 68 #[.slice A N cap, .int .i64 (n : Int)] w fun e w' => ∃ v, e = .returned v ∧ WRow w' w.heap.size v (line0 s n) ∧ Below w.heap.size w w' := by
  obtain ⟨i0, hz, hz0, hz1, hz2⟩ := info_parts infoWord
  have HT := Lib.hid hT
  have HSO := Lib.hid hs
  have hsl := hT.1
  obtain ⟨R, hR⟩ : ∃ R, line0 s n = R := ⟨_, rfl⟩
  rw [hR]
  have HR := Lib.hid hR
  clear hT hs hR
  go_enter Tryz.func68, Tryz.ntmps68
  go_wp2
  go_loopw [5, 6] (fun v i wr => ∃ (k : Nat) (line : List Wo), k ≤ N ∧ line.length ≤ k ∧ i = .int .i64 (k : Int) ∧ Hid (WRow wr w.heap.size v line) ∧ Hid (lnW (s.drop k) .gap n (k + 1) line = R) ∧ Below w.heap.size w wr) (fun _ i _ => N - (intOf i).toNat)
  case atStart => exact ⟨0, [], Nat.zero_le _, Nat.le_refl _, rfl, Lib.hid (WRow.nil _ _), HR, Below.refl _ _⟩
  case round =>
    obtain ⟨k, line, hk, hll, rfl, HW, HL, hB⟩ := hrel
    by_cases hlt : k < N
    · obtain ⟨b, off, rfl, hb, hcell⟩ := HT.out.2 (by omega)
      have HC := Lib.hid (fun (W : World) (hW : Below w.heap.size w W) (j : Nat) (hj : j < N) => (hW.cell (p := ⟨b, off + j, none⟩) hb).trans (hcell j hj))
      have hx := HC.out _ hB k hlt
      clear hcell
      have hks : k < s.length := by omega
      have RB := Lib.hid (fun W => rblank_any (s.getD k 0) W)
      by_cases h2 : kd (s.getD k 0) = 2
      · rw [decide_eq_true h2] at RB
        have HL2 := Lib.hid ((line_blank hks h2 n line).symm.trans HL.out)
        generalize (s.getD k 0).toNat = y at *
        go_wp2_with ((go_at_call 67; ((with_reducible refine (RB.out _).mono ?_); rintro e w2 ⟨rfl, rfl⟩)))
        go_roundw
        case rel => exact ⟨k + 1, line, by omega, by omega, by go_num, HW, HL2, hB⟩
        case measure => simp [intOf]; omega
      · rw [decide_eq_false h2] at RB
        have hv : vs (s.getD k 0) = true := by
          have hm : s.getD k 0 ∈ s := by rw [List.getD_eq_getElem?_getD, List.getElem?_eq_getElem hks]; exact List.getElem_mem hks
          exact (HSO.out _ hm).resolve_left h2
        obtain ⟨L, hL0, hL1, hL2, hL3, hL4⟩ := line_word HSO.out hks hv
        have HV := Lib.hid (fun (j : Nat) (hj : j < L) (W : World) => show Calls Tryz.prog 67 #[.int .u8 ((s.getD (k + j) 0).toNat : Int)] W fun e w' => e = .returned (.bool false) ∧ W = w' by
          have h := rblank_any (s.getD (k + j) 0) W
          have hvj : vs (s.getD (k + j) 0) = true := by
            by_cases e : j = 0
            · rw [e]; exact hv
            · exact hL2 j (by omega) hj
          have := vs_kd hvj
          rw [decide_eq_false (by omega)] at h
          exact h)
        have HE := Lib.hid (fun (hj : k + L < N) (W : World) => show Calls Tryz.prog 67 #[.int .u8 ((s.getD (k + L) 0).toNat : Int)] W fun e w' => e = .returned (.bool true) ∧ W = w' by
          have h := rblank_any (s.getD (k + L) 0) W
          have hkl : k + L < s.length := by omega
          have hm : s.getD (k + L) 0 ∈ s := by rw [List.getD_eq_getElem?_getD, List.getElem?_eq_getElem hkl]; exact List.getElem_mem hkl
          have h2 := (HSO.out _ hm).resolve_right (by rw [hL3 hkl]; decide)
          rw [decide_eq_true h2] at h
          exact h)
        have HL4 := Lib.hid hL4
        have HVK := Lib.hid hv
        clear hL2 hL3 hL4 hv h2
        have hx35 : (s.getD k 0).toNat < 256 := (s.getD k 0).toNat_lt
        obtain ⟨y, hy⟩ : ∃ y, (s.getD k 0).toNat = y := ⟨_, rfl⟩
        rw [hy] at RB hx
        have HY := Lib.hid hy
        clear hy hx35
        go_wp2_with ((go_at_call 67; ((with_reducible refine (RB.out _).mono ?_); rintro e w2 ⟨rfl, rfl⟩)))
        go_loopw [6] (fun i wr2 => ∃ j : Nat, j ≤ L ∧ i = .int .i64 ((k + j : Nat) : Int) ∧ wr = wr2) (fun i _ => k + L - (intOf i).toNat)
        case atStart => exact ⟨0, Nat.zero_le _, rfl, rfl⟩
        case round =>
          obtain ⟨j, hj, rfl, hw⟩ := hrel
          subst hw
          by_cases hjL : j < L
          · have hxj := HC.out _ hB (k + j) (by omega)
            have KB := Lib.hid (HV.out j hjL)
            have hkj : ((k + j : Nat) : Int) < (N : Int) := by omega
            generalize (s.getD (k + j) 0).toNat = z at *
            obtain ⟨p, hp⟩ : ∃ p, k + j = p := ⟨_, rfl⟩
            rw [hp] at hxj hkj ⊢
            have HP := Lib.hid hp
            have hpN : p < N := by omega
            clear hp
            go_wp2_with ((go_at_call 67; ((with_reducible refine (KB.out _).mono ?_); rintro e w2 ⟨rfl, rfl⟩)))
            go_roundw
            case rel => exact ⟨j + 1, by omega, by have := HP.out; rw [show k + (j + 1) = p + 1 by omega]; go_num, by first | rfl | trivial⟩
            case measure => have := HP.out; simp [intOf]; omega
          · obtain rfl : j = L := by omega
            obtain ⟨p, hp⟩ : ∃ p, k + j = p := ⟨_, rfl⟩
            obtain ⟨x, hxx⟩ : ∃ x, (s.drop k).take j = x := ⟨_, rfl⟩
            have HX := Lib.hid hxx
            have hcv := cut_str (HT.out.below hB) k j (cap - k) (by omega)
            rw [hxx] at hcv
            have hsl2 := bslice_mid0 b off N cap k p (by omega) (by omega) (by omega)
            rw [show p - k = j by omega] at hsl2
            have HP := Lib.hid hp
            have hpk : p ≤ N := by omega
            have hkp : k < p := by omega
            have hLp : p = k + j := hp.symm
            rw [hp]
            obtain ⟨Ar, cr, hvr⟩ := HW.out.slice
            subst hvr
            have hkN : (k : Int) < (N : Int) := by omega
            clear hxx
            by_cases hpN : p < N
            · have hxp := HC.out _ hB p hpN
              have KE := Lib.hid (fun W => HE.out (by omega) W)
              rw [hp] at KE
              generalize (s.getD p 0).toNat = z at *
              have hpN' : (p : Int) < (N : Int) := by omega
              clear hp hLp
              by_cases hl0 : line.length = 0
              · have dl : ((line.length : Int) == 0) = true := by rw [hl0]; rfl
                by_cases h35 : y = 35
                · have d35 : ((y : Int) == 35) = true := by rw [h35]; rfl
                  have HR0 := Lib.hid (show R = [] by
                    have hb35 : s.getD k 0 = 35 := UInt8.toNat_inj.1 (by rw [HY.out, h35]; rfl)
                    have hln : line = [] := List.eq_nil_of_length_eq_zero hl0
                    have := HL.out
                    rw [hln, line_hash HSO.out hks hb35 n] at this
                    exact this.symm)
                  clear h35
                  go_wp2_with (first | (go_at_call 67; ((with_reducible refine (KE.out _).mono ?_); rintro e w2 ⟨rfl, rfl⟩)) | fail)
                  go_ret
                  exact ⟨_, rfl, by rw [HR0.out]; exact WRow.nil _ _, hB⟩
                · have d35 : ((y : Int) == 35) = false := beq_eq_false_iff_ne.2 (by omega)
                  clear hl0
                  have HL5 : Hid (lnW (s.drop p) .gap n (p + 1) (line ++ [(x, n, k + 1)]) = R) := Lib.hid (by
                    have h := HL4.out n line (fun e => by exfalso; apply h35; rw [← HY.out, e]; rfl)
                    rw [HP.out, HX.out] at h
                    exact h.symm.trans HL.out)
                  go_wp2_with (first | (go_at_call 67; ((with_reducible refine (KE.out _).mono ?_); rintro e w2 ⟨rfl, rfl⟩)) | (at_builtin; refine stopHere ?_))
                  unfold Stop
                  have e3 := (Below.refl _ wr).alloc (Nat.le_refl _) (.cells #[.string (str x), .int .i64 (n : Int), .int .i64 ((k : Int) + 1)] 88)
                  refine wpList_append_own _ rfl _ _ 86 rfl w.heap.size 88 i0 (.agg #[.string ⟨#[]⟩, .int .i64 0, .int .i64 0]) 3 32 Tryz.underlying86 hz hz0 hz1 hz2 rfl (by decide) _ line.length _ rfl (own_below HW.out e3) ⟨wr.heap.size, 0, none⟩ 1 1 (wcl (x, n, k + 1)) rfl rfl (by have := one_word wr x n (k + 1); simpa using this) (flatW_one [(x, n, k + 1)]) (by unfold maxLen; omega) (by omega) (kbq hB e3).size ?_
                  intro v4 w4 own4 grow4 _
                  have hB4 := (kbq hB e3).grown grow4 (kbq hB e3).size (own_block HW.out)
                  have HW4 : Hid (WRow w4 w.heap.size v4 (line ++ [(x, n, k + 1)])) := Lib.hid (by unfold WRow; rw [flatW_append, List.length_append]; exact own4)
                  clear own4 grow4
                  go_wp2
                  go_roundw
                  case rel => exact ⟨p, line ++ [(x, n, k + 1)], by omega, by simp; omega, by first | rfl | go_num, HW4, HL5, hB4⟩
                  case measure => simp [intOf]; omega
              · have dl : ((line.length : Int) == 0) = false := beq_eq_false_iff_ne.2 (by omega)
                have HL5 : Hid (lnW (s.drop p) .gap n (p + 1) (line ++ [(x, n, k + 1)]) = R) := Lib.hid (by
                  have h := HL4.out n line (fun _ e => hl0 (by rw [e]; rfl))
                  rw [HP.out, HX.out] at h
                  exact h.symm.trans HL.out)
                go_wp2_with (first | (go_at_call 67; ((with_reducible refine (KE.out _).mono ?_); rintro e w2 ⟨rfl, rfl⟩)) | (at_builtin; refine stopHere ?_))
                unfold Stop
                have e3 := (Below.refl _ wr).alloc (Nat.le_refl _) (.cells #[.string (str x), .int .i64 (n : Int), .int .i64 ((k : Int) + 1)] 88)
                refine wpList_append_own _ rfl _ _ 86 rfl w.heap.size 88 i0 (.agg #[.string ⟨#[]⟩, .int .i64 0, .int .i64 0]) 3 32 Tryz.underlying86 hz hz0 hz1 hz2 rfl (by decide) _ line.length _ rfl (own_below HW.out e3) ⟨wr.heap.size, 0, none⟩ 1 1 (wcl (x, n, k + 1)) rfl rfl (by have := one_word wr x n (k + 1); simpa using this) (flatW_one [(x, n, k + 1)]) (by unfold maxLen; omega) (by omega) (kbq hB e3).size ?_
                intro v4 w4 own4 grow4 _
                have hB4 := (kbq hB e3).grown grow4 (kbq hB e3).size (own_block HW.out)
                have HW4 : Hid (WRow w4 w.heap.size v4 (line ++ [(x, n, k + 1)])) := Lib.hid (by unfold WRow; rw [flatW_append, List.length_append]; exact own4)
                clear own4 grow4
                go_wp2
                go_roundw
                case rel => exact ⟨p, line ++ [(x, n, k + 1)], by omega, by simp; omega, by first | rfl | go_num, HW4, HL5, hB4⟩
                case measure => simp [intOf]; omega
            · have hpN' : decide ((p : Int) < (N : Int)) = false := decide_eq_false (by omega)
              clear hp hLp
              by_cases hl0 : line.length = 0
              · have dl : ((line.length : Int) == 0) = true := by rw [hl0]; rfl
                by_cases h35 : y = 35
                · have d35 : ((y : Int) == 35) = true := by rw [h35]; rfl
                  have HR0 := Lib.hid (show R = [] by
                    have hb35 : s.getD k 0 = 35 := UInt8.toNat_inj.1 (by rw [HY.out, h35]; rfl)
                    have hln : line = [] := List.eq_nil_of_length_eq_zero hl0
                    have := HL.out
                    rw [hln, line_hash HSO.out hks hb35 n] at this
                    exact this.symm)
                  clear h35
                  go_wp2_with fail
                  go_ret
                  exact ⟨_, rfl, by rw [HR0.out]; exact WRow.nil _ _, hB⟩
                · have d35 : ((y : Int) == 35) = false := beq_eq_false_iff_ne.2 (by omega)
                  clear hl0
                  have HL5 : Hid (lnW (s.drop p) .gap n (p + 1) (line ++ [(x, n, k + 1)]) = R) := Lib.hid (by
                    have h := HL4.out n line (fun e => by exfalso; apply h35; rw [← HY.out, e]; rfl)
                    rw [HP.out, HX.out] at h
                    exact h.symm.trans HL.out)
                  go_wp2_with (at_builtin; refine stopHere ?_)
                  unfold Stop
                  have e3 := (Below.refl _ wr).alloc (Nat.le_refl _) (.cells #[.string (str x), .int .i64 (n : Int), .int .i64 ((k : Int) + 1)] 88)
                  refine wpList_append_own _ rfl _ _ 86 rfl w.heap.size 88 i0 (.agg #[.string ⟨#[]⟩, .int .i64 0, .int .i64 0]) 3 32 Tryz.underlying86 hz hz0 hz1 hz2 rfl (by decide) _ line.length _ rfl (own_below HW.out e3) ⟨wr.heap.size, 0, none⟩ 1 1 (wcl (x, n, k + 1)) rfl rfl (by have := one_word wr x n (k + 1); simpa using this) (flatW_one [(x, n, k + 1)]) (by unfold maxLen; omega) (by omega) (kbq hB e3).size ?_
                  intro v4 w4 own4 grow4 _
                  have hB4 := (kbq hB e3).grown grow4 (kbq hB e3).size (own_block HW.out)
                  have HW4 : Hid (WRow w4 w.heap.size v4 (line ++ [(x, n, k + 1)])) := Lib.hid (by unfold WRow; rw [flatW_append, List.length_append]; exact own4)
                  clear own4 grow4
                  go_wp2
                  go_roundw
                  case rel => exact ⟨p, line ++ [(x, n, k + 1)], by omega, by simp; omega, by first | rfl | go_num, HW4, HL5, hB4⟩
                  case measure => simp [intOf]; omega
              · have dl : ((line.length : Int) == 0) = false := beq_eq_false_iff_ne.2 (by omega)
                have HL5 : Hid (lnW (s.drop p) .gap n (p + 1) (line ++ [(x, n, k + 1)]) = R) := Lib.hid (by
                  have h := HL4.out n line (fun _ e => hl0 (by rw [e]; rfl))
                  rw [HP.out, HX.out] at h
                  exact h.symm.trans HL.out)
                go_wp2_with (at_builtin; refine stopHere ?_)
                unfold Stop
                have e3 := (Below.refl _ wr).alloc (Nat.le_refl _) (.cells #[.string (str x), .int .i64 (n : Int), .int .i64 ((k : Int) + 1)] 88)
                refine wpList_append_own _ rfl _ _ 86 rfl w.heap.size 88 i0 (.agg #[.string ⟨#[]⟩, .int .i64 0, .int .i64 0]) 3 32 Tryz.underlying86 hz hz0 hz1 hz2 rfl (by decide) _ line.length _ rfl (own_below HW.out e3) ⟨wr.heap.size, 0, none⟩ 1 1 (wcl (x, n, k + 1)) rfl rfl (by have := one_word wr x n (k + 1); simpa using this) (flatW_one [(x, n, k + 1)]) (by unfold maxLen; omega) (by omega) (kbq hB e3).size ?_
                intro v4 w4 own4 grow4 _
                have hB4 := (kbq hB e3).grown grow4 (kbq hB e3).size (own_block HW.out)
                have HW4 : Hid (WRow w4 w.heap.size v4 (line ++ [(x, n, k + 1)])) := Lib.hid (by unfold WRow; rw [flatW_append, List.length_append]; exact own4)
                clear own4 grow4
                go_wp2
                go_roundw
                case rel => exact ⟨p, line ++ [(x, n, k + 1)], by omega, by simp; omega, by first | rfl | go_num, HW4, HL5, hB4⟩
                case measure => simp [intOf]; omega
    · obtain rfl : k = N := by omega
      have hE := HL.out
      rw [List.drop_eq_nil_of_le (by omega)] at hE
      have hE2 : line = R := hE
      subst hE2
      have hno : decide ((k : Int) < (k : Int)) = false := decide_eq_false (by omega)
      go_wp2
      go_ret
      exact ⟨_, rfl, HW.out, hB⟩
end Go.Proofs.YtckaiejbgnhgcaaGreatDoor.Wd.Ws
namespace Go.Proofs.YtckaiejbgnhgcaaGreatDoor.Wd.Ws
open Go Go.RowKit
set_option linter.unusedVariables false
set_option maxRecDepth 100000
set_option linter.unusedSimpArgs false

theorem made_noughts (W : World) (arr : Array Value) (h : arr = madeCells #[.int .u8 0] 1048577) : Txt (W.alloc (.cells arr 5)) (some ⟨W.heap.size, 0, none⟩) 1048577 (List.replicate 1048577 0) := by
  have e := txt_lit (W := W) (List.replicate 1048577 0) arr 5 (0, 0) (by rw [h, toList_madeCells_one, bvs, List.map_replicate]; rfl)
  rw [List.length_replicate] at e
  exact e

theorem make_run : ∃ arr : Array Value, arr = madeCells #[.int .u8 0] 1048577 ∧ ∀ W : World, (Instr.makeSlice 22 (.int .i64 1048577) (.int .i64 1048577)).run Tryz.prog W = .ok (.slice (some ⟨W.heap.size, 0, none⟩) 1048577 1048577) (W.alloc (.cells arr 5)) := by
  obtain ⟨i0, hz, hz0, hz1, hz2⟩ := info_parts infoByte
  refine ⟨_, rfl, fun W => ?_⟩
  have h := run_make (P := Tryz.prog) W 22 5 i0 (.int .u8 0) Tryz.underlying22 hz hz0 .i64 .i64 1048577 1048577 (by omega) (by omega) (by rw [hz2]; omega) (by omega)
  rw [hz1] at h
  exact h

theorem spl_noughts : spl (List.replicate 1048577 0) = .long := if_pos (by rw [List.length_replicate]; omega)

theorem bad_put (t : List UInt8) (i : Nat) (b : UInt8) : badB (t.take i ++ [b] ++ t.drop i) = (badB t || decide (kd b = 1)) := by
  unfold badB
  rw [List.any_append, List.any_append]
  have e : t.any (fun b => decide (kd b = 1)) = ((t.take i).any (fun b => decide (kd b = 1)) || (t.drop i).any (fun b => decide (kd b = 1))) := by
    rw [← List.any_append, List.take_append_drop]
  rw [e]
  simp only [List.any_cons, List.any_nil, Bool.or_false]
  cases (t.take i).any (fun b => decide (kd b = 1)) <;> cases (t.drop i).any (fun b => decide (kd b = 1)) <;> cases decide (kd b = 1) <;> rfl

/-- What Split answers, its error a letter. -/
theorem split_er (A : Option Addr) (N cap : Nat) (bs : List UInt8) (w : World) (hT : Txt w A N bs) (hcap : N ≤ cap) (hcm : cap ≤ 9223372036854775807) (E : Nat) (hE : (spl bs).er = E) :
    Calls Tryz.prog 52 #[.slice A N cap] w fun e w' => ∃ v L C, e = .returned (.tuple #[v, .int .u16 (E : Int), .agg #[.int .i64 L, .int .i64 C]]) ∧ WRows w' v (spl bs).rows ∧ Below w.heap.size w w' := by
  refine (split_any A N cap bs w hT hcap hcm).mono ?_
  rintro e w' ⟨v, rfl, hr, g⟩
  rw [hE]
  exact ⟨v, _, _, rfl, hr, g⟩

end Go.Proofs.YtckaiejbgnhgcaaGreatDoor.Wd.Ws
namespace Go.Proofs.YtckaiejbgnhgcaaGreatDoor.Wd.Ws
open Go Go.RowKit
set_option linter.unusedVariables false
set_option maxRecDepth 100000
set_option linter.unusedSimpArgs false

/-- A word of rows of words. -/
theorem WRows.word {w : World} {v : Value} {wss : List (List Wo)} (h : WRows w v wss) {k j : Nat} {ws : List Wo} {x : Wo} (hk : wss[k]? = some ws) (hx : ws[j]? = some x) :
    ∃ g c h d, v = .slice (some ⟨g, 0, none⟩) wss.length c ∧ w.cell? ⟨g, k, none⟩ = some (.slice (some ⟨h, 0, none⟩) ws.length d) ∧ (k < wss.length ∧ j < ws.length) ∧
      w.cell? ⟨h, j * 3, none⟩ = some (.string (str x.1)) ∧ w.cell? ⟨h, j * 3 + 1, none⟩ = some (.int .i64 (x.2.1 : Int)) ∧ w.cell? ⟨h, j * 3 + 2, none⟩ = some (.int .i64 (x.2.2 : Int)) := by
  have hk' : k < wss.length := (List.getElem?_eq_some_iff.1 hk).1
  have hj' : j < ws.length := (List.getElem?_eq_some_iff.1 hx).1
  obtain ⟨g, c, rfl, _, hrow⟩ := h.form (by omega)
  obtain ⟨u, hu, hr⟩ := hrow k ws hk
  obtain ⟨h', d, rfl, _, hw⟩ := hr.form (by omega)
  exact ⟨g, c, h', d, rfl, hu, ⟨hk', hj'⟩, hw j x hx⟩
theorem cnt_take (l : List UInt8) (k : Nat) (h : k < l.length) : cnt (l.take (k + 1)) = cnt (l.take k) + (if l.getD k 0 = 10 then 1 else 0) := by
  rw [List.take_add_one, cnt_app, List.getD_eq_getElem?_getD, List.getElem?_eq_getElem h]
  by_cases e : l[k] = 10
  · simp [cnt, e]
  · simp [cnt, e]
theorem below_drewN {N : Nat} {w a : World} (h : Below N w a) (n : Nat) : Below N w (a.drewN n) := ⟨h.os, h.tape, h.output, h.size, h.block⟩
theorem er_if (p : Bool) : (if p = true then 20 else 0) = if p then 20 else 0 := rfl

end Go.Proofs.YtckaiejbgnhgcaaGreatDoor.Wd.Ws
namespace Go.Proofs.YtckaiejbgnhgcaaGreatDoor.Wd.Ws
open Go Go.RowKit
set_option linter.unusedVariables false
set_option maxRecDepth 100000
set_option linter.unusedSimpArgs false

/-- A row of rows of words. -/
theorem WRows.row {w : World} {v : Value} {wss : List (List Wo)} (h : WRows w v wss) {k : Nat} {ws : List Wo} (hk : wss[k]? = some ws) (hne : ws ≠ []) :
    ∃ g c h d, v = .slice (some ⟨g, 0, none⟩) wss.length c ∧ w.cell? ⟨g, k, none⟩ = some (.slice (some ⟨h, 0, none⟩) ws.length d) ∧ (k < wss.length ∧ 0 < ws.length ∧ ws.length ≤ 9223372036854775807) ∧
      ∀ j x, ws[j]? = some x → w.cell? ⟨h, j * 3, none⟩ = some (.string (str x.1)) ∧ w.cell? ⟨h, j * 3 + 1, none⟩ = some (.int .i64 (x.2.1 : Int)) ∧ w.cell? ⟨h, j * 3 + 2, none⟩ = some (.int .i64 (x.2.2 : Int)) := by
  have hk' : k < wss.length := (List.getElem?_eq_some_iff.1 hk).1
  obtain ⟨g, c, rfl, _, hrow⟩ := h.form (by omega)
  obtain ⟨u, hu, hr⟩ := hrow k ws hk
  obtain ⟨h', d, rfl, _, hw⟩ := hr.form (List.length_pos_iff.2 hne)
  have hcap := own_caps hr
  exact ⟨g, c, h', d, rfl, hu, ⟨hk', List.length_pos_iff.2 hne, by omega⟩, hw⟩

end Go.Proofs.YtckaiejbgnhgcaaGreatDoor.Wd.Ws
namespace Go.Proofs.YtckaiejbgnhgcaaGreatDoor.Wd.Ws
open Go Go.RowKit
set_option linter.unusedVariables false
set_option maxRecDepth 100000
set_option linter.unusedSimpArgs false

/-- A part of a text. -/
def part (bs : List UInt8) (fr k : Nat) : List UInt8 := (bs.drop fr).take (k - fr)
theorem part_len {bs : List UInt8} {fr k : Nat} (h : fr ≤ k) (hk : k ≤ bs.length) : (part bs fr k).length = k - fr := by
  unfold part; rw [List.length_take, List.length_drop]; omega
theorem part_at {bs : List UInt8} {fr k j : Nat} (hj : j < k - fr) : (part bs fr k).getD j 0 = bs.getD (fr + j) 0 := by
  unfold part
  simp only [List.getD_eq_getElem?_getD, List.getElem?_take, if_pos hj, List.getElem?_drop]
theorem part_cut {bs : List UInt8} {fr k j L : Nat} (h : j + L ≤ k - fr) : ((part bs fr k).drop j).take L = (bs.drop (fr + j)).take L := by
  unfold part
  rw [List.drop_take, List.take_take, List.drop_drop]
  congr 1
  omega
theorem bad_mem {bs : List UInt8} (h : badB bs = false) {b : UInt8} (hb : b ∈ bs) : kd b ≠ 1 := by
  intro e
  have : badB bs = true := List.any_eq_true.2 ⟨b, hb, decide_eq_true e⟩
  rw [h] at this; cases this
theorem part_ok {bs : List UInt8} {fr k : Nat} (hb : badB bs = false) (hk : k ≤ bs.length) (h10 : ∀ j, fr ≤ j → j < k → bs.getD j 0 ≠ 10) : okL (part bs fr k) := by
  intro b hm
  have hm2 : b ∈ bs := List.mem_of_mem_drop (List.mem_of_mem_take hm)
  obtain ⟨j, hj, e⟩ := List.mem_iff_getElem.1 hm
  have hl : j < k - fr := by unfold part at hj; rw [List.length_take, List.length_drop] at hj; omega
  have e2 := part_at (bs := bs) hl
  rw [List.getD_eq_getElem?_getD, List.getElem?_eq_getElem hj] at e2
  simp only [Option.getD_some] at e2
  rw [e] at e2
  rcases aut_ways b with h | h | h | h
  · exact absurd h (bad_mem hb hm2)
  · exact .inl h
  · exact absurd ((kd_three b).1 h) (by rw [e2]; exact h10 _ (by omega) (by omega))
  · exact .inr h
theorem bad_drop {bs : List UInt8} (h : badB bs = false) (k : Nat) : badB (bs.drop k) = false := by
  have e : badB bs = (badB (bs.take k) || badB (bs.drop k)) := by rw [← bad_app, List.take_append_drop]
  rw [e, Bool.or_eq_false_iff] at h
  exact h.2
/-- A line's end. -/
theorem line_step {bs : List UInt8} {X : List (List Wo)} {nx fr nn k : Nat} (hb : badB bs = false) (hfr : fr ≤ k) (hk : k ≤ bs.length) (h10 : ∀ j, fr ≤ j → j < k → bs.getD j 0 ≠ 10) (hend : k = bs.length ∨ bs.getD k 0 = 10)
    (hX : X.drop nx = rowsN (bs.drop fr) nn) :
    (line0 (part bs fr k) nn = [] ∧ X.drop nx = rowsN (bs.drop (k + 1)) (nn + 1)) ∨ (line0 (part bs fr k) nn ≠ [] ∧ X[nx]? = some (line0 (part bs fr k) nn) ∧ X.drop (nx + 1) = rowsN (bs.drop (k + 1)) (nn + 1)) := by
  have hok := part_ok hb hk h10
  have e : rowsN (bs.drop fr) nn = flush (line0 (part bs fr k) nn) [] ++ rowsN (bs.drop (k + 1)) (nn + 1) := by
    rcases Nat.lt_or_ge k bs.length with hlt | hge
    · have h1 : bs.getD k 0 = 10 := hend.resolve_left (by omega)
      have h2 : bs.drop fr = part bs fr k ++ 10 :: bs.drop (k + 1) := by
        rw [← h1, ← drop_at hlt]
        have := (List.take_append_drop (k - fr) (bs.drop fr)).symm
        rw [List.drop_drop, show fr + (k - fr) = k by omega] at this
        exact this
      rw [h2, rows_line _ _ _ hok (bad_drop hb _)]
    · have hkl : k = bs.length := by omega
      have h2 : bs.drop fr = part bs fr k := by
        unfold part
        rw [List.take_of_length_le (by rw [List.length_drop]; omega)]
      rw [h2, rows_last _ _ hok, List.drop_eq_nil_of_le (by omega)]
      have : rowsN [] (nn + 1) = [] := rfl
      rw [this, List.append_nil]
  rw [e] at hX
  generalize line0 (part bs fr k) nn = ws at *
  unfold flush at hX
  by_cases h : ws = []
  · rw [if_pos h, List.nil_append] at hX
    exact .inl ⟨h, hX⟩
  · rw [if_neg h] at hX
    simp only [List.nil_append, List.singleton_append] at hX
    refine .inr ⟨h, ?_, ?_⟩
    · have := congrArg (fun l => l[0]?) hX
      simpa using this
    · have := congrArg (List.drop 1) hX
      rw [List.drop_drop] at this
      simpa using this
/-- What is told of a byte that may not be. -/
theorem spl_bad {bs : List UInt8} (h : bs.length ≤ 1048576) (hb : badB bs = true) : (spl bs).er = 20 ∧ 1 ≤ (spl bs).ln ∧ 1 ≤ (spl bs).cl ∧ (spl bs).rows = [] := by
  have h1 := spl_er bs h
  rw [if_pos hb] at h1
  refine ⟨h1, ?_⟩
  unfold spl at h1 ⊢
  rw [if_neg (by omega)] at h1 ⊢
  exact aut_place bs _ _ _ _ _ (by omega) (by omega) (by omega)
theorem spl_good {bs : List UInt8} (h : bs.length ≤ 1048576) (hb : badB bs = false) : (spl bs).er = 0 ∧ (spl bs).rows = rowsN bs 1 := by
  have h1 := spl_er bs h
  rw [if_neg (by rw [hb]; decide)] at h1
  refine ⟨h1, ?_⟩
  unfold spl rowsN
  rw [if_neg (by omega)]

theorem txt_cell {w : World} {b off N : Nat} {bs : List UInt8} (h : Txt w (some ⟨b, off, none⟩) N bs) {k : Nat} (hk : k < N) : w.cell? ⟨b, off + k, none⟩ = some (.int .u8 ((bs.getD k 0).toNat : Int)) := by
  obtain ⟨b', off', e, _, hc⟩ := h.2 (by omega)
  simp only [Option.some.injEq, Addr.mk.injEq] at e
  obtain ⟨rfl, rfl, _⟩ := e
  exact hc k hk
theorem bslice_mid (b off n cap i j : Nat) (h : i ≤ j) (hj : j ≤ cap) (hi : i < cap) (W : World) : (Instr.slice 22 (.slice (some ⟨b, off, none⟩) n cap) (some (.int .i64 (i : Int))) (some (.int .i64 (j : Int))) none).run Tryz.prog W = .ok (.slice (some ⟨b, off + i, none⟩) (j - i) (cap - i)) W := by
  obtain ⟨i0, hz, hz0, hz1, hz2⟩ := info_parts infoByte
  have hne : ¬ cap = i := by omega
  simp [go_sem, Tryz.underlying22, sizeOf, typeInfo, hz, hz1, h, hj, sliced, hne, Go.WideShapes.add_plain]
theorem u8_ten {x : UInt8} (h : x ≠ 10) : ¬ ((x.toNat : Int) = 10) := fun e => h (UInt8.toNat_inj.1 (by show _ = 10; omega))


/-- The rounds of every loop of a text of code, an outer one ahead of those in it. -/
def loopsOf : Code → List Code
  | .loop c => c :: loopsOf c
  | .block _ c => loopsOf c
  | .scope c => loopsOf c
  | .seq c d => loopsOf c ++ loopsOf d
  | .cond _ c d => loopsOf c ++ loopsOf d
  | _ => []
end Go.Proofs.YtckaiejbgnhgcaaGreatDoor.Wd.Ws
namespace Go.Proofs.YtckaiejbgnhgcaaGreatDoor.Wd.Ws
open Go Go.RowKit
set_option linter.unusedVariables false
set_option maxRecDepth 100000
set_option linter.unusedSimpArgs false

/-! ### Plain -/
theorem aut_stray : ∀ (s : List UInt8) (b : UInt8) (r : List UInt8) (m : Mo) (n c : Nat) (line : List Wo) (lines : List (List Wo)), okL s → kd b = 1 → aut (s ++ b :: r) m n c line lines = .bad n (c + s.length)
  | [], b, r, m, n, c, line, lines, _, hb => by rw [List.nil_append, aut_1 hb]; rfl
  | x :: t, b, r, m, n, c, line, lines, hs, hb => by
    have ht : okL t := fun y hy => hs y (List.mem_cons_of_mem _ hy)
    rw [List.cons_append, List.length_cons, show c + (t.length + 1) = c + 1 + t.length by omega]
    rcases hs x List.mem_cons_self with h | h
    · rw [aut_2 h, aut_stray t b r _ _ _ _ _ ht hb]
    · rw [aut_v h, aut_stray t b r _ _ _ _ _ ht hb]
theorem part_more {bs : List UInt8} {fr k : Nat} (h : fr ≤ k) (hk : k < bs.length) : bs.drop fr = part bs fr k ++ bs.getD k 0 :: bs.drop (k + 1) := by
  rw [← drop_at hk]
  have := (List.take_append_drop (k - fr) (bs.drop fr)).symm
  rw [List.drop_drop, show fr + (k - fr) = k by omega] at this
  exact this
theorem part_all {bs : List UInt8} {fr : Nat} : bs.drop fr = part bs fr bs.length := by
  unfold part
  rw [List.take_of_length_le (by rw [List.length_drop]; omega)]
theorem part_ok_succ {bs : List UInt8} {fr k : Nat} (h : fr ≤ k) (hk : k < bs.length) (hs : okL (part bs fr k)) (hb : kd (bs.getD k 0) = 2 ∨ vs (bs.getD k 0) = true) : okL (part bs fr (k + 1)) := by
  have e : part bs fr (k + 1) = part bs fr k ++ [bs.getD k 0] := by
    have h1 := part_more h hk
    have h2 : part bs fr (k + 1) = (bs.drop fr).take (k + 1 - fr) := rfl
    rw [h2, h1, List.take_append, part_len h (by omega), List.take_of_length_le (by rw [part_len h (by omega)]; omega), show k + 1 - fr - (k - fr) = 1 by omega]
    rfl
  rw [e]
  intro b hm
  rcases List.mem_append.1 hm with hm | hm
  · exact hs b hm
  · simp at hm; subst hm; exact hb
theorem part_none (bs : List UInt8) (k : Nat) : okL (part bs k k) := by
  unfold part
  rw [Nat.sub_self, List.take_zero]
  intro b hb
  cases hb
/-- What is met at a place of a text whose line goes on. -/
theorem step_nl {bs : List UInt8} {fr k nn : Nat} {acc : List (List Wo)} (h : fr ≤ k) (hk : k < bs.length) (hs : okL (part bs fr k)) (h10 : bs.getD k 0 = 10) : aut (bs.drop fr) .gap nn 1 [] acc = aut (bs.drop (k + 1)) .gap (nn + 1) 1 [] (flush (line0 (part bs fr k) nn) acc) := by
  rw [part_more h hk, h10, aut_line _ _ _ _ _ _ _ hs]; rfl
theorem step_fin {bs : List UInt8} {fr nn : Nat} {acc : List (List Wo)} (hs : okL (part bs fr bs.length)) : aut (bs.drop fr) .gap nn 1 [] acc = .ok (flush (line0 (part bs fr bs.length) nn) acc) := by
  rw [part_all, aut_last _ _ _ _ _ _ hs]; rfl
theorem step_bad {bs : List UInt8} {fr k nn : Nat} {acc : List (List Wo)} (h : fr ≤ k) (hk : k < bs.length) (hs : okL (part bs fr k)) (hb : kd (bs.getD k 0) = 1) : aut (bs.drop fr) .gap nn 1 [] acc = .bad nn (k - fr + 1) := by
  rw [part_more h hk, aut_stray _ _ _ _ _ _ _ _ hs hb, part_len h (by omega), Nat.add_comm]

/-! ### A part of a row of bytes -/
theorem bslice_part (A : Option Addr) (n cap i j : Nat) (h : i ≤ j) (hj : j ≤ n) (hn : n ≤ cap) : ∃ A', (∀ W : World, (Instr.slice 22 (.slice A n cap) (some (.int .i64 (i : Int))) (some (.int .i64 (j : Int))) none).run Tryz.prog W = .ok (.slice A' (j - i) (cap - i)) W) ∧
    ∀ (W : World) (l : List UInt8), Txt W A n l → Txt W A' (j - i) (part l i j) := by
  obtain ⟨i0, hz, hz0, hz1, hz2⟩ := info_parts infoByte
  refine ⟨if cap = i then A else A.map (·.add (i * 1)), fun W => ?_, fun W l hl => ?_⟩
  · have hjc : j ≤ cap := by omega
    simp [go_sem, Tryz.underlying22, sizeOf, typeInfo, hz, hz1, h, hjc, sliced]
  · refine ⟨part_len h (by rw [hl.1]; exact hj), fun h0 => ?_⟩
    obtain ⟨b, off, rfl, hb, hc⟩ := hl.2 (by omega)
    rw [if_neg (by omega)]
    refine ⟨b, off + i, by simp [Go.WideShapes.add_plain], hb, fun k hk => ?_⟩
    rw [Nat.add_assoc, hc (i + k) (by omega), part_at hk]

/-! ### What holds in every round -/
structure RInv (w0 W : World) (acc : List (List Wo)) (v : Value) : Prop where
  below : Below w0.heap.size w0 W
  lt : w0.heap.size < W.heap.size
  place : R2 W w0.heap.size (.int .i64 0) (.int .i64 0)
  rows : ∃ us, W.ownsRow (w0.heap.size + 1) 86 1 v acc.length us ∧ Each W (w0.heap.size + 1) W.heap.size us acc
theorem RInv.grow {w0 W W' : World} {acc : List (List Wo)} {v : Value} (h : RInv w0 W acc v) (g : Below W.heap.size W W') : RInv w0 W' acc v := by
  obtain ⟨us, h1, h2⟩ := h.rows
  have hlt := h.lt
  have hsz := g.size
  exact ⟨kbq h.below g, by omega, h.place.below g hlt, us, own_below h1 g, h2.imp fun u ws hu hk => ⟨own_below hu g, fun k e => by have := hk k e; omega⟩⟩
theorem RInv.out {w0 W W' : World} {acc : List (List Wo)} {v : Value} (h : RInv w0 W acc v) (g : W.grownBy W' (some w0.heap.size)) : WRows W' v acc := by
  obtain ⟨us, h1, h2⟩ := h.rows
  exact ⟨us, own_mono (own_but h1 g (by omega)) (Nat.zero_le _), h2.imp fun u ws hu hk => ⟨own_mono (own_but hu g (by omega)) (Nat.zero_le _), fun k e => by have := hk k e; have := g.size; omega⟩⟩
theorem RInv.push {w0 W W' : World} {acc : List (List Wo)} {v vL v' : Value} {line : List Wo} {us : List Value} (h : RInv w0 W acc v) (hL : WRow W (w0.heap.size + 1) vL line)
    (h3 : W.ownsRow (w0.heap.size + 1) 86 1 v acc.length us) (h5 : Each W (w0.heap.size + 1) W.heap.size us acc)
    (own : W'.ownsRow (w0.heap.size + 1) 86 1 v' (acc.length + 1) (us ++ [vL])) (g : W.grownBy W' v.ownBlock) : RInv w0 W' (acc ++ [line]) v' := by
  have hlt := h.lt
  have hb : Below (w0.heap.size + 1) W W' := (Below.refl _ W).grown g (by omega) (own_block h3)
  have hsz := g.size
  have hvL := hL.kept g (own_apart hL h3 (by decide))
  refine ⟨h.below.trans (hb.mono (by omega)), by omega, h.place.below hb (by omega), us ++ [vL], ?_, ?_⟩
  · rw [List.length_append]; exact own
  · refine Each.push (h5.imp fun u ws hu hk => ⟨hu.kept g (own_apart hu h3 (by decide)), fun k e => by have := hk k e; omega⟩) ⟨hvL, ?_, fun k e => (hvL.lt k e).2⟩
    obtain ⟨A, c', e⟩ := own_slice hL; rw [e]; rfl
end Go.Proofs.YtckaiejbgnhgcaaGreatDoor.Wd.Ws
namespace Go.Proofs.YtckaiejbgnhgcaaGreatDoor.Wd.Ws
open Go Go.RowKit
set_option linter.unusedVariables false
set_option maxRecDepth 100000
set_option linter.unusedSimpArgs false

set_option maxRecDepth 100000 in
set_option maxHeartbeats 4000000 in
theorem rsplit_any (A : Option Addr) (N cap : Nat) (bs : List UInt8) (w : World) (hT : Txt w A N bs) (hN : N ≤ 1048576) (hcap : N ≤ cap) (hcm : cap ≤ 9223372036854775807) :
    Calls Tryz.prog 46 #[.slice A N cap] w fun e w' => ∃ v, e = .returned (.tuple #[v, .int .i64 ((spl bs).er : Int), .agg #[.int .i64 ((spl bs).ln : Int), .int .i64 ((spl bs).cl : Int)]]) ∧ WRows w' v (spl bs).rows ∧ Below w.heap.size w w' := by
  have e : spl bs = aut bs .gap 1 1 [] [] := if_neg (by rw [hT.1]; omega)
  rw [e]
  obtain ⟨R, hR⟩ : ∃ R, aut bs .gap 1 1 [] [] = R := ⟨_, rfl⟩
  rw [hR]
  have hN' : ¬ (1048576 : Int) < (N : Int) := by omega
  obtain ⟨j0, jz, jz0, jz1, jz2⟩ := info_parts infoRow
  have HT := Lib.hid hT
  have hbl := hT.1
  have HR := Lib.hid hR
  clear hT e hR
  go_enter Tryz.func46, Tryz.ntmps46
  go_wp2
  have hI0 : RInv w (w.alloc (.cells #[.int .i64 0, .int .i64 0] 44)) [] (.slice none 0 0) := ⟨(Below.refl _ w).alloc (Nat.le_refl _) _, by simp, ⟨⟨by simp, by simp⟩, by simp, by simp⟩, [], World.ownsRow_nil _ _ _ _, trivial⟩
  go_loopw [5, 6, 7, 8] (fun v n f i wr => ∃ (nn fr k : Nat) (acc : List (List Wo)), (nn ≤ k + 1 ∧ fr ≤ k ∧ k ≤ N + 1 ∧ acc.length ≤ k) ∧ n = .int .i64 (nn : Int) ∧ f = .int .i64 (fr : Int) ∧ i = .int .i64 (k : Int) ∧ Hid (k ≤ N → aut (bs.drop fr) .gap nn 1 [] acc = R ∧ okL (part bs fr k)) ∧ Hid (k = N + 1 → R = .ok acc) ∧ Hid (RInv w wr acc v)) (fun _ _ _ i _ => N + 1 - (intOf i).toNat)
  case atStart => exact ⟨1, 0, 0, [], ⟨by omega, by omega, by omega, Nat.le_refl _⟩, rfl, rfl, rfl, Lib.hid (fun _ => ⟨HR.out, part_none bs 0⟩), Lib.hid (fun h => by omega), Lib.hid hI0⟩
  case round =>
    obtain ⟨nn, fr, k, acc, hb4, rfl, rfl, rfl, HA, HZ, HI⟩ := hrel
    by_cases hkN : k ≤ N
    · have HA1 := Lib.hid (HA.out hkN)
      by_cases hcont : k < N ∧ bs.getD k 0 ≠ 10
      · obtain ⟨b, off, rfl, hbb, hcell⟩ := (HT.out.below HI.out.below).2 (by omega)
        have hx := hcell k hcont.1
        have hx10 := u8_ten hcont.2
        have hn10 := Lib.hid hcont.2
        have hklt := hcont.1
        have hy256 : (bs.getD k 0).toNat < 256 := (bs.getD k 0).toNat_lt
        have RB := Lib.hid (fun W => rblank_any (bs.getD k 0) W)
        clear hcell hcont
        by_cases h1 : kd (bs.getD k 0) = 1
        · have hR2 : R = .bad nn (k - fr + 1) := (HA1.out.1).symm.trans (step_bad hb4.2.1 (by omega) HA1.out.2 h1)
          subst hR2
          have hbad := (kd_bad _).1 h1
          rw [decide_eq_false (by omega)] at RB
          obtain ⟨⟨p0, p1⟩, p2, p3⟩ := HI.out.place
          generalize (bs.getD k 0).toNat = y at *
          have hkf : (k : Int) - (fr : Int) + 1 = ((k - fr + 1 : Nat) : Int) := by omega
          have HKF := Lib.hid hkf
          clear hkf h1
          by_cases h33 : y < 33
          · have d33 : ((y : Int) < 33) := by omega
            clear hbad
            go_wp2_with ((go_at_call 67; ((with_reducible refine (RB.out _).mono ?_); rintro e w2 ⟨rfl, rfl⟩)))
            have gp := put_place wr w.heap.size (.int .i64 (nn : Int)) (.int .i64 ((k : Int) - (fr : Int) + 1))
            refine bodyPost_ret (v := .tuple #[.slice none 0 0, .int .i64 20, .agg #[.int .i64 (nn : Int), .int .i64 ((k : Int) - (fr : Int) + 1)]]) ?_ rfl ⟨_, (by rw [HKF.out]; rfl), WRows.nil _, HI.out.below.trans (but_below' gp (by have := HI.out.lt; omega))⟩
            simp [results, Tryz.results46, go_sem, p0, p1, cell_set]
          · have d33 : decide ((y : Int) < 33) = false := decide_eq_false (by omega)
            have d126 : (126 : Int) < (y : Int) := by omega
            clear hbad
            go_wp2_with ((go_at_call 67; ((with_reducible refine (RB.out _).mono ?_); rintro e w2 ⟨rfl, rfl⟩)))
            have gp := put_place wr w.heap.size (.int .i64 (nn : Int)) (.int .i64 ((k : Int) - (fr : Int) + 1))
            refine bodyPost_ret (v := .tuple #[.slice none 0 0, .int .i64 20, .agg #[.int .i64 (nn : Int), .int .i64 ((k : Int) - (fr : Int) + 1)]]) ?_ rfl ⟨_, (by rw [HKF.out]; rfl), WRows.nil _, HI.out.below.trans (but_below' gp (by have := HI.out.lt; omega))⟩
            simp [results, Tryz.results46, go_sem, p0, p1, cell_set]
        · have hw : kd (bs.getD k 0) = 2 ∨ vs (bs.getD k 0) = true := by
            rcases aut_ways (bs.getD k 0) with h | h | h | h
            · exact absurd h h1
            · exact .inl h
            · exact absurd ((kd_three _).1 h) hn10.out
            · exact .inr h
          have HOK := Lib.hid (part_ok_succ hb4.2.1 (by omega) HA1.out.2 hw)
          have HA2 : Hid (k + 1 ≤ N → aut (bs.drop fr) .gap nn 1 [] acc = R ∧ okL (part bs fr (k + 1))) := Lib.hid (fun _ => ⟨HA1.out.1, HOK.out⟩)
          by_cases h2 : kd (bs.getD k 0) = 2
          · rw [decide_eq_true h2] at RB
            clear h1 hw h2
            generalize (bs.getD k 0).toNat = y at *
            go_wp2_with ((go_at_call 67; ((with_reducible refine (RB.out _).mono ?_); rintro e w2 ⟨rfl, rfl⟩)))
            go_roundw
            case rel => exact ⟨nn, fr, k + 1, acc, by omega, rfl, rfl, by go_num, HA2, Lib.hid (fun h => by omega), HI⟩
            case measure => simp [intOf]; omega
          · rw [decide_eq_false h2] at RB
            have hb : ¬ _ := fun e => h1 ((kd_bad (bs.getD k 0)).2 e)
            have h32 : ¬ ((bs.getD k 0).toNat = 32) := fun e => h2 ((kd_two _).2 (.inl (UInt8.toNat_inj.1 e)))
            have h9 : ¬ ((bs.getD k 0).toNat = 9) := fun e => h2 ((kd_two _).2 (.inr (UInt8.toNat_inj.1 e)))
            clear h1 hw h2
            generalize (bs.getD k 0).toNat = y at *
            have d33 : decide ((y : Int) < 33) = false := decide_eq_false (by omega)
            have d126 : decide ((126 : Int) < (y : Int)) = false := decide_eq_false (by omega)
            clear hb h32 h9
            go_wp2_with ((go_at_call 67; ((with_reducible refine (RB.out _).mono ?_); rintro e w2 ⟨rfl, rfl⟩)))
            go_roundw
            case rel => exact ⟨nn, fr, k + 1, acc, by omega, rfl, rfl, by go_num, HA2, Lib.hid (fun h => by omega), HI⟩
            case measure => simp [intOf]; omega
      · have hend : (k < N ∧ bs.getD k 0 = 10) ∨ ¬ k < N := by
          by_cases h : k < N
          · left
            refine ⟨h, ?_⟩
            by_cases h' : bs.getD k 0 = 10
            · exact h'
            · exact absurd ⟨h, h'⟩ hcont
          · right; exact h
        obtain ⟨A1, hs1, ht1⟩ := bslice_part A N cap fr k hb4.2.1 hkN hcap
        have KL := Lib.hid (rline_any A1 (k - fr) (cap - fr) (part bs fr k) nn wr (ht1 wr bs (HT.out.below HI.out.below)) (by omega) (by omega) (by omega) HA1.out.2 (by omega))
        have HN : Hid (k + 1 ≤ N → aut (bs.drop (k + 1)) .gap (nn + 1) 1 [] (flush (line0 (part bs fr k) nn) acc) = R) := Lib.hid (fun h => by
          rcases hend with h2 | h2
          · exact (step_nl hb4.2.1 (by omega) HA1.out.2 h2.2).symm.trans HA1.out.1
          · omega)
        have HL : Hid (k + 1 = N + 1 → R = .ok (flush (line0 (part bs fr k) nn) acc)) := Lib.hid (fun h => by
          have hk : k = bs.length := by omega
          subst hk
          exact HA1.out.1.symm.trans (step_fin HA1.out.2))
        have hreg : (¬ k < N ∧ decide ((k : Int) < (N : Int)) = false) ∨ (k < N ∧ ∃ b off, A = some ⟨b, off, none⟩ ∧ wr.cell? ⟨b, off + k, none⟩ = some (.int .u8 10)) := by
          rcases hend with h | h
          · refine .inr ⟨h.1, ?_⟩
            obtain ⟨b, off, e, hbb, hcell⟩ := (HT.out.below HI.out.below).2 (by omega)
            have := hcell k h.1
            rw [h.2] at this
            exact ⟨b, off, e, this⟩
          · exact .inl ⟨h, decide_eq_false (by omega)⟩
        clear hcont hend HA HA1 HZ ht1
        generalize line0 (part bs fr k) nn = line at *
        rcases hreg with ⟨hkn, hkd⟩ | ⟨hkn, b, off, rfl, hx10⟩
        · skip
          go_wp2_with ((go_at_call 68; ((with_reducible refine KL.out.mono ?_); rintro e w2 ⟨v2, rfl, r2, g2⟩; obtain ⟨A2, c2, rfl⟩ := r2.slice; refine stopHere ?_)))
          unfold Stop
          have HI2 := Lib.hid (HI.out.grow g2)
          have HW2 := Lib.hid (own_mono r2 (by have := HI.out.lt; omega) : WRow w2 (w.heap.size + 1) _ _)
          clear r2 g2
          by_cases hne : line = []
          · subst hne
            have HF := Lib.hid (show flush [] acc = acc from if_pos rfl)
            simp only [List.length_nil]
            go_wp2
            go_roundw
            case rel => exact ⟨nn + 1, k + 1, k + 1, acc, by omega, by go_num, by go_num, by go_num, Lib.hid (fun h => ⟨by have := HN.out h; rw [HF.out] at this; exact this, part_none bs _⟩), Lib.hid (fun h => by have := HL.out h; rw [HF.out] at this; exact this), HI2⟩
            case measure => simp [intOf]; omega
          · have HF := Lib.hid (show flush line acc = acc ++ [line] from if_neg hne)
            have dl : (0 : Int) < (line.length : Int) := by have := List.length_pos_iff.2 hne; omega
            obtain ⟨us, o1, o2⟩ := HI2.out.rows
            have HO1 := Lib.hid o1
            have HO2 := Lib.hid o2
            clear hne o1 o2
            go_wp2_with ((at_builtin; refine stopHere ?_))
            unfold Stop
            have g0 := (Below.refl _ w2).alloc (Nat.le_refl _) (.cells #[.slice A2 line.length c2] 86)
            refine wpList_append_own _ rfl _ _ 83 rfl (w.heap.size + 1) 86 j0 (.slice none 0 0) 1 24 Tryz.underlying83 jz jz0 jz1 jz2 rfl (by decide) _ acc.length _ rfl (own_below HO1.out g0) ⟨w2.heap.size, 0, none⟩ 1 1 [.slice A2 line.length c2] rfl rfl (one_cell w2 _ _) (by simp [Value.oneCell']) (by unfold maxLen; omega) (by omega) (by have := g0.size; have := HI2.out.lt; omega) ?_
            intro v3 w3 own3 grow3 _
            have HI3 := Lib.hid ((HI2.out.grow g0).push (own_below HW2.out g0) (own_below HO1.out g0) (HO2.out.imp fun u ws hu hk => ⟨own_below hu g0, fun k e => Nat.lt_of_lt_of_le (hk k e) g0.size⟩) own3 grow3)
            clear own3 grow3 HO1 HO2 HI2 HI HW2
            go_wp2
            go_roundw
            case rel => exact ⟨nn + 1, k + 1, k + 1, acc ++ [line], by simp; omega, by go_num, by go_num, by go_num, Lib.hid (fun h => ⟨by have := HN.out h; rw [HF.out] at this; exact this, part_none bs _⟩), Lib.hid (fun h => by have := HL.out h; rw [HF.out] at this; exact this), HI3⟩
            case measure => simp [intOf]; omega
        · skip
          go_wp2_with ((go_at_call 68; ((with_reducible refine KL.out.mono ?_); rintro e w2 ⟨v2, rfl, r2, g2⟩; obtain ⟨A2, c2, rfl⟩ := r2.slice; refine stopHere ?_)))
          unfold Stop
          have HI2 := Lib.hid (HI.out.grow g2)
          have HW2 := Lib.hid (own_mono r2 (by have := HI.out.lt; omega) : WRow w2 (w.heap.size + 1) _ _)
          clear r2 g2
          by_cases hne : line = []
          · subst hne
            have HF := Lib.hid (show flush [] acc = acc from if_pos rfl)
            simp only [List.length_nil]
            go_wp2
            go_roundw
            case rel => exact ⟨nn + 1, k + 1, k + 1, acc, by omega, by go_num, by go_num, by go_num, Lib.hid (fun h => ⟨by have := HN.out h; rw [HF.out] at this; exact this, part_none bs _⟩), Lib.hid (fun h => by have := HL.out h; rw [HF.out] at this; exact this), HI2⟩
            case measure => simp [intOf]; omega
          · have HF := Lib.hid (show flush line acc = acc ++ [line] from if_neg hne)
            have dl : (0 : Int) < (line.length : Int) := by have := List.length_pos_iff.2 hne; omega
            obtain ⟨us, o1, o2⟩ := HI2.out.rows
            have HO1 := Lib.hid o1
            have HO2 := Lib.hid o2
            clear hne o1 o2
            go_wp2_with ((at_builtin; refine stopHere ?_))
            unfold Stop
            have g0 := (Below.refl _ w2).alloc (Nat.le_refl _) (.cells #[.slice A2 line.length c2] 86)
            refine wpList_append_own _ rfl _ _ 83 rfl (w.heap.size + 1) 86 j0 (.slice none 0 0) 1 24 Tryz.underlying83 jz jz0 jz1 jz2 rfl (by decide) _ acc.length _ rfl (own_below HO1.out g0) ⟨w2.heap.size, 0, none⟩ 1 1 [.slice A2 line.length c2] rfl rfl (one_cell w2 _ _) (by simp [Value.oneCell']) (by unfold maxLen; omega) (by omega) (by have := g0.size; have := HI2.out.lt; omega) ?_
            intro v3 w3 own3 grow3 _
            have HI3 := Lib.hid ((HI2.out.grow g0).push (own_below HW2.out g0) (own_below HO1.out g0) (HO2.out.imp fun u ws hu hk => ⟨own_below hu g0, fun k e => Nat.lt_of_lt_of_le (hk k e) g0.size⟩) own3 grow3)
            clear own3 grow3 HO1 HO2 HI2 HI HW2
            go_wp2
            go_roundw
            case rel => exact ⟨nn + 1, k + 1, k + 1, acc ++ [line], by simp; omega, by go_num, by go_num, by go_num, Lib.hid (fun h => ⟨by have := HN.out h; rw [HF.out] at this; exact this, part_none bs _⟩), Lib.hid (fun h => by have := HL.out h; rw [HF.out] at this; exact this), HI3⟩
            case measure => simp [intOf]; omega
    · obtain rfl : k = N + 1 := by omega
      have hR2 := HZ.out rfl
      subst hR2
      obtain ⟨⟨p0, p1⟩, p2, p3⟩ := HI.out.place
      clear HA HZ
      have dk : decide (((N + 1 : Nat) : Int) ≤ (N : Int)) = false := decide_eq_false (by omega)
      go_wp2
      have gp := put_place wr w.heap.size (.int .i64 0) (.int .i64 0)
      refine bodyPost_ret (v := .tuple #[_, .int .i64 0, .agg #[.int .i64 0, .int .i64 0]]) ?_ rfl ⟨_, rfl, HI.out.out gp, HI.out.below.trans (but_below' gp (by have := HI.out.lt; omega))⟩
      simp [results, Tryz.results46, go_sem, p0, p1, cell_set]
end Go.Proofs.YtckaiejbgnhgcaaGreatDoor.Wd.Ws
namespace Go.Proofs.YtckaiejbgnhgcaaGreatDoor.Wd.Ws
open Go.RowKit
set_option linter.unusedVariables false
set_option maxRecDepth 100000

/-- A word that may be joined. -/
def VisW (x : List UInt8) : Prop := x ≠ [] ∧ ∀ b ∈ x, vs b = true
/-- A line that may be joined. -/
def LineP (row : List (List UInt8)) : Prop := row ≠ [] ∧ (∀ x ∈ row, VisW x) ∧ ∀ x, row[0]? = some x → x.getD 0 0 ≠ 35
/-- Words, each with its place. -/
def wpos (n : Nat) : Nat → Bool → List (List UInt8) → List Wo
  | _, _, [] => []
  | c, b, x :: r => (x, n, c + (if b then 1 else 0)) :: wpos n (c + (if b then 1 else 0) + x.length) true r
def placed : Nat → List (List (List UInt8)) → List (List Wo)
  | _, [] => []
  | n, row :: r => wpos n 1 false row :: placed (n + 1) r
theorem while_vis : ∀ (x r : List UInt8), (∀ b ∈ x, vs b = true) → (∀ b t, r = b :: t → vs b = false) → (x ++ r).takeWhile vs = x ∧ (x ++ r).dropWhile vs = r
  | [], r, _, hr => by
    cases r with
    | nil => exact ⟨rfl, rfl⟩
    | cons b t =>
      have := hr b t rfl
      rw [List.nil_append, List.takeWhile_cons, List.dropWhile_cons, if_neg (by rw [this]; decide), if_neg (by rw [this]; decide)]
      exact ⟨rfl, rfl⟩
  | a :: x, r, hx, hr => by
    have ha := hx a List.mem_cons_self
    obtain ⟨h1, h2⟩ := while_vis x r (fun b hb => hx b (List.mem_cons_of_mem _ hb)) hr
    rw [List.cons_append, List.takeWhile_cons, List.dropWhile_cons, if_pos ha, if_pos ha, h1, h2]
    exact ⟨rfl, rfl⟩
/-- A word is gone through. -/
theorem aut_vis {x r : List UInt8} {n c : Nat} {line : List Wo} {lines : List (List Wo)} (hx : VisW x) (h0 : line = [] → x.getD 0 0 ≠ 35) (hr : ∀ b t, r = b :: t → vs b = false) :
    aut (x ++ r) .gap n c line lines = aut r .gap n (c + x.length) (line ++ [(x, n, c)]) lines := by
  obtain ⟨a, x', rfl⟩ := List.exists_cons_of_ne_nil hx.1
  have ha := hx.2 a List.mem_cons_self
  obtain ⟨h1, h2⟩ := while_vis x' r (fun b hb => hx.2 b (List.mem_cons_of_mem _ hb)) hr
  rw [List.cons_append, aut_begin ha, h1, h2]
  · rw [List.length_cons, show c + 1 + x'.length = c + (x'.length + 1) by omega]
  · intro h4 hl
    exact h0 hl ((kd_four a).1 h4)
theorem aut_jw : ∀ (row : List (List UInt8)) (t : List UInt8) (b : Bool) (n c : Nat) (line : List Wo) (lines : List (List Wo)), (∀ x ∈ row, VisW x) → (b = true → line ≠ []) → (line = [] → ∀ x, row[0]? = some x → x.getD 0 0 ≠ 35) →
    aut (jw b row ++ 10 :: t) .gap n c line lines = aut t .gap (n + 1) 1 [] (flush (line ++ wpos n c b row) lines)
  | [], t, b, n, c, line, lines, _, _, _ => by
    rw [jw, List.nil_append, aut_3 (by decide), wpos, List.append_nil]; rfl
  | x :: r, t, b, n, c, line, lines, hv, hb, h0 => by
    have hx := hv x List.mem_cons_self
    have hr : ∀ y ∈ r, VisW y := fun y hy => hv y (List.mem_cons_of_mem _ hy)
    have e : ∀ z : List UInt8, ∃ q, jw true r ++ 10 :: t = q ∧ ∀ d t', q = d :: t' → vs d = false := by
      intro z
      refine ⟨_, rfl, fun d t' hq => ?_⟩
      cases r with
      | nil => rw [jw, List.nil_append] at hq; injection hq with h1 h2; rw [← h1]; decide
      | cons y r' =>
        rw [jw, if_pos rfl] at hq
        simp only [List.cons_append, List.nil_append] at hq
        injection hq with h1 h2
        rw [← h1]; decide
    obtain ⟨q, hq, hq2⟩ := e []
    rw [jw, wpos]
    have step : aut (x ++ q) .gap n (c + (if b then 1 else 0)) line lines = aut t .gap (n + 1) 1 [] (flush (line ++ ((x, n, c + (if b then 1 else 0)) :: wpos n (c + (if b then 1 else 0) + x.length) true r)) lines) := by
      rw [aut_vis hx (fun hl => h0 hl x rfl) hq2, ← hq, aut_jw r t true n _ _ _ hr (fun _ => by simp) (fun hl => by simp at hl), List.append_assoc]
      rfl
    rw [← step]
    cases b with
    | false =>
      rw [if_neg (by decide)]
      simp only [List.nil_append, List.append_assoc, hq]
      rfl
    | true =>
      simp only [if_true, List.append_assoc, hq]
      exact aut_blanks (.inl rfl) [32] (x ++ q) n c line lines (by intro b hb; simp at hb; subst hb; decide)
theorem aut_jn : ∀ (lss : List (List (List UInt8))) (n : Nat) (L : List (List Wo)), (∀ row ∈ lss, LineP row) → aut (jn lss) .gap n 1 [] L = .ok (L ++ placed n lss)
  | [], n, L, _ => by rw [placed, List.append_nil]; rfl
  | row :: r, n, L, h => by
    have hrow := h row List.mem_cons_self
    have e : jn (row :: r) = jw false row ++ 10 :: jn r := by simp [jn]
    rw [e, aut_jw row (jn r) false n 1 [] L hrow.2.1 (fun h => by cases h) (fun _ => hrow.2.2), List.nil_append]
    have hne : wpos n 1 false row ≠ [] := by
      obtain ⟨x, r', rfl⟩ := List.exists_cons_of_ne_nil hrow.1
      rw [wpos]; simp
    have ef : flush (wpos n 1 false row) L = L ++ [wpos n 1 false row] := if_neg hne
    rw [ef, aut_jn r (n + 1) _ (fun x hx => h x (List.mem_cons_of_mem _ hx)), placed, List.append_assoc]
    rfl
theorem spl_jn (lss : List (List (List UInt8))) (h : ∀ row ∈ lss, LineP row) (hl : (jn lss).length ≤ 1048576) : spl (jn lss) = .ok (placed 1 lss) := by
  unfold spl
  rw [if_neg (by omega), aut_jn lss 1 [] h, List.nil_append]
theorem wpos_at : ∀ (row : List (List UInt8)) (n c : Nat) (b : Bool) (i : Nat) (x : List UInt8), row[i]? = some x → ∃ d, (wpos n c b row)[i]? = some (x, n, d)
  | [], n, c, b, i, x, h => by simp at h
  | y :: r, n, c, b, 0, x, h => by simp at h; subst h; exact ⟨_, rfl⟩
  | y :: r, n, c, b, i + 1, x, h => by
    obtain ⟨d, hd⟩ := wpos_at r n (c + (if b then 1 else 0) + y.length) true i x (by simpa using h)
    exact ⟨d, by rw [wpos, List.getElem?_cons_succ]; exact hd⟩
theorem wpos_len : ∀ (row : List (List UInt8)) (n c : Nat) (b : Bool), (wpos n c b row).length = row.length
  | [], n, c, b => rfl
  | y :: r, n, c, b => by rw [wpos, List.length_cons, wpos_len r, List.length_cons]
theorem placed_at : ∀ (lss : List (List (List UInt8))) (n k : Nat) (row : List (List UInt8)), lss[k]? = some row → (placed n lss)[k]? = some (wpos (n + k) 1 false row)
  | [], n, k, row, h => by simp at h
  | y :: r, n, 0, row, h => by simp at h; subst h; rfl
  | y :: r, n, k + 1, row, h => by
    rw [placed, List.getElem?_cons_succ, placed_at r (n + 1) k row (by simpa using h), show n + 1 + k = n + (k + 1) by omega]
theorem placed_len : ∀ (lss : List (List (List UInt8))) (n : Nat), (placed n lss).length = lss.length
  | [], n => rfl
  | y :: r, n => by rw [placed, List.length_cons, placed_len r, List.length_cons]

/-! ### What is split may be joined -/
def HeadOk (line : List Wo) : Prop := ∀ w, line[0]? = some w → w.1.getD 0 0 ≠ 35
def VisM (line : List Wo) : Mo → Prop
  | .wrd x _ => VisW x ∧ (line = [] → x.getD 0 0 ≠ 35)
  | _ => True
theorem shut_vis {m : Mo} {n : Nat} {line : List Wo} (hm : VisM line m) (h : ∀ w ∈ line, VisW w.1) (hh : HeadOk line) : (∀ w ∈ shutL m n line, VisW w.1) ∧ HeadOk (shutL m n line) := by
  cases m with
  | gap => exact ⟨h, hh⟩
  | rem => exact ⟨h, hh⟩
  | wrd x c =>
    refine ⟨fun w hw => ?_, fun w hw => ?_⟩
    · rcases List.mem_append.1 hw with hw | hw
      · exact h w hw
      · simp at hw; subst hw; exact hm.1
    · cases line with
      | nil => simp [shutL] at hw; subst hw; exact hm.2 rfl
      | cons y r => simp [shutL] at hw; subst hw; exact hh _ rfl
def RowP (line : List Wo) : Prop := line ≠ [] ∧ (∀ w ∈ line, VisW w.1) ∧ HeadOk line
theorem flush_vis {line : List Wo} {lines : List (List Wo)} (h : ∀ w ∈ line, VisW w.1) (hh : HeadOk line) (hs : ∀ l ∈ lines, RowP l) : ∀ l ∈ flush line lines, RowP l := by
  unfold flush
  split
  · exact hs
  · rename_i hne
    intro l hl
    rcases List.mem_append.1 hl with hl | hl
    · exact hs l hl
    · simp at hl; subst hl; exact ⟨hne, h, hh⟩
theorem aut_row : ∀ (q : List UInt8) (m : Mo) (n c : Nat) (line : List Wo) (lines : List (List Wo)), VisM line m → (∀ w ∈ line, VisW w.1) → HeadOk line → (∀ l ∈ lines, RowP l) → ∀ l ∈ (aut q m n c line lines).rows, RowP l
  | [], m, n, c, line, lines, hm, hl, hh, hs => by
    rw [aut_nil]
    obtain ⟨h1, h2⟩ := shut_vis (n := n) hm hl hh
    exact flush_vis h1 h2 hs
  | b :: t, m, n, c, line, lines, hm, hl, hh, hs => by
    rcases aut_ways b with h | h | h | h
    · rw [aut_1 h]; intro l hl; cases hl
    · rw [aut_2 h]
      obtain ⟨h1, h2⟩ := shut_vis (n := n) hm hl hh
      exact aut_row t _ _ _ _ _ (by cases m <;> exact trivial) h1 h2 hs
    · rw [aut_3 h]
      obtain ⟨h1, h2⟩ := shut_vis (n := n) hm hl hh
      exact aut_row t _ _ _ _ _ trivial (fun w hw => nomatch hw) (fun w hw => by simp at hw) (flush_vis h1 h2 hs)
    · rw [aut_v h]
      refine aut_row t _ _ _ _ _ ?_ hl hh hs
      cases m with
      | gap =>
        by_cases e : kd b = 4 ∧ line = []
        · have e1 : seen b .gap c line = .rem := if_pos e
          rw [e1]; exact trivial
        · have e1 : seen b .gap c line = .wrd [b] c := if_neg e
          rw [e1]
          refine ⟨⟨by simp, fun x hx => by simp at hx; subst hx; exact h⟩, fun hl0 hb => ?_⟩
          have : b = 35 := hb
          exact e ⟨(kd_four b).2 this, hl0⟩
      | rem => exact trivial
      | wrd x c0 =>
        refine ⟨⟨by simp, fun y hy => ?_⟩, fun hl0 => ?_⟩
        · rcases List.mem_append.1 hy with hy | hy
          · exact hm.1.2 y hy
          · simp at hy; subst hy; exact h
        · obtain ⟨a, x', rfl⟩ := List.exists_cons_of_ne_nil hm.1.1
          exact hm.2 hl0
theorem spl_row (bs : List UInt8) : ∀ l ∈ (spl bs).rows, RowP l := by
  unfold spl
  split
  · intro l hl; cases hl
  · exact aut_row bs _ _ _ _ _ trivial (fun w hw => nomatch hw) (fun w hw => by simp at hw) (fun l hl => nomatch hl)
/-- The texts of words. -/
def texts (ws : List Wo) : List (List UInt8) := ws.map (·.1)
theorem texts_ok {ws : List Wo} (h : RowP ws) : LineP (texts ws) := by
  refine ⟨by simpa [texts] using h.1, fun x hx => ?_, fun x hx => ?_⟩
  · obtain ⟨w, hw, rfl⟩ := List.mem_map.1 hx
    exact h.2.1 w hw
  · rw [texts, List.getElem?_map] at hx
    cases hw : ws[0]? with
    | none => rw [hw] at hx; cases hx
    | some w => rw [hw] at hx; cases hx; exact h.2.2 w hw

/-! ### How long what is joined is -/
def w1 : List Wo → Nat
  | [] => 0
  | x :: r => x.1.length + 1 + w1 r
def w2 : List (List Wo) → Nat
  | [] => 0
  | l :: r => w1 l + 1 + w2 r
theorem w1_app (a : List Wo) (x : Wo) : w1 (a ++ [x]) = w1 a + x.1.length + 1 := by
  induction a with
  | nil => simp [w1]
  | cons y a ih => simp [w1, ih]; omega
theorem w2_app (a : List (List Wo)) (x : List Wo) : w2 (a ++ [x]) = w2 a + w1 x + 1 := by
  induction a with
  | nil => simp [w2]
  | cons y a ih => simp [w2, ih]; omega
def wm : Mo → Nat
  | .wrd x _ => x.length + 1
  | _ => 0
theorem w1_shut (m : Mo) (n : Nat) (line : List Wo) : w1 (shutL m n line) = w1 line + wm m := by
  cases m with
  | gap => rfl
  | rem => rfl
  | wrd x c => simp only [shutL, w1_app, wm]; omega
theorem w2_flush (line : List Wo) (lines : List (List Wo)) : w2 (flush line lines) ≤ w2 lines + w1 line + (if line = [] then 0 else 1) := by
  unfold flush
  split
  · omega
  · rw [w2_app]; omega
theorem aut_w2 (K : Nat) : ∀ (q : List UInt8) (m : Mo) (n c : Nat) (line : List Wo) (lines : List (List Wo)), w2 lines + w1 line + wm m + 1 + 3 * q.length ≤ K → w2 (aut q m n c line lines).rows ≤ K
  | [], m, n, c, line, lines, h => by
    rw [aut_nil]
    have h1 := w2_flush (shutL m n line) lines
    rw [w1_shut] at h1
    show w2 (flush (shutL m n line) lines) ≤ K
    simp at h
    split at h1 <;> omega
  | b :: t, m, n, c, line, lines, h => by
    simp only [List.length_cons] at h
    rcases aut_ways b with hk | hk | hk | hk
    · rw [aut_1 hk]; exact Nat.zero_le _
    · rw [aut_2 hk]
      refine aut_w2 K t _ _ _ _ _ ?_
      rw [w1_shut]
      have : wm (blanked m) = 0 := by cases m <;> rfl
      omega
    · rw [aut_3 hk]
      refine aut_w2 K t _ _ _ _ _ ?_
      have h1 := w2_flush (shutL m n line) lines
      rw [w1_shut] at h1
      show w2 (flush (shutL m n line) lines) + 0 + 0 + 1 + 3 * t.length ≤ K
      split at h1 <;> omega
    · rw [aut_v hk]
      refine aut_w2 K t _ _ _ _ _ ?_
      have : wm (seen b m c line) ≤ wm m + 2 := by
        cases m with
        | gap =>
          unfold seen
          simp only
          split <;> simp [wm]
        | rem => simp [seen, wm]
        | wrd x c0 => simp [seen, wm]
      omega
theorem jw_len (b : Bool) (ws : List Wo) : (jw b (texts ws)).length ≤ w1 ws := by
  induction ws generalizing b with
  | nil => exact Nat.zero_le _
  | cons x r ih =>
    have := ih true
    have e : texts (x :: r) = x.1 :: texts r := rfl
    rw [e, jw, w1]
    cases b <;> simp <;> omega
theorem jn_len (wss : List (List Wo)) : (jn (wss.map texts)).length ≤ w2 wss := by
  induction wss with
  | nil => exact Nat.zero_le _
  | cons l r ih =>
    have e : jn ((l :: r).map texts) = (jw false (texts l) ++ [10]) ++ jn (r.map texts) := by simp [jn]
    have := jw_len false l
    rw [e, w2]
    simp only [List.length_append, List.length_cons, List.length_nil]
    omega
theorem spl_joined (bs : List UInt8) (h : bs.length ≤ 1000) : (jn ((spl bs).rows.map texts)).length ≤ 3001 := by
  refine Nat.le_trans (jn_len _) ?_
  unfold spl
  rw [if_neg (by omega)]
  exact aut_w2 3001 bs _ _ _ _ _ (by show 0 + 0 + 0 + 1 + 3 * bs.length ≤ 3001; omega)
end Go.Proofs.YtckaiejbgnhgcaaGreatDoor.Wd.Ws
namespace Go.Proofs.YtckaiejbgnhgcaaGreatDoor.Wd.Ws
open Go Go.RowKit
set_option linter.unusedVariables false
set_option maxRecDepth 100000
set_option linter.unusedSimpArgs false

set_option maxRecDepth 100000 in
set_option maxHeartbeats 2000000 in
theorem rjoin_any (A : Option Addr) (n cap : Nat) (lss : List (List (List UInt8))) (w : World) (h : LRows w A n lss) (hn : n ≤ 9223372036854775807) (hsz : (jn lss).length ≤ 1099511627776) :
    Calls Tryz.prog 45 #[.slice A n cap] w fun e w' => ∃ v, e = .returned v ∧ BRow w' w.heap.size v (jn lss) ∧ Below w.heap.size w w' := by
  have H := Lib.hid h
  have HS := Lib.hid hsz
  clear h
  go_enter Tryz.func45, Tryz.ntmps45
  go_wp2
  go_loopw [3, 4] (fun v i wr => ∃ k : Nat, k ≤ n ∧ i = .int .i64 (k : Int) ∧ Hid (BRow wr w.heap.size v (jn (lss.take k))) ∧ Below w.heap.size w wr) (fun _ i _ => n - (intOf i).toNat)
  case atStart => exact ⟨0, Nat.zero_le _, rfl, Lib.hid (BRow.nil _ _), Below.refl _ _⟩
  case round =>
    obtain ⟨k, hk, rfl, HO, hB⟩ := hrel
    by_cases hlt : k < n
    · obtain ⟨b, off, rfl, hb, hrow⟩ := H.out.2 (by omega)
      obtain ⟨A', c', hc, hrl, hst⟩ := hrow k hlt
      have HCW := Lib.hid (fun (W : World) (hW : Below w.heap.size w W) => (hW.cell (p := ⟨b, off + k, none⟩) hb).trans hc)
      have HJT := Lib.hid (jn_take lss k (by rw [H.out.1]; exact hlt))
      have HLE := Lib.hid (fun i hi => jn_le lss k i (by rw [H.out.1]; exact hlt) hi)
      have HST := Lib.hid hst
      clear hrow hst hc
      generalize lss.getD k [] = row at *
      generalize jn (lss.take k) = acc at *
      go_wp2
      go_loopw [3, 5] (fun v i wr2 => ∃ j : Nat, j ≤ row.length ∧ i = .int .i64 (j : Int) ∧ Hid (BRow wr2 w.heap.size v (acc ++ jw false (row.take j))) ∧ Below w.heap.size w wr2) (fun _ i _ => row.length - (intOf i).toNat)
      case atStart => exact ⟨0, Nat.zero_le _, rfl, Lib.hid (by rw [List.take_zero]; show BRow _ _ _ (acc ++ []); rw [List.append_nil]; exact HO.out), hB⟩
      case round =>
        obtain ⟨j, hj, rfl, HO2, hB2⟩ := hrel
        have hcw := HCW.out _ hB2
        by_cases hjl : j < row.length
        · obtain ⟨b2, off2, rfl, hb2, hc2⟩ := HST.out.2.2 (by omega)
          have HX := Lib.hid (fun (W : World) (hW : Below w.heap.size w W) => (hW.cell (p := ⟨b2, off2 + j, none⟩) hb2).trans (hc2 j hjl))
          have hle := HLE.out (j + 1) (by omega)
          have hjt := jw_take row j hjl
          rw [hjt] at hle
          simp only [List.length_append] at hle
          have HJW := Lib.hid hjt
          have hs := HS.out
          clear hc2 hjt
          generalize row.getD j [] = x at *
          generalize jw false (row.take j) = pre at *
          by_cases hj0 : 0 < j
          · rw [if_pos hj0] at hle
            have hj0' : decide ((0 : Int) < (j : Int)) = true := decide_eq_true (by omega)
            simp only [List.length_cons, List.length_nil] at hle
            go_wp2_with (at_builtin; refine stopHere ?_)
            unfold Stop
            have e0 := (Below.refl _ wr).alloc (Nat.le_refl _) (.cells #[.int .u8 32] 5)
            refine wpList_app_bytes _ rfl _ _ rfl w.heap.size _ (acc ++ pre) rfl (HO2.out.below e0) (some ⟨wr.heap.size, 0, none⟩) 1 1 [32] rfl (txt_one wr 32) (fun e => by cases e) (fun ad e => by cases e; rfl) (by rw [List.length_append]; omega) (kbq hB2 e0).size ?_
            intro v3 w3 own3 grow3
            have hBa : Below w.heap.size w w3 := (kbq hB2 e0).grown grow3 (kbq hB2 e0).size (own_block HO2.out)
            obtain ⟨acc2, hacc⟩ : ∃ acc2, acc ++ pre ++ [32] = acc2 := ⟨_, rfl⟩
            rw [hacc] at own3
            have HA2 := Lib.hid own3
            have hl2 : acc2.length + x.length ≤ 1099511627776 := by rw [← hacc]; simp only [List.length_append, List.length_cons, List.length_nil]; omega
            have HACC := Lib.hid (show acc ++ (pre ++ ((if 0 < j then [32] else []) ++ x)) = acc2 ++ x by rw [if_pos hj0, ← hacc]; simp)
            clear own3 grow3 hacc HO2 hcw
            go_wp2
            clear hj0'
            go_loopw [3, 6] (fun v i wr3 => ∃ m : Nat, m ≤ x.length ∧ i = .int .i64 (m : Int) ∧ Hid (BRow wr3 w.heap.size v (acc2 ++ x.take m)) ∧ Below w.heap.size w wr3) (fun _ i _ => x.length - (intOf i).toNat)
            case atStart => exact ⟨0, Nat.zero_le _, rfl, Lib.hid (by rw [List.take_zero, List.append_nil]; exact HA2.out), hBa⟩
            case round =>
              obtain ⟨m, hm, rfl, HO6, hB6⟩ := hrel
              have hcw := HCW.out _ hB6
              have hxw := HX.out _ hB6
              obtain ⟨sb, hsb⟩ : ∃ sb, str x = sb := ⟨_, rfl⟩
              have hsl : sb.size = x.length := by rw [← hsb]; rfl
              rw [hsb] at hxw
              have HSB := Lib.hid hsb
              have hjl' : (j : Int) < (row.length : Int) := by omega
              clear hsb
              by_cases hml : m < x.length
              · have hms : m < sb.size := by omega
                have HBY := Lib.hid (show sb[m] = x[m] by have := HSB.out; subst this; rfl)
                have hlm : (acc2 ++ x.take m).length ≤ 1099511627776 := by rw [List.length_append, List.length_take]; omega
                go_wp2_with (at_builtin; refine stopHere ?_)
                unfold Stop
                have e0 := (Below.refl _ wr).alloc (Nat.le_refl _) (.cells #[.int .u8 (sb[m].toNat : Int)] 5)
                refine wpList_app_bytes _ rfl _ _ rfl w.heap.size _ (acc2 ++ x.take m) rfl (HO6.out.below e0) (some ⟨wr.heap.size, 0, none⟩) 1 1 [sb[m]] rfl (txt_one wr sb[m]) (fun e => by cases e) (fun ad e => by cases e; rfl) (by omega) (kbq hB6 e0).size ?_
                intro v7 w7 own7 grow7
                have hB7 : Below w.heap.size w w7 := (kbq hB6 e0).grown grow7 (kbq hB6 e0).size (own_block HO6.out)
                have HO8 : Hid (BRow w7 w.heap.size v7 (acc2 ++ x.take (m + 1))) := Lib.hid (by
                  rw [List.take_add_one, List.getElem?_eq_getElem hml, ← List.append_assoc, ← HBY.out]
                  exact own7)
                clear own7 grow7 HO6
                go_wp2
                go_roundw
                case rel => exact ⟨m + 1, by omega, by go_num, HO8, hB7⟩
                case measure => simp [intOf]; omega
              · obtain rfl : m = x.length := by omega
                have hno : ¬ ((x.length : Int) < (sb.size : Int)) := by omega
                have hO := HO6.out
                rw [List.take_length] at hO
                have HO9 : Hid (BRow wr w.heap.size _ (acc ++ jw false (row.take (j + 1)))) := Lib.hid (by rw [HJW.out, HACC.out]; exact hO)
                clear hO HO6
                go_wp2
                go_roundw
                case rel => exact ⟨j + 1, by omega, by go_num, HO9, hB6⟩
                case measure => simp [intOf]; omega
          · have hj0' : decide ((0 : Int) < (j : Int)) = false := decide_eq_false (by omega)
            rw [if_neg (by omega)] at hle
            simp only [List.length_nil] at hle
            obtain ⟨acc2, hacc⟩ : ∃ acc2, acc ++ pre = acc2 := ⟨_, rfl⟩
            have HA2 := Lib.hid (show BRow wr w.heap.size _ acc2 by rw [← hacc]; exact HO2.out)
            have hBa := hB2
            have hl2 : acc2.length + x.length ≤ 1099511627776 := by rw [← hacc]; simp only [List.length_append]; omega
            have HACC := Lib.hid (show acc ++ (pre ++ ((if 0 < j then [32] else []) ++ x)) = acc2 ++ x by rw [if_neg (by omega), ← hacc]; simp)
            clear hacc HO2
            go_wp2
            clear hj0' hcw
            go_loopw [3, 6] (fun v i wr3 => ∃ m : Nat, m ≤ x.length ∧ i = .int .i64 (m : Int) ∧ Hid (BRow wr3 w.heap.size v (acc2 ++ x.take m)) ∧ Below w.heap.size w wr3) (fun _ i _ => x.length - (intOf i).toNat)
            case atStart => exact ⟨0, Nat.zero_le _, rfl, Lib.hid (by rw [List.take_zero, List.append_nil]; exact HA2.out), hBa⟩
            case round =>
              obtain ⟨m, hm, rfl, HO6, hB6⟩ := hrel
              have hcw := HCW.out _ hB6
              have hxw := HX.out _ hB6
              obtain ⟨sb, hsb⟩ : ∃ sb, str x = sb := ⟨_, rfl⟩
              have hsl : sb.size = x.length := by rw [← hsb]; rfl
              rw [hsb] at hxw
              have HSB := Lib.hid hsb
              have hjl' : (j : Int) < (row.length : Int) := by omega
              clear hsb
              by_cases hml : m < x.length
              · have hms : m < sb.size := by omega
                have HBY := Lib.hid (show sb[m] = x[m] by have := HSB.out; subst this; rfl)
                have hlm : (acc2 ++ x.take m).length ≤ 1099511627776 := by rw [List.length_append, List.length_take]; omega
                go_wp2_with (at_builtin; refine stopHere ?_)
                unfold Stop
                have e0 := (Below.refl _ wr).alloc (Nat.le_refl _) (.cells #[.int .u8 (sb[m].toNat : Int)] 5)
                refine wpList_app_bytes _ rfl _ _ rfl w.heap.size _ (acc2 ++ x.take m) rfl (HO6.out.below e0) (some ⟨wr.heap.size, 0, none⟩) 1 1 [sb[m]] rfl (txt_one wr sb[m]) (fun e => by cases e) (fun ad e => by cases e; rfl) (by omega) (kbq hB6 e0).size ?_
                intro v7 w7 own7 grow7
                have hB7 : Below w.heap.size w w7 := (kbq hB6 e0).grown grow7 (kbq hB6 e0).size (own_block HO6.out)
                have HO8 : Hid (BRow w7 w.heap.size v7 (acc2 ++ x.take (m + 1))) := Lib.hid (by
                  rw [List.take_add_one, List.getElem?_eq_getElem hml, ← List.append_assoc, ← HBY.out]
                  exact own7)
                clear own7 grow7 HO6
                go_wp2
                go_roundw
                case rel => exact ⟨m + 1, by omega, by go_num, HO8, hB7⟩
                case measure => simp [intOf]; omega
              · obtain rfl : m = x.length := by omega
                have hno : ¬ ((x.length : Int) < (sb.size : Int)) := by omega
                have hO := HO6.out
                rw [List.take_length] at hO
                have HO9 : Hid (BRow wr w.heap.size _ (acc ++ jw false (row.take (j + 1)))) := Lib.hid (by rw [HJW.out, HACC.out]; exact hO)
                clear hO HO6
                go_wp2
                go_roundw
                case rel => exact ⟨j + 1, by omega, by go_num, HO9, hB6⟩
                case measure => simp [intOf]; omega
        · obtain rfl : j = row.length := by omega
          have hle := HLE.out row.length (Nat.le_refl _)
          have hO2 := HO2.out
          rw [List.take_length] at hO2 hle
          have HO3 := Lib.hid hO2
          have hs := HS.out
          clear hO2 HO2
          have hnl : decide ((row.length : Int) < (row.length : Int)) = false := decide_eq_false (by omega)
          go_wp2_with (at_builtin; refine stopHere ?_)
          unfold Stop
          have e0 := (Below.refl _ wr).alloc (Nat.le_refl _) (.cells #[.int .u8 10] 5)
          refine wpList_app_bytes _ rfl _ _ rfl w.heap.size _ (acc ++ jw false row) rfl (HO3.out.below e0) (some ⟨wr.heap.size, 0, none⟩) 1 1 [10] rfl (txt_one wr 10) (fun e => by cases e) (fun ad e => by cases e; rfl) (by rw [List.length_append]; omega) (kbq hB2 e0).size ?_
          intro v3 w3 own3 grow3
          have hB3 : Below w.heap.size w w3 := (kbq hB2 e0).grown grow3 (kbq hB2 e0).size (own_block HO3.out)
          have HO5 : Hid (BRow w3 w.heap.size v3 (jn (lss.take (k + 1)))) := Lib.hid (by
            rw [HJT.out, ← List.append_assoc]
            exact own3)
          clear own3 grow3 HO3
          go_wp2
          go_roundw
          case rel => exact ⟨k + 1, by omega, by go_num, HO5, hB3⟩
          case measure => simp [intOf]; omega
    · obtain rfl : k = n := by omega
      have own := HO.out
      rw [List.take_of_length_le (by rw [H.out.1]; exact Nat.le_refl _)] at own
      go_wp2
      go_ret
      exact ⟨_, rfl, own, hB⟩
end Go.Proofs.YtckaiejbgnhgcaaGreatDoor.Wd.Ws
namespace Go.Proofs.YtckaiejbgnhgcaaGreatDoor.Wd.Ws
open Go Go.RowKit Go.Deep
set_option linter.unusedVariables false
set_option maxRecDepth 100000

theorem plain_addr {w : World} {ad : Addr} {v : Value} (h : w.cell? (ad.add 0) = some v) : ∃ b off, ad = ⟨b, off, none⟩ := by
  obtain ⟨b, off, spot⟩ := ad
  have hspot : spot = none := by simpa [Addr.add] using World.cell?_spot h
  subst hspot
  exact ⟨b, off, rfl⟩

theorem open_txt {H : Type} {enc : TypeId × Value → H} {w : World} {base : Nat} {sp : Nat → Bool} {held : Bool} {fuel : Nat} {a : Option Addr} {len cap : Nat} {x : DataW H × List MemPlace}
    (h : DataW.trod enc Tryz.prog w base sp held fuel 22 [.slice a len cap] = some x) : len ≤ cap ∧ cap ≤ 9223372036854775807 ∧ ∃ bs : List UInt8, Txt w a len bs := by
  rcases open_slice1 Tryz.underlying22 (by kernel_rfl) h with ⟨h0, _⟩ | ⟨ad, l, c, m, n, V, D, Pl, hcs, hb, hl, hm, hmm, _, hx⟩
  · simp at h0
    obtain ⟨rfl, rfl, rfl⟩ := h0
    exact ⟨Nat.le_refl _, by omega, [], rfl, fun h => by omega⟩
  · simp at hcs
    obtain ⟨rfl, rfl, rfl⟩ := hcs
    unfold maxLen at hm
    refine ⟨hl, hm, ?_⟩
    have hlm : len ≤ m := by rw [hmm]; split <;> omega
    have each : ∀ i, i < len → ∃ s : UInt8, w.cell? (ad.add i) = some (.int .u8 (s.toNat : Int)) := by
      intro i hi
      obtain ⟨h1, h2⟩ := hx i (by omega)
      obtain ⟨v, e, _, wf⟩ := DataW.trod_int Tryz.underlying5 h2
      simp at e
      rw [e] at h1
      have hv := bounds_u8 wf
      exact ⟨UInt8.ofNat v.toNat, by rw [h1]; congr 2; simp; omega⟩
    obtain ⟨q, hq⟩ := choose_lt each
    refine ⟨(List.range len).map q, by simp, fun h0 => ?_⟩
    obtain ⟨b, off, rfl⟩ := plain_addr (hq 0 h0)
    have hc := fun k (hk : k < len) => hq k hk
    simp only [Go.WideShapes.add_plain] at hc
    refine ⟨b, off, rfl, lt_of_cell (hc 0 h0), fun k hk => (hc k hk).trans ?_⟩
    simp [List.getD_eq_getElem?_getD, hk]
end Go.Proofs.YtckaiejbgnhgcaaGreatDoor.Wd.Ws
