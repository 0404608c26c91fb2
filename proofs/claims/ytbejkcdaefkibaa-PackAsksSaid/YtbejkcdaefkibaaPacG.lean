/- The document's Encode; no conditions but those that each names. -/
import Derived.Test.YtbejkcdaefkibaaPacF
namespace Go.Proofs.Ytbejkcdaefkibaa.Wd
open Go Go.RowKit Go.Shelf Go.Deep Go.Lib
set_option linter.unusedVariables false
set_option maxRecDepth 100000

theorem soB_keys (xs : List En) (j : Nat) (hj : j + 1 < xs.length) (h : ls (lb (atE xs j).1) (lb (atE xs (j + 1)).1) = false) : soB (ksE xs) = false := by
  refine soB_no j (by rw [List.length_map]; exact hj) ?_
  have e : ∀ i, (ksE xs).getD i nob = (atE xs i).1 := fun i => by
    simp only [atE, List.getD_eq_getElem?_getD, List.getElem?_map]
    cases xs[i]? <;> rfl
  rw [e, e]; exact h
theorem soB_keys_yes (xs : List En) (h : ∀ j, j + 1 < xs.length → ls (lb (atE xs j).1) (lb (atE xs (j + 1)).1) = true) : soB (ksE xs) = true := by
  rw [soB_iff]
  intro i hi
  rw [List.length_map] at hi
  have e : ∀ i, (ksE xs).getD i nob = (atE xs i).1 := fun i => by
    simp only [atE, List.getD_eq_getElem?_getD, List.getElem?_map]
    cases xs[i]? <;> rfl
  rw [e, e]; exact h i hi
theorem brow_mg (W : World) (base : Nat) (hb : base ≤ W.heap.size) : BRow (W.alloc (.cells #[.int .u8 84, .int .u8 76, .int .u8 82, .int .u8 49] 5)) base (.slice (some ⟨W.heap.size, 0, none⟩) 4 4) mg :=
  ⟨rfl, .inr ⟨W.heap.size, 4, _, rfl, hb, heap_alloc_new _ _, by decide, by unfold maxLen; decide, rfl, rfl⟩⟩
theorem Ec.rput {b : Nat} {cs : Array Value} {W wr : World} {v : Value} {acc : List UInt8} (h : Ec b cs W wr v acc) (n k : Nat) (hn : n < 18446744073709551616) (hk : k ≤ 8) (hl : acc.length ≤ 100000000) :
    Calls Try.prog 17 #[v, .int .u64 (n : Int), .int .i64 (k : Int)] wr fun e w' => ∃ v', e = .returned v' ∧ Ec b cs W w' v' (acc ++ be k n) :=
  (rput_any b v acc n k wr h.own hn hk hl h.le).mono (by rintro e w' ⟨v', rfl, o, g⟩; exact ⟨v', rfl, h.step o g⟩)
theorem Ec.one {b : Nat} {cs : Array Value} {W wr : World} {v : Value} {acc : List UInt8} (h : Ec b cs W wr v acc) (o : Obj) : Ec b cs W (wr.alloc o) v acc := h.bel ((Below.refl _ wr).alloc (Nat.le_refl _) o)
theorem Ec.app {b : Nat} {cs : Array Value} {W wr w' : World} {v v' : Value} {acc acc' : List UInt8} (h : Ec b cs W wr v acc) (o : BRow w' b v' acc') (g : wr.grownBy w' v.ownBlock) : Ec b cs W w' v' acc' := h.step o (Gr.row h.own h.le g)
theorem txt_byte (W : World) (Y : Nat) (h : Y < 256) : Txt (W.alloc (.cells #[.int .u8 (Y : Int)] 5)) (some ⟨W.heap.size, 0, none⟩) 1 [UInt8.ofNat Y] := by
  have z := txt_one W (UInt8.ofNat Y)
  rwa [show ((UInt8.ofNat Y).toNat : Int) = (Y : Int) by show ((Y % 256 : Nat) : Int) = _; omega] at z
set_option maxHeartbeats 16000000 in
theorem rencode_any (c : Nat) (A : Option Addr) (n cap : Nat) (xs : List En) (w : World) (hc : c < 18446744073709551616) (h : Ens w A n xs) (hw : wgt xs ≤ 1000000) (hu : ∀ x ∈ xs, x.2 < 18446744073709551616) :
    Calls Try.prog 7 #[snV c A n cap] w fun e w' => ∃ v, e = .returned (.tuple #[v, .int .i64 (rgE xs : Int)]) ∧ BRow w' w.heap.size v (enO c xs) ∧ Below w.heap.size w w' := by
  have hn9 := wgt_len xs
  have HL := Lib.hid h.1
  have hn : n ≤ 1000000 := by have := HL.out; omega
  have HT := Lib.hid (fun (k : Nat) => wgt_take xs k)
  have HW := Lib.hid (fun (k : Nat) (hk : k < n) => enL_step xs k (by have := h.1; omega))
  have q0 := Lib.hid (Blk.new w (snC c A n cap) Tsn)
  have k0 := Lib.hid ((Below.refl _ w).alloc (Nat.le_refl _) (.cells (snC c A n cap) Tsn))
  have H := Lib.hid (h.below k0.out)
  have H0 := Lib.hid h
  have hb0 : w.heap.size ≤ (w.alloc (.cells (snC c A n cap) Tsn)).heap.size := by simp
  clear h
  go_enter Try.func7, Try.ntmps7
  go_upto_region 1 with fail
  generalize w.alloc (.cells (snC c A n cap) Tsn) = W at *
  have x0 := q0.out.cell 0
  have x1 := q0.out.cell 1
  simp at x0 x1
  go_wp2_with fail
  go_loopw [4] (fun s4 wr => ∃ k : Nat, s4 = .int .i64 (k : Int) ∧ k ≤ n ∧ Hid (∀ j, j < k → rtB (lb (atE xs j).1) = true) ∧ wr = W) (fun s4 _ => n - (intOf s4).toNat)
  case atStart => exact ⟨0, rfl, by omega, Lib.hid (fun j hj => absurd hj (by omega)), rfl⟩
  case round =>
    obtain ⟨k, rfl, hk, D, rfl⟩ := hrel
    by_cases hlt : k < n
    · obtain ⟨b, off, rfl, hb, hcc⟩ := H.out.2 (by omega)
      obtain ⟨c0, c1⟩ := hcc k hlt
      have hkx := key_size (atE_mem (xs := xs) (k := k) (by rw [HL.out]; exact hlt)) hw
      obtain ⟨r, hr⟩ : ∃ r, r = rtB (lb (atE xs k).1) := ⟨_, rfl⟩
      have CR := Lib.hid (fun W' => rright_any (atE xs k).1 W' (by omega))
      rw [← hr] at CR
      have HR := Lib.hid hr
      have HN := Lib.hid (fun (g : rtB (lb (atE xs k).1) = false) => (show rgE xs = 12 ∧ enO c xs = [] by
        have e : rgE xs = 12 := by unfold rgE; rw [allR_no (atE_mem (by have := HL.out; omega)) g]; rfl
        exact ⟨e, by unfold enO; rw [if_neg (by omega)]⟩))
      obtain ⟨ky, hky⟩ : ∃ ky, ky = (atE xs k).1 := ⟨_, rfl⟩
      rw [← hky] at c0 hkx CR
      clear hcc hky hr c1
      cases r with
      | true =>
        go_wp2_with (go_at_call 16; refine (CR.out _).mono ?_; rintro e w1 ⟨rfl, rfl⟩)
        go_roundw
        case rel =>
          refine ⟨k + 1, by go_num, by omega, Lib.hid (fun j hj => ?_), by first | rfl | trivial⟩
          by_cases e : j = k
          · subst e; exact HR.out.symm
          · exact D.out j (by omega)
        case measure => simp [intOf]; omega
      | false =>
        obtain ⟨e1, e2⟩ := HN.out HR.out.symm
        clear HN
        go_wp2_with (go_at_call 16; refine (CR.out _).mono ?_; rintro e w1 ⟨rfl, rfl⟩)
        refine bodyPost_ret (v := .tuple #[.slice none 0 0, .int .i64 12]) ?_ rfl ⟨_, by rw [e1]; rfl, by rw [e2]; exact BRow.nil _ _, k0.out⟩
        simp [results, Try.results7, go_sem]
    · obtain rfl : k = n := by omega
      have hall : Hid (allR xs = true) := Lib.hid (allR_yes (fun j hj => D.out j (by have := HL.out; omega)))
      clear D
      go_wp2_with fail
      go_loopw [5] (fun s5 wx => ∃ p : Nat, s5 = .int .i64 ((p : Int) + 1) ∧ Hid (p < k ∨ p = 0) ∧ Hid (∀ j, j < p → ls (lb (atE xs j).1) (lb (atE xs (j + 1)).1) = true) ∧ Drew wr wx) (fun s5 _ => k - (intOf s5).toNat)
      case atStart => exact ⟨0, rfl, Lib.hid (.inr rfl), Lib.hid (fun j hj => absurd hj (by omega)), Drew.refl _⟩
      case round =>
        obtain ⟨p, rfl, Q, D, hd⟩ := hrel
        have q2 := Lib.hid (q0.out.below hd.kept.2)
        have H2 := Lib.hid (H.out.below hd.kept.2)
        clear x0 x1
        have x0 := q2.out.cell 0
        have x1 := q2.out.cell 1
        simp at x0 x1
        by_cases hpk : p + 1 < k
        · obtain ⟨b, off, rfl, hb, hcc⟩ := H2.out.2 (by omega)
          have c0 := (hcc p (by omega)).1
          have d0 := (hcc (p + 1) hpk).1
          have hs0 := key_size (atE_mem (xs := xs) (k := p) (by rw [HL.out]; omega)) hw
          have hs1 := key_size (atE_mem (xs := xs) (k := p + 1) (by rw [HL.out]; omega)) hw
          obtain ⟨r, hr⟩ : ∃ r, r = ls (lb (atE xs p).1) (lb (atE xs (p + 1)).1) := ⟨_, rfl⟩
          have LL := Lib.hid (fun W' => rless_any (atE xs p).1 (atE xs (p + 1)).1 W' (by omega) (by omega))
          rw [← hr] at LL
          have HR := Lib.hid hr
          have HN := Lib.hid (fun (g : ls (lb (atE xs p).1) (lb (atE xs (p + 1)).1) = false) => (show rgE xs = 42 ∧ enO c xs = [] by
            have e : rgE xs = 42 := by unfold rgE; rw [hall.out, soB_keys xs p (by rw [HL.out]; exact hpk) g]; rfl
            exact ⟨e, by unfold enO; rw [if_neg (by omega)]⟩))
          obtain ⟨k1, hk1⟩ : ∃ k1, k1 = (atE xs p).1 := ⟨_, rfl⟩
          obtain ⟨k2, hk2⟩ : ∃ k2, k2 = (atE xs (p + 1)).1 := ⟨_, rfl⟩
          rw [← hk1, ← hk2] at LL
          rw [← hk1] at c0
          rw [← hk2] at d0
          have hw1 : IntKind.i64.wrap (p : Int) = (p : Int) := by rw [IntKind.wrap_i64]; omega
          have hp0 : (0 : Int) ≤ (p : Int) := by omega
          have hpn : p < k := by omega
          have hpn' : (p : Int) < (k : Int) := by omega
          have hqn' : (p : Int) + 1 < (k : Int) := by omega
          have hq0 : (0 : Int) ≤ (p : Int) + 1 := by omega
          clear hcc hk1 hk2 hr hs0 hs1
          cases r with
          | true =>
            go_wp2_with fail
            go_quiet ((go_at_call 15; exact Calls.quiet_of (LL.out _)))
            go_wp2
            go_roundw
            case rel =>
              refine ⟨p + 1, by go_num, Lib.hid (.inl hpk), Lib.hid (fun j hj => ?_), hd.trans ⟨_, rfl⟩⟩
              by_cases e : j = p
              · subst e; exact HR.out.symm
              · exact D.out j (by omega)
            case measure => simp [intOf]; omega
          | false =>
            obtain ⟨e1, e2⟩ := HN.out HR.out.symm
            clear HN
            go_wp2_with fail
            go_quiet ((go_at_call 15; exact Calls.quiet_of (LL.out _)))
            go_wp2
            refine bodyPost_ret (v := .tuple #[.slice none 0 0, .int .i64 42]) ?_ rfl ⟨_, by rw [e1]; rfl, by rw [e2]; exact BRow.nil _ _, kbq (kbq k0.out hd.kept.2) ((Drew.kept ⟨_, rfl⟩).2)⟩
            simp [results, Try.results7, go_sem]
        · have hsb : soB (ksE xs) = true := soB_keys_yes xs (fun j hj => D.out j (by have := HL.out; omega))
          have hrg : rgE xs = 0 := by unfold rgE; rw [hall.out, hsb]; rfl
          have HO : Hid (enO c xs = enB c xs) := Lib.hid (by unfold enO; rw [if_pos hrg])
          have hkk := hrg
          have K2 := Lib.hid (kbq k0.out hd.kept.2)
          clear D hsb
          generalize wr = W0 at *
          have hbw : w.heap.size ≤ W0.heap.size := K2.out.size
          have hbl : w.heap.size < W0.heap.size := q2.out.lt
          have x0a : (W0.alloc (.cells #[.int .u8 84, .int .u8 76, .int .u8 82, .int .u8 49] 5)).cell? ⟨w.heap.size, 0, none⟩ = some (.int .u64 (c : Int)) := acell x0
          have E0 := Lib.hid (show Ec w.heap.size (snC c A k cap) W0 (W0.alloc (.cells #[.int .u8 84, .int .u8 76, .int .u8 82, .int .u8 49] 5)) (.slice (some ⟨W0.heap.size, 0, none⟩) 4 4) mg from
            ⟨brow_mg W0 _ hbw, q2.out.alloc _, Gr.of ((Below.refl _ W0).alloc (Nat.le_refl _) _) hbw, by simp; omega⟩)
          go_upto_region 12 with (go_at_call 17; refine (E0.out.rput c 8 hc (by decide) (by decide)).mono ?_; rintro e w2 ⟨v2, rfl, E1⟩)
          replace E1 := Lib.hid E1
          clear E0 x0 x1 q2
          have x1 := E1.out.blk.cell 1
          simp at x1
          have hwn : IntKind.u64.wrap (k : Int) = (k : Int) := by rw [IntKind.wrap_u64]; omega
          go_upto_region 13 with (go_at_call 17; refine (E1.out.rput k 4 (by omega) (by decide) (by rw [List.length_append, be_len]; decide)).mono ?_; rintro e w3 ⟨v3, rfl, E2⟩)
          replace E2 := Lib.hid E2
          clear E1 x1 hwn
          have HLN := Lib.hid (fun (j : Nat) => (show (mg ++ be 8 c ++ be 4 k ++ enL (xs.take j)).length ≤ 1000016 by
            rw [List.length_append, List.length_append, List.length_append, be_len, be_len, enL_len]; have := HT.out j; show 4 + 8 + 4 + _ ≤ _; omega))
          go_wp2_with fail
          go_loopw [6, 7, 8] (fun s6 s7 s8 wx => ∃ (j : Nat) (v p : Value), s6 = v ∧ s7 = .int .i64 (j : Int) ∧ s8 = p ∧ j ≤ k ∧ Ec w.heap.size (snC c A k cap) W0 wx v (mg ++ be 8 c ++ be 4 k ++ enL (xs.take j))) (fun _ s7 _ _ => k - (intOf s7).toNat)
          case atStart => exact ⟨0, _, _, rfl, rfl, rfl, by omega, by have z := E2.out; rw [List.take_zero, show enL [] = [] from rfl, List.append_nil]; exact z⟩
          case round =>
            obtain ⟨j, v, p', rfl, rfl, rfl, hj, E⟩ := hrel
            generalize wr = W1 at *
            have x1 := E.blk.cell 1
            simp at x1
            by_cases hjk : j < k
            · obtain ⟨b, off, rfl, hb, hcc⟩ := H0.out.2 (by omega)
              have SRC := Lib.hid (fun wy (gy : Below w.heap.size w wy) => S2.below (hcc j hjk) gy)
              have hkm := atE_mem (xs := xs) (k := j) (by rw [HL.out]; exact hjk)
              have hkx := key_size hkm hw
              have hux := hu _ hkm
              have HWk := Lib.hid (HW.out j hjk)
              have hln := HLN.out j
              clear hcc hkm
              generalize hX : atE xs j = x at *
              generalize hAC : mg ++ be 8 c ++ be 4 k ++ enL (xs.take j) = ac at *
              have HAC := Lib.hid hAC
              obtain ⟨s, u⟩ := x
              dsimp only at hkx HWk hux
              obtain ⟨c0, c1⟩ := SRC.out _ (K2.out.trans E.gr.below)
              dsimp only at c0 c1
              obtain ⟨Y, hY⟩ : ∃ Y, Y = s.size % 256 := ⟨_, rfl⟩
              have hYb : Y < 256 := by rw [hY]; exact Nat.mod_lt _ (by decide)
              have hy1 : (s.size : Int) % 256 = (Y : Int) := by omega
              have hbe : be 1 s.size = [UInt8.ofNat Y] := by
                rw [be_one]; congr 1; apply UInt8.toNat_inj.1; show s.size % 256 = Y % 256; omega
              have HBE := Lib.hid hbe
              have F0 := Lib.hid (E.one (.cells #[.int .u8 (Y : Int)] 5))
              have TY := Lib.hid (txt_byte W1 Y hYb)
              have hlb := F0.out.le
              clear hX hAC HW HLN HT H H0 hu hY hbe E
              go_upto_region 17 with (refine wpList_app_bytes _ rfl _ _ rfl w.heap.size _ ac rfl F0.out.own (some ⟨W1.heap.size, 0, none⟩) 1 1 [UInt8.ofNat Y] rfl TY.out (fun e => by cases e) (fun ad e => by cases e; rfl) (by omega) hlb ?_; intro v5 w5 o5 g5)
              have F1 := F0.out.app o5 g5
              rw [← HBE.out] at F1
              replace F1 := Lib.hid F1
              clear F0 o5 g5 TY hlb x1 c0 c1
              have hl1 : (ac ++ be 1 s.size).length ≤ 1000017 := by rw [List.length_append, be_len]; omega
              go_wp2_with fail
              go_loopw [6, 8] (fun s6 s8 wx => ∃ (i : Nat) (v : Value), s6 = v ∧ s8 = .int .i64 (i : Int) ∧ i ≤ s.size ∧ Ec w.heap.size (snC c (some ⟨b, off, none⟩) k cap) W0 wx v (ac ++ be 1 s.size ++ (lb s).take i)) (fun _ s8 _ => s.size - (intOf s8).toNat)
              case atStart => exact ⟨0, _, rfl, rfl, by omega, by have z := F1.out; rw [List.take_zero, List.append_nil]; exact z⟩
              case round =>
                obtain ⟨i, v7, rfl, rfl, hi, E⟩ := hrel
                generalize wr = W2 at *
                have x1 := E.blk.cell 1
                simp at x1
                obtain ⟨c0, c1⟩ := SRC.out _ (K2.out.trans E.gr.below)
                dsimp only at c0 c1
                have hl2 : (ac ++ be 1 s.size ++ (lb s).take i).length ≤ 2000017 := by rw [List.length_append, List.length_take, list_size]; omega
                by_cases his : i < s.size
                · have HNX : Hid (ac ++ be 1 s.size ++ (lb s).take i ++ [s[i]] = ac ++ be 1 s.size ++ (lb s).take (i + 1)) := Lib.hid (by
                    rw [List.append_assoc (ac ++ be 1 s.size), List.take_add_one, List.getElem?_eq_getElem (by rw [list_size]; exact his), list_at s i his]; rfl)
                  have F2 := Lib.hid (E.one (.cells #[.int .u8 (s[i].toNat : Int)] 5))
                  have TY := Lib.hid (txt_one W2 s[i])
                  have hlb := F2.out.le
                  clear E
                  go_wp2_with (refine wpList_app_bytes _ rfl _ _ rfl w.heap.size _ (ac ++ be 1 s.size ++ (lb s).take i) rfl F2.out.own (some ⟨W2.heap.size, 0, none⟩) 1 1 [s[i]] rfl TY.out (fun e => by cases e) (fun ad e => by cases e; rfl) (by omega) hlb ?_; intro v8 w8 o8 g8)
                  go_roundw
                  case rel => exact ⟨i + 1, _, rfl, by go_num, by omega, by have z := F2.out.app o8 g8; rw [HNX.out] at z; exact z⟩
                  case measure => simp [intOf]; omega
                · obtain rfl : i = s.size := by omega
                  rw [List.take_of_length_le (by rw [list_size]; exact Nat.le_refl _)] at E hl2
                  have F3 := Lib.hid E
                  clear E
                  go_upto_region 15 with (go_at_call 17; refine (F3.out.rput u 8 hux (by decide) (by omega)).mono ?_; rintro e w9 ⟨v9, rfl, E9⟩)
                  go_wp2
                  go_roundw
                  case rel =>
                    refine ⟨j + 1, _, _, rfl, by go_num, rfl, by omega, ?_⟩
                    rw [HWk.out, ← List.append_assoc, HAC.out]
                    have z : ac ++ enE (s, u) = ac ++ be 1 s.size ++ lb s ++ be 8 u := by simp [enE]
                    rw [z]; exact E9
                  case measure => simp [intOf]; omega
            · obtain rfl : j = k := by omega
              rw [List.take_of_length_le (by rw [HL.out]; exact Nat.le_refl _)] at E
              have hE : mg ++ be 8 c ++ be 4 j ++ enL xs = enO c xs := by rw [HO.out, enB, HL.out]
              rw [hE] at E
              clear hE HLN HW H0 H
              have KE := Lib.hid (K2.out.trans E.gr.below)
              go_wp2
              refine bodyPost_ret (v := .tuple #[_, .int .i64 0]) ?_ rfl ⟨_, by rw [hrg]; rfl, E.own, KE.out⟩
              simp [results, Try.results7, go_sem]
end Go.Proofs.Ytbejkcdaefkibaa.Wd
