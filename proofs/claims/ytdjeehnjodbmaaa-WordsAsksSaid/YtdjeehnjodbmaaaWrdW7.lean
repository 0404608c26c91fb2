/- tollerlaw10.WordsAsks answers true, for any row of bytes, any row of rows of texts that a machine can hold, and any choices; no conditions but those that each names. -/
import Derived.Test.YtdjeehnjodbmaaaWrdU3
import Derived.Test.YtdjeehnjodbmaaaWrdU4
namespace Go.Proofs.Ytdjeehnjodbmaaa.Wd
open Go Go.RowKit
set_option linter.unusedVariables false
set_option linter.unusedSimpArgs false

/-- Bytes that were built, asked and told as a text. -/
theorem BRow.pack {W : World} {base : Nat} {v : Value} {t : List UInt8} (h : BRow W base v t) (hl : t.length ≤ 1048576) : ∃ B d, v = .slice B t.length d ∧
    Hid (∀ W', Below W.heap.size W W' → Calls Try.prog 10 #[.slice B t.length d] W' fun e w' => e = .returned (.bool true) ∧ Below W'.heap.size W' w') ∧
    Hid (∀ W', Below W.heap.size W W' → (convert 22 9 (.slice B t.length d)).run Try.prog W' = .ok (.string (str t)) W') := by
  obtain ⟨B, d, rfl, hd, hT, _, _⟩ := h.form2
  exact ⟨B, d, rfl, Lib.hid fun W' hW => asks_any B _ d t W' (hT.below hW) hl hd.1 hd.2, Lib.hid fun W' hW => all_str (hT.below hW) d⟩

set_option maxRecDepth 100000 in
set_option maxHeartbeats 2000000 in
theorem wordsAsks_any (A : Option Addr) (N cap : Nat) (bs : List UInt8) (L : Option Addr) (n cap1 : Nat) (lss : List (List (List UInt8))) (C : Option Addr) (M cap2 : Nat) (cs : List UInt8) (w : World)
    (hT : Txt w A N bs) (hcap : N ≤ cap) (hcm : cap ≤ 9223372036854775807) (h : LRows w L n lss) (hn : n ≤ 140737488355328) (hfit : ∀ row ∈ lss, Fit row) (hC : Txt w C M cs) (hM : M ≤ 9223372036854775807) :
    Calls Try.prog 3 #[.slice A N cap, .slice L n cap1, .slice C M cap2] w fun e w' => e = .returned (.bool true) ∧ Below w.heap.size w w' := by
  have C0 := Lib.hid known_any
  have H := Lib.hid h
  have HF := Lib.hid hfit
  have K1 := Lib.hid (fun (W : World) (hW : Below w.heap.size w W) (hN : N ≤ 1048576) => asks_any A N cap bs W (hT.below hW) hN hcap hcm)
  have K2 := Lib.hid (fun (W : World) (hW : Below w.heap.size w W) => text_any C M cap2 cs W (hC.below hW) hM)
  have K3 := Lib.hid (fun (W : World) (hW : Below w.heap.size w W) (hs : (jn lss).length ≤ 1099511627776) => join_any L n cap1 lss W (h.below hW) (by omega) hs)
  have K4 := Lib.hid (fun (W : World) (hW : Below w.heap.size w W) (hs : (jn lss).length ≤ 1099511627776) => rjoin_any L n cap1 lss W (h.below hW) (by omega) hs)
  have hlen := tx_len cs
  clear hT h hfit hC
  go_enter Try.func3, Try.ntmps3
  go_wp2
  go_loopw [7, 8] (fun t i wr => ∃ T k : Nat, k ≤ n ∧ t = .int .i64 (T : Int) ∧ i = .int .i64 (k : Int) ∧ Hid (T ≤ 1000 → T = N + wt (lss.take k)) ∧ T ≤ 9223372036854775807 ∧ w = wr) (fun _ i _ => n - (intOf i).toNat)
  case atStart => exact ⟨N, 0, Nat.zero_le _, rfl, rfl, Lib.hid (fun _ => rfl), by omega, by first | rfl | trivial⟩
  case round =>
    obtain ⟨T, k, hk, rfl, rfl, HT, hTb, hw⟩ := hrel
    subst hw
    by_cases hlt : k < n
    · by_cases hT1 : T ≤ 1000
      · obtain ⟨b, off, rfl, hb, hrow⟩ := H.out.2 (by omega)
        obtain ⟨A', c', hc, hl', hS⟩ := hrow k hlt
        have hkl : k < lss.length := by rw [H.out.1]; exact hlt
        have hmem : lss.getD k [] ∈ lss := by rw [List.getD_eq_getElem?_getD, List.getElem?_eq_getElem hkl]; exact List.getElem_mem _
        obtain ⟨hf1, hf2⟩ := HF.out _ hmem
        have HWT := Lib.hid (wt_take hkl)
        have HF2 := Lib.hid hf2
        have HS := Lib.hid hS
        clear hrow hS hmem hf2 hkl
        generalize lss.getD k [] = row at *
        have hT1' : decide ((T : Int) ≤ 1000) = true := decide_eq_true (by omega)
        have hlt' : decide ((k : Int) < (n : Int)) = true := decide_eq_true (by omega)
        go_wp2
        go_loopw [7, 9] (fun t i wr => ∃ T2 j : Nat, j ≤ row.length ∧ t = .int .i64 (T2 : Int) ∧ i = .int .i64 (j : Int) ∧ Hid (T2 ≤ 1000 → T2 = T + (1 + row.length) + wsum (row.take j)) ∧ T2 ≤ 1407374883553280 ∧ w = wr) (fun _ i _ => row.length - (intOf i).toNat)
        case atStart => exact ⟨T + (1 + row.length), 0, Nat.zero_le _, by go_num, rfl, Lib.hid (fun _ => rfl), by omega, by first | rfl | trivial⟩
        case round =>
          obtain ⟨T2, j, hj, rfl, rfl, HT2, hT2b, hw⟩ := hrel
          subst hw
          by_cases hjl : j < row.length
          · by_cases hT3 : T2 ≤ 1000
            · obtain ⟨b', off', rfl, hb', hcell⟩ := HS.out.2.2 (by omega)
              have hx := hcell j hjl
              have hfx : (row.getD j []).length ≤ 140737488355328 := HF2.out _ (by rw [List.getD_eq_getElem?_getD, List.getElem?_eq_getElem hjl]; exact List.getElem_mem _)
              have HWS := Lib.hid (wsum_take hjl)
              generalize row.getD j [] = x at *
              obtain ⟨sb, hsb⟩ : ∃ sb, str x = sb := ⟨_, rfl⟩
              have hsz : sb.size = x.length := by rw [← hsb]; rfl
              rw [hsb] at hx
              clear hcell hsb
              have hT3' : decide ((T2 : Int) ≤ 1000) = true := decide_eq_true (by omega)
              have hjl' : decide ((j : Int) < (row.length : Int)) = true := decide_eq_true (by omega)
              go_wp2
              go_roundw
              case rel => exact ⟨T2 + x.length, j + 1, by omega, by go_num, by go_num, Lib.hid (fun h5 => by have := HT2.out hT3; rw [HWS.out]; omega), by omega, by first | rfl | trivial⟩
              case measure => simp [intOf]; omega
            · have hT3' : decide ((T2 : Int) ≤ 1000) = false := decide_eq_false (by omega)
              have hjl' : decide ((j : Int) < (row.length : Int)) = true := decide_eq_true (by omega)
              go_wp2
              go_roundw
              case rel => exact ⟨T2, k + 1, by omega, rfl, by go_num, Lib.hid (fun h5 => absurd h5 hT3), by omega, by first | rfl | trivial⟩
              case measure => simp [intOf]; omega
          · obtain rfl : j = row.length := by omega
            have hjl' : decide ((row.length : Int) < (row.length : Int)) = false := decide_eq_false (by omega)
            have hto := HT2.out
            rw [List.take_length] at hto
            have HTO := Lib.hid hto
            clear hto
            go_wp2
            go_roundw
            case rel => exact ⟨T2, k + 1, by omega, rfl, by go_num, Lib.hid (fun h5 => by have h6 := HTO.out h5; have h7 := HT.out hT1; rw [HWT.out]; omega), by omega, by first | rfl | trivial⟩
            case measure => simp [intOf]; omega
      · have hT1' : decide ((T : Int) ≤ 1000) = false := decide_eq_false (by omega)
        have hT2' : decide ((1000 : Int) < (T : Int)) = true := decide_eq_true (by omega)
        have hlt' : decide ((k : Int) < (n : Int)) = true := decide_eq_true (by omega)
        go_wp2_with ((go_at_call 9; (refine (C0.out _).mono ?_); rintro e w1 ⟨rfl, g1⟩))
        go_ret
        exact ⟨rfl, g1⟩
    · obtain rfl : k = n := by omega
      by_cases hT1 : T ≤ 1000
      · have hT2' : decide ((1000 : Int) < (T : Int)) = false := decide_eq_false (by omega)
        have hto := HT.out hT1
        rw [← H.out.1, List.take_length] at hto
        have hj := jn_len lss
        have hj1 : (jn lss).length ≤ 1000 := by omega
        have hN1 : N ≤ 1000 := by omega
        clear hto hj HT
        go_wp2_with ((go_at_call 9; (refine (C0.out _).mono ?_); rintro e w1 ⟨rfl, g1⟩))
        have kW := g1
        have hN2 : N ≤ 1048576 := by omega
        have hjs : (jn lss).length ≤ 1099511627776 := by omega
        have hjs2 : (jn lss).length ≤ 1048576 := by omega
        have htx : (tx cs).length ≤ 1048576 := by omega
        have he := beq_self_eq_true (str (jn lss)).toList
        clear g1 hT2' hlen hj1 hN1 hT1 hTb hlt hk
        go_wp2
        go_region_with (first
          | (go_at_call 10; (first | with_reducible refine (K1.out _ kW hN2).mono ?_ | with_reducible refine (K1.out _ kW.drew hN2).mono ?_); (rintro e w2 ⟨rfl, g⟩); (first | with_reducible (replace kW := kbq kW g) | with_reducible (replace kW := kbq kW.drew g)); clear g)
          | (go_at_call 11; (first | with_reducible refine (K2.out _ kW).mono ?_ | with_reducible refine (K2.out _ kW.drew).mono ?_); (rintro e w3 ⟨v3, rfl, r3, g⟩); (first | with_reducible (replace kW := kbq kW g) | with_reducible (replace kW := kbq kW.drew g)); clear g; (obtain ⟨B3, d3, rfl, P3, V3⟩ := r3.pack htx); clear r3 V3)
          | (go_at_call 10; (first | with_reducible refine (P3.out _ (Below.refl _ _)).mono ?_ | with_reducible refine (P3.out _ (Below.refl _ _).drew).mono ?_); (rintro e w4 ⟨rfl, g⟩); (first | with_reducible (replace kW := kbq kW g) | with_reducible (replace kW := kbq kW.drew g)); clear g P3)
          | (go_at_call 12; (first | with_reducible refine (K3.out _ kW hjs).mono ?_ | with_reducible refine (K3.out _ kW.drew hjs).mono ?_); (rintro e w5 ⟨v5, rfl, r5, g⟩); (first | with_reducible (replace kW := kbq kW g) | with_reducible (replace kW := kbq kW.drew g)); clear g; (obtain ⟨B5, d5, rfl, P5, V5⟩ := r5.pack hjs2); clear r5; (have cv5 := V5.out _ (Below.refl _ _)); (have cv6 := V5.out _ (Below.refl _ _).drew))
          | (go_at_call 10; (first | with_reducible refine (P5.out _ (Below.refl _ _)).mono ?_ | with_reducible refine (P5.out _ (Below.refl _ _).drew).mono ?_); (rintro e w6 ⟨rfl, g⟩); (first | with_reducible (replace kW := kbq kW g) | with_reducible (replace kW := kbq kW.drew g)); clear g P5 V5 cv5 cv6)
          | (go_at_call 13; (first | with_reducible refine (K4.out _ kW hjs).mono ?_ | with_reducible refine (K4.out _ kW.drew hjs).mono ?_); (rintro e w7 ⟨v7, rfl, r7, g⟩); (first | with_reducible (replace kW := kbq kW g) | with_reducible (replace kW := kbq kW.drew g)); (obtain ⟨B7, d7, rfl, P7, V7⟩ := r7.pack hjs2); clear r7 P7; (have cv7 := V7.out _ (Below.refl _ _)); (have cv8 := V7.out _ (Below.refl _ _).drew); (first | with_reducible (have y5 := kbq (Below.refl _ _) g) | with_reducible (have y5 := kbq (Below.refl _ _).drew g)); (have cv9 := V5.out _ y5); (have cv0 := V5.out _ y5.drew); clear g))
        all_goals go_wp2
        all_goals go_ret
        all_goals first | exact ⟨rfl, kW⟩ | exact ⟨rfl, kW.drew⟩
      · have hT2' : decide ((1000 : Int) < (T : Int)) = true := decide_eq_true (by omega)
        go_wp2_with ((go_at_call 9; (refine (C0.out _).mono ?_); rintro e w1 ⟨rfl, g1⟩))
        go_ret
        exact ⟨rfl, g1⟩
end Go.Proofs.Ytdjeehnjodbmaaa.Wd
