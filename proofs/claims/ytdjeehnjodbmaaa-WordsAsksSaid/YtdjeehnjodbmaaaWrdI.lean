/- The document's answer of chapter 10: what is joined (tollerref10.Join); no conditions but those that each names. -/
import Derived.Test.YtdjeehnjodbmaaaWrdR
namespace Go.Proofs.Ytdjeehnjodbmaaa.Wd
open Go Go.RowKit
set_option linter.unusedVariables false
set_option linter.unusedSimpArgs false

set_option maxRecDepth 100000 in
set_option maxHeartbeats 2000000 in
theorem rjoin_any (A : Option Addr) (n cap : Nat) (lss : List (List (List UInt8))) (w : World) (h : LRows w A n lss) (hn : n ≤ 9223372036854775807) (hsz : (jn lss).length ≤ 1099511627776) :
    Calls Try.prog 13 #[.slice A n cap] w fun e w' => ∃ v, e = .returned v ∧ BRow w' w.heap.size v (jn lss) ∧ Below w.heap.size w w' := by
  have H := Lib.hid h
  have HS := Lib.hid hsz
  clear h
  go_enter Try.func13, Try.ntmps13
  go_wp2
  go_loopw [3, 4] (fun v i wr => ∃ k : Nat, k ≤ n ∧ i = .int .i64 (k : Int) ∧ Hid (BRow wr w.heap.size v (jn (lss.take k))) ∧ Below w.heap.size w wr) (fun _ i _ => n - (intOf i).toNat)
  case atStart => exact ⟨0, Nat.zero_le _, rfl, Lib.hid (BRow.nil _ _), Below.refl _ _⟩
  case round =>
    obtain ⟨k, hk, rfl, HO, hB⟩ := hrel
    by_cases hlt : k < n
    · obtain ⟨b, off, rfl, hb, hrow⟩ := H.out.2 (by omega)
      obtain ⟨A', c', hc, hrl, hst⟩ := hrow k hlt
      have HCW := Lib.hid (fun (W : World) (hW : Below w.heap.size w W) => (hW.cell (p := ⟨b, off + k, none⟩) hb).trans hc)
      have HJT := Lib.hid (jn_take lss k (by rw [H.out.1]; exact hlt))
      have HLE := Lib.hid (fun i hi => jn_le lss k i (by rw [H.out.1]; exact hlt) hi)
      have HST := Lib.hid hst
      clear hrow hst hc
      generalize lss.getD k [] = row at *
      generalize jn (lss.take k) = acc at *
      go_wp2
      go_loopw [3, 5] (fun v i wr2 => ∃ j : Nat, j ≤ row.length ∧ i = .int .i64 (j : Int) ∧ Hid (BRow wr2 w.heap.size v (acc ++ jw false (row.take j))) ∧ Below w.heap.size w wr2) (fun _ i _ => row.length - (intOf i).toNat)
      case atStart => exact ⟨0, Nat.zero_le _, rfl, Lib.hid (by rw [List.take_zero]; show BRow _ _ _ (acc ++ []); rw [List.append_nil]; exact HO.out), hB⟩
      case round =>
        obtain ⟨j, hj, rfl, HO2, hB2⟩ := hrel
        have hcw := HCW.out _ hB2
        by_cases hjl : j < row.length
        · obtain ⟨b2, off2, rfl, hb2, hc2⟩ := HST.out.2.2 (by omega)
          have HX := Lib.hid (fun (W : World) (hW : Below w.heap.size w W) => (hW.cell (p := ⟨b2, off2 + j, none⟩) hb2).trans (hc2 j hjl))
          have hle := HLE.out (j + 1) (by omega)
          have hjt := jw_take row j hjl
          rw [hjt] at hle
          simp only [List.length_append] at hle
          have HJW := Lib.hid hjt
          have hs := HS.out
          clear hc2 hjt
          generalize row.getD j [] = x at *
          generalize jw false (row.take j) = pre at *
          by_cases hj0 : 0 < j
          · rw [if_pos hj0] at hle
            have hj0' : decide ((0 : Int) < (j : Int)) = true := decide_eq_true (by omega)
            simp only [List.length_cons, List.length_nil] at hle
            go_wp2_with (at_builtin; refine stopHere ?_)
            unfold Stop
            have e0 := (Below.refl _ wr).alloc (Nat.le_refl _) (.cells #[.int .u8 32] 5)
            refine wpList_app_bytes _ rfl _ _ rfl w.heap.size _ (acc ++ pre) rfl (HO2.out.below e0) (some ⟨wr.heap.size, 0, none⟩) 1 1 [32] rfl (txt_one wr 32) (fun e => by cases e) (fun ad e => by cases e; rfl) (by rw [List.length_append]; omega) (kbq hB2 e0).size ?_
            intro v3 w3 own3 grow3
            have hBa : Below w.heap.size w w3 := (kbq hB2 e0).grown grow3 (kbq hB2 e0).size (own_block HO2.out)
            obtain ⟨acc2, hacc⟩ : ∃ acc2, acc ++ pre ++ [32] = acc2 := ⟨_, rfl⟩
            rw [hacc] at own3
            have HA2 := Lib.hid own3
            have hl2 : acc2.length + x.length ≤ 1099511627776 := by rw [← hacc]; simp only [List.length_append, List.length_cons, List.length_nil]; omega
            have HACC := Lib.hid (show acc ++ (pre ++ ((if 0 < j then [32] else []) ++ x)) = acc2 ++ x by rw [if_pos hj0, ← hacc]; simp)
            clear own3 grow3 hacc HO2 hcw
            go_wp2
            clear hj0'
            go_loopw [3, 6] (fun v i wr3 => ∃ m : Nat, m ≤ x.length ∧ i = .int .i64 (m : Int) ∧ Hid (BRow wr3 w.heap.size v (acc2 ++ x.take m)) ∧ Below w.heap.size w wr3) (fun _ i _ => x.length - (intOf i).toNat)
            case atStart => exact ⟨0, Nat.zero_le _, rfl, Lib.hid (by rw [List.take_zero, List.append_nil]; exact HA2.out), hBa⟩
            case round =>
              obtain ⟨m, hm, rfl, HO6, hB6⟩ := hrel
              have hcw := HCW.out _ hB6
              have hxw := HX.out _ hB6
              obtain ⟨sb, hsb⟩ : ∃ sb, str x = sb := ⟨_, rfl⟩
              have hsl : sb.size = x.length := by rw [← hsb]; rfl
              rw [hsb] at hxw
              have HSB := Lib.hid hsb
              have hjl' : (j : Int) < (row.length : Int) := by omega
              clear hsb
              by_cases hml : m < x.length
              · have hms : m < sb.size := by omega
                have HBY := Lib.hid (show sb[m] = x[m] by have := HSB.out; subst this; rfl)
                have hlm : (acc2 ++ x.take m).length ≤ 1099511627776 := by rw [List.length_append, List.length_take]; omega
                go_wp2_with (at_builtin; refine stopHere ?_)
                unfold Stop
                have e0 := (Below.refl _ wr).alloc (Nat.le_refl _) (.cells #[.int .u8 (sb[m].toNat : Int)] 5)
                refine wpList_app_bytes _ rfl _ _ rfl w.heap.size _ (acc2 ++ x.take m) rfl (HO6.out.below e0) (some ⟨wr.heap.size, 0, none⟩) 1 1 [sb[m]] rfl (txt_one wr sb[m]) (fun e => by cases e) (fun ad e => by cases e; rfl) (by omega) (kbq hB6 e0).size ?_
                intro v7 w7 own7 grow7
                have hB7 : Below w.heap.size w w7 := (kbq hB6 e0).grown grow7 (kbq hB6 e0).size (own_block HO6.out)
                have HO8 : Hid (BRow w7 w.heap.size v7 (acc2 ++ x.take (m + 1))) := Lib.hid (by
                  rw [List.take_add_one, List.getElem?_eq_getElem hml, ← List.append_assoc, ← HBY.out]
                  exact own7)
                clear own7 grow7 HO6
                go_wp2
                go_roundw
                case rel => exact ⟨m + 1, by omega, by go_num, HO8, hB7⟩
                case measure => simp [intOf]; omega
              · obtain rfl : m = x.length := by omega
                have hno : ¬ ((x.length : Int) < (sb.size : Int)) := by omega
                have hO := HO6.out
                rw [List.take_length] at hO
                have HO9 : Hid (BRow wr w.heap.size _ (acc ++ jw false (row.take (j + 1)))) := Lib.hid (by rw [HJW.out, HACC.out]; exact hO)
                clear hO HO6
                go_wp2
                go_roundw
                case rel => exact ⟨j + 1, by omega, by go_num, HO9, hB6⟩
                case measure => simp [intOf]; omega
          · have hj0' : decide ((0 : Int) < (j : Int)) = false := decide_eq_false (by omega)
            rw [if_neg (by omega)] at hle
            simp only [List.length_nil] at hle
            obtain ⟨acc2, hacc⟩ : ∃ acc2, acc ++ pre = acc2 := ⟨_, rfl⟩
            have HA2 := Lib.hid (show BRow wr w.heap.size _ acc2 by rw [← hacc]; exact HO2.out)
            have hBa := hB2
            have hl2 : acc2.length + x.length ≤ 1099511627776 := by rw [← hacc]; simp only [List.length_append]; omega
            have HACC := Lib.hid (show acc ++ (pre ++ ((if 0 < j then [32] else []) ++ x)) = acc2 ++ x by rw [if_neg (by omega), ← hacc]; simp)
            clear hacc HO2
            go_wp2
            clear hj0' hcw
            go_loopw [3, 6] (fun v i wr3 => ∃ m : Nat, m ≤ x.length ∧ i = .int .i64 (m : Int) ∧ Hid (BRow wr3 w.heap.size v (acc2 ++ x.take m)) ∧ Below w.heap.size w wr3) (fun _ i _ => x.length - (intOf i).toNat)
            case atStart => exact ⟨0, Nat.zero_le _, rfl, Lib.hid (by rw [List.take_zero, List.append_nil]; exact HA2.out), hBa⟩
            case round =>
              obtain ⟨m, hm, rfl, HO6, hB6⟩ := hrel
              have hcw := HCW.out _ hB6
              have hxw := HX.out _ hB6
              obtain ⟨sb, hsb⟩ : ∃ sb, str x = sb := ⟨_, rfl⟩
              have hsl : sb.size = x.length := by rw [← hsb]; rfl
              rw [hsb] at hxw
              have HSB := Lib.hid hsb
              have hjl' : (j : Int) < (row.length : Int) := by omega
              clear hsb
              by_cases hml : m < x.length
              · have hms : m < sb.size := by omega
                have HBY := Lib.hid (show sb[m] = x[m] by have := HSB.out; subst this; rfl)
                have hlm : (acc2 ++ x.take m).length ≤ 1099511627776 := by rw [List.length_append, List.length_take]; omega
                go_wp2_with (at_builtin; refine stopHere ?_)
                unfold Stop
                have e0 := (Below.refl _ wr).alloc (Nat.le_refl _) (.cells #[.int .u8 (sb[m].toNat : Int)] 5)
                refine wpList_app_bytes _ rfl _ _ rfl w.heap.size _ (acc2 ++ x.take m) rfl (HO6.out.below e0) (some ⟨wr.heap.size, 0, none⟩) 1 1 [sb[m]] rfl (txt_one wr sb[m]) (fun e => by cases e) (fun ad e => by cases e; rfl) (by omega) (kbq hB6 e0).size ?_
                intro v7 w7 own7 grow7
                have hB7 : Below w.heap.size w w7 := (kbq hB6 e0).grown grow7 (kbq hB6 e0).size (own_block HO6.out)
                have HO8 : Hid (BRow w7 w.heap.size v7 (acc2 ++ x.take (m + 1))) := Lib.hid (by
                  rw [List.take_add_one, List.getElem?_eq_getElem hml, ← List.append_assoc, ← HBY.out]
                  exact own7)
                clear own7 grow7 HO6
                go_wp2
                go_roundw
                case rel => exact ⟨m + 1, by omega, by go_num, HO8, hB7⟩
                case measure => simp [intOf]; omega
              · obtain rfl : m = x.length := by omega
                have hno : ¬ ((x.length : Int) < (sb.size : Int)) := by omega
                have hO := HO6.out
                rw [List.take_length] at hO
                have HO9 : Hid (BRow wr w.heap.size _ (acc ++ jw false (row.take (j + 1)))) := Lib.hid (by rw [HJW.out, HACC.out]; exact hO)
                clear hO HO6
                go_wp2
                go_roundw
                case rel => exact ⟨j + 1, by omega, by go_num, HO9, hB6⟩
                case measure => simp [intOf]; omega
        · obtain rfl : j = row.length := by omega
          have hle := HLE.out row.length (Nat.le_refl _)
          have hO2 := HO2.out
          rw [List.take_length] at hO2 hle
          have HO3 := Lib.hid hO2
          have hs := HS.out
          clear hO2 HO2
          have hnl : decide ((row.length : Int) < (row.length : Int)) = false := decide_eq_false (by omega)
          go_wp2_with (at_builtin; refine stopHere ?_)
          unfold Stop
          have e0 := (Below.refl _ wr).alloc (Nat.le_refl _) (.cells #[.int .u8 10] 5)
          refine wpList_app_bytes _ rfl _ _ rfl w.heap.size _ (acc ++ jw false row) rfl (HO3.out.below e0) (some ⟨wr.heap.size, 0, none⟩) 1 1 [10] rfl (txt_one wr 10) (fun e => by cases e) (fun ad e => by cases e; rfl) (by rw [List.length_append]; omega) (kbq hB2 e0).size ?_
          intro v3 w3 own3 grow3
          have hB3 : Below w.heap.size w w3 := (kbq hB2 e0).grown grow3 (kbq hB2 e0).size (own_block HO3.out)
          have HO5 : Hid (BRow w3 w.heap.size v3 (jn (lss.take (k + 1)))) := Lib.hid (by
            rw [HJT.out, ← List.append_assoc]
            exact own3)
          clear own3 grow3 HO3
          go_wp2
          go_roundw
          case rel => exact ⟨k + 1, by omega, by go_num, HO5, hB3⟩
          case measure => simp [intOf]; omega
    · obtain rfl : k = n := by omega
      have own := HO.out
      rw [List.take_of_length_le (by rw [H.out.1]; exact Nat.le_refl _)] at own
      go_wp2
      go_ret
      exact ⟨_, rfl, own, hB⟩
end Go.Proofs.Ytdjeehnjodbmaaa.Wd
