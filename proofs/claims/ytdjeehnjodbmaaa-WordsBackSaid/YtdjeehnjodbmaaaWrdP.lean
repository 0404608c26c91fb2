/- What tollerlaw10.plain tells of lines: if it answers true, they may be joined; no conditions but those that each names. -/
import Derived.Test.YtdjeehnjodbmaaaWrdY
namespace Go.Proofs.Ytdjeehnjodbmaaa.Wd
open Go Go.RowKit
set_option linter.unusedVariables false
set_option linter.unusedSimpArgs false

theorem vis_of {b : UInt8} (h1 : 33 ≤ b.toNat) (h2 : b.toNat ≤ 126) : vs b = true := by
  have h := kd_bad b
  have h3 := kd_two b
  have h4 := kd_three b
  have := kd_cases b
  unfold vs
  rw [decide_eq_true_iff]
  by_cases e : 4 ≤ kd b
  · exact e
  · rcases (show kd b = 1 ∨ kd b = 2 ∨ kd b = 3 by omega) with k | k | k
    · rw [h] at k; omega
    · rw [h3] at k; rcases k with rfl | rfl <;> revert h1 <;> decide
    · rw [h4] at k; subst k; revert h1; decide
/-- What a word must be. -/
def WordOk (i : Nat) (x : List UInt8) : Prop := VisW x ∧ x.length ≤ 100 ∧ (i = 0 → x.getD 0 0 ≠ 35)
/-- What a line must be. -/
def RowOk (row : List (List UInt8)) : Prop := LineP row ∧ row.length ≤ 20 ∧ ∀ x ∈ row, x.length ≤ 100
theorem row_ok {row : List (List UInt8)} (h0 : 0 < row.length) (h20 : row.length ≤ 20) (h : ∀ j, j < row.length → WordOk j (row.getD j [])) : RowOk row := by
  have hm : ∀ x ∈ row, ∃ j, j < row.length ∧ row.getD j [] = x := by
    intro x hx
    obtain ⟨j, hj, e⟩ := List.mem_iff_getElem.1 hx
    exact ⟨j, hj, by rw [List.getD_eq_getElem?_getD, List.getElem?_eq_getElem hj]; exact e⟩
  refine ⟨⟨List.length_pos_iff.1 h0, fun x hx => ?_, fun x hx => ?_⟩, h20, fun x hx => ?_⟩
  · obtain ⟨j, hj, rfl⟩ := hm x hx; exact (h j hj).1
  · have e : row.getD 0 [] = x := by rw [List.getD_eq_getElem?_getD, hx]; rfl
    rw [← e]; exact (h 0 h0).2.2 rfl
  · obtain ⟨j, hj, rfl⟩ := hm x hx; exact (h j hj).2.1

set_option maxRecDepth 100000 in
set_option maxHeartbeats 2000000 in
theorem plain_any (A : Option Addr) (n cap : Nat) (lss : List (List (List UInt8))) (w : World) (h : LRows w A n lss) (hn : n ≤ 9223372036854775807) :
    Calls Try.prog 16 #[.slice A n cap] w fun e w' => ∃ p, e = .returned (.bool p) ∧ (p = true → ∀ row ∈ lss, RowOk row) ∧ w = w' := by
  have H := Lib.hid h
  clear h
  go_enter Try.func16, Try.ntmps16
  go_wp2
  go_loopw [3] (fun i wr => ∃ k : Nat, k ≤ n ∧ i = .int .i64 (k : Int) ∧ Hid (∀ j, j < k → RowOk (lss.getD j [])) ∧ w = wr) (fun i _ => n - (intOf i).toNat)
  case atStart => exact ⟨0, Nat.zero_le _, rfl, Lib.hid (fun j hj => by omega), rfl⟩
  case round =>
    obtain ⟨k, hk, rfl, D, rfl⟩ := hrel
    by_cases hlt : k < n
    · obtain ⟨b, off, rfl, hb, hrow⟩ := H.out.2 (by omega)
      obtain ⟨A', c', hc, hrl, hst⟩ := hrow k hlt
      have HST := Lib.hid hst
      clear hrow hst
      generalize hgr : lss.getD k [] = row at *
      have HGR := Lib.hid hgr
      clear hgr
      by_cases h0 : row.length = 0
      · have h0' : (row.length : Int) = 0 := by omega
        go_wp2
        go_ret
        exact ⟨false, rfl, (fun h => by cases h), rfl⟩
      · have h0' : ((row.length : Int) == 0) = false := beq_eq_false_iff_ne.2 (by omega)
        by_cases h20 : 20 < row.length
        · have h20' : decide ((20 : Int) < (row.length : Int)) = true := decide_eq_true (by omega)
          go_wp2
          go_ret
          exact ⟨false, rfl, (fun h => by cases h), rfl⟩
        · have h20' : decide ((20 : Int) < (row.length : Int)) = false := decide_eq_false (by omega)
          have h20n : row.length ≤ 20 := by omega
          obtain ⟨b2, off2, rfl, hb2, hc2⟩ := HST.out.2.2 (by omega)
          have HC2 := Lib.hid hc2
          clear hc2
          go_wp2
          clear h0' h20'
          go_loopw [4] (fun i wr => ∃ j : Nat, j ≤ row.length ∧ i = .int .i64 (j : Int) ∧ Hid (∀ m, m < j → WordOk m (row.getD m [])) ∧ w = wr) (fun i _ => row.length - (intOf i).toNat)
          case atStart => exact ⟨0, Nat.zero_le _, rfl, Lib.hid (fun j hj => by omega), by first | rfl | trivial⟩
          case round =>
            obtain ⟨j, hj, rfl, D2, hw⟩ := hrel
            subst hw
            by_cases hjl : j < row.length
            · have hx := HC2.out j hjl
              generalize hgx : row.getD j [] = x at *
              have HGX := Lib.hid hgx
              clear hgx
              obtain ⟨sb, hsb⟩ : ∃ sb, sb = str x := ⟨_, rfl⟩
              have hsl : sb.size = x.length := by rw [hsb]; rfl
              have HSB := Lib.hid hsb
              rw [← hsb] at hx
              clear hsb
              by_cases hx0 : x.length = 0
              · have hz : sb.toList.isEmpty = true := by
                  rw [ByteArray.toList_eq, List.isEmpty_iff, HSB.out]; exact List.eq_nil_of_length_eq_zero hx0
                go_wp2
                go_ret
                exact ⟨false, rfl, (fun h => by cases h), rfl⟩
              · have hz : sb.toList.isEmpty = false := by
                  rw [ByteArray.toList_eq, List.isEmpty_eq_false_iff, HSB.out]
                  intro e; exact hx0 (congrArg List.length e)
                by_cases h100 : 100 < x.length
                · have h100' : decide ((100 : Int) < (x.length : Int)) = true := decide_eq_true (by omega)
                  have h100'' : decide ((100 : Int) < (sb.size : Int)) = true := decide_eq_true (by omega)
                  go_wp2
                  go_ret
                  exact ⟨false, rfl, (fun h => by cases h), rfl⟩
                · have h100' : decide ((100 : Int) < (x.length : Int)) = false := decide_eq_false (by omega)
                  have h100'' : decide ((100 : Int) < (sb.size : Int)) = false := decide_eq_false (by omega)
                  by_cases hj0 : j = 0
                  · have dj : ((j : Int) == 0) = true := by rw [hj0]; rfl
                    have h0s : 0 < sb.size := by omega
                    have hb0 : sb[0] = x.getD 0 0 := by
                      have := HSB.out
                      subst this
                      rw [List.getD_eq_getElem?_getD, List.getElem?_eq_getElem (by omega)]; rfl
                    by_cases h35 : x.getD 0 0 = 35
                    · have dy : ((sb[0].toNat : Int) == 35) = true := by rw [hb0, h35]; rfl
                      clear hb0 h35 hj0
                      go_wp2
                      go_ret
                      exact ⟨false, rfl, (fun h => by cases h), rfl⟩
                    · have dy : ((sb[0].toNat : Int) == 35) = false := beq_eq_false_iff_ne.2 (by rw [hb0]; intro e; exact h35 (UInt8.toNat_inj.1 (by show _ = 35; omega)))
                      have HD : Hid (j = 0 → x.getD 0 0 ≠ 35) := Lib.hid (fun _ => h35)
                      have HJ := Lib.hid hj0
                      clear hb0 h35 hj0
                      go_wp2
                      clear hz
                      (try clear h100')
                      (try clear h100'')
                      (try clear dj)
                      (try clear dy)
                      go_loopw [6] (fun i wr => ∃ m : Nat, m ≤ x.length ∧ i = .int .i64 (m : Int) ∧ Hid (∀ q, q < m → 33 ≤ (x.getD q 0).toNat ∧ (x.getD q 0).toNat ≤ 126) ∧ w = wr) (fun i _ => x.length - (intOf i).toNat)
                      case atStart => exact ⟨0, Nat.zero_le _, rfl, Lib.hid (fun q hq => by omega), by first | rfl | trivial⟩
                      case round =>
                        obtain ⟨m, hm, rfl, D3, hw⟩ := hrel
                        subst hw
                        by_cases hml : m < x.length
                        · have hms : m < sb.size := by omega
                          have hby : sb[m] = x.getD m 0 := by
                            have := HSB.out
                            subst this
                            rw [List.getD_eq_getElem?_getD, List.getElem?_eq_getElem hml]; rfl
                          obtain ⟨y, hy⟩ : ∃ y, sb[m].toNat = y := ⟨_, rfl⟩
                          have HY := Lib.hid (show (x.getD m 0).toNat = y by rw [← hby]; exact hy)
                          clear hby
                          by_cases h33 : y < 33
                          · have d1 : decide ((y : Int) < 33) = true := decide_eq_true (by omega)
                            go_wp2
                            go_ret
                            exact ⟨false, rfl, (fun h => by cases h), rfl⟩
                          · have d1 : decide ((y : Int) < 33) = false := decide_eq_false (by omega)
                            by_cases h126 : 126 < y
                            · have d2 : decide ((126 : Int) < (y : Int)) = true := decide_eq_true (by omega)
                              go_wp2
                              go_ret
                              exact ⟨false, rfl, (fun h => by cases h), rfl⟩
                            · have d2 : decide ((126 : Int) < (y : Int)) = false := decide_eq_false (by omega)
                              go_wp2
                              go_roundw
                              case rel => exact ⟨m + 1, by omega, by go_num, Lib.hid (fun q hq => by by_cases e : q = m; subst e; rw [HY.out]; omega; exact D3.out q (by omega)), by first | rfl | trivial⟩
                              case measure => simp [intOf]; omega
                        · obtain rfl : m = x.length := by omega
                          have hno : ¬ ((x.length : Int) < (sb.size : Int)) := by omega
                          go_wp2
                          go_roundw
                          case rel =>
                            refine ⟨j + 1, by omega, by go_num, Lib.hid (fun q hq => ?_), by first | rfl | trivial⟩
                            by_cases e : q = j
                            · subst e
                              rw [HGX.out]
                              refine ⟨⟨fun e => hx0 (by rw [e]; rfl), fun b hb => ?_⟩, by omega, HD.out⟩
                              obtain ⟨q', hq', e'⟩ := List.mem_iff_getElem.1 hb
                              have := D3.out q' hq'
                              rw [List.getD_eq_getElem?_getD, List.getElem?_eq_getElem hq'] at this
                              rw [← e']; exact vis_of this.1 this.2
                            · exact D2.out q (by omega)
                          case measure => simp [intOf]; omega
                  · have dj : ((j : Int) == 0) = false := beq_eq_false_iff_ne.2 (by omega)
                    have HD : Hid (j = 0 → x.getD 0 0 ≠ 35) := Lib.hid (fun e => absurd e hj0)
                    go_wp2
                    clear hz
                    (try clear h100')
                    (try clear h100'')
                    (try clear dj)
                    (try clear dy)
                    go_loopw [6] (fun i wr => ∃ m : Nat, m ≤ x.length ∧ i = .int .i64 (m : Int) ∧ Hid (∀ q, q < m → 33 ≤ (x.getD q 0).toNat ∧ (x.getD q 0).toNat ≤ 126) ∧ w = wr) (fun i _ => x.length - (intOf i).toNat)
                    case atStart => exact ⟨0, Nat.zero_le _, rfl, Lib.hid (fun q hq => by omega), by first | rfl | trivial⟩
                    case round =>
                      obtain ⟨m, hm, rfl, D3, hw⟩ := hrel
                      subst hw
                      by_cases hml : m < x.length
                      · have hms : m < sb.size := by omega
                        have hby : sb[m] = x.getD m 0 := by
                          have := HSB.out
                          subst this
                          rw [List.getD_eq_getElem?_getD, List.getElem?_eq_getElem hml]; rfl
                        obtain ⟨y, hy⟩ : ∃ y, sb[m].toNat = y := ⟨_, rfl⟩
                        have HY := Lib.hid (show (x.getD m 0).toNat = y by rw [← hby]; exact hy)
                        clear hby
                        by_cases h33 : y < 33
                        · have d1 : decide ((y : Int) < 33) = true := decide_eq_true (by omega)
                          go_wp2
                          go_ret
                          exact ⟨false, rfl, (fun h => by cases h), rfl⟩
                        · have d1 : decide ((y : Int) < 33) = false := decide_eq_false (by omega)
                          by_cases h126 : 126 < y
                          · have d2 : decide ((126 : Int) < (y : Int)) = true := decide_eq_true (by omega)
                            go_wp2
                            go_ret
                            exact ⟨false, rfl, (fun h => by cases h), rfl⟩
                          · have d2 : decide ((126 : Int) < (y : Int)) = false := decide_eq_false (by omega)
                            go_wp2
                            go_roundw
                            case rel => exact ⟨m + 1, by omega, by go_num, Lib.hid (fun q hq => by by_cases e : q = m; subst e; rw [HY.out]; omega; exact D3.out q (by omega)), by first | rfl | trivial⟩
                            case measure => simp [intOf]; omega
                      · obtain rfl : m = x.length := by omega
                        have hno : ¬ ((x.length : Int) < (sb.size : Int)) := by omega
                        go_wp2
                        go_roundw
                        case rel =>
                          refine ⟨j + 1, by omega, by go_num, Lib.hid (fun q hq => ?_), by first | rfl | trivial⟩
                          by_cases e : q = j
                          · subst e
                            rw [HGX.out]
                            refine ⟨⟨fun e => hx0 (by rw [e]; rfl), fun b hb => ?_⟩, by omega, HD.out⟩
                            obtain ⟨q', hq', e'⟩ := List.mem_iff_getElem.1 hb
                            have := D3.out q' hq'
                            rw [List.getD_eq_getElem?_getD, List.getElem?_eq_getElem hq'] at this
                            rw [← e']; exact vis_of this.1 this.2
                          · exact D2.out q (by omega)
                        case measure => simp [intOf]; omega
            · obtain rfl : j = row.length := by omega
              have hro := row_ok (by omega) h20n D2.out
              have HRO := Lib.hid hro
              clear hro
              go_wp2
              go_roundw
              case rel => exact ⟨k + 1, by omega, by go_num, Lib.hid (fun q hq => by by_cases e : q = k; subst e; rw [HGR.out]; exact HRO.out; exact D.out q (by omega)), by first | rfl | trivial⟩
              case measure => simp [intOf]; omega
    · obtain rfl : k = n := by omega
      go_wp2
      go_ret
      refine ⟨true, rfl, fun _ row hm => ?_, rfl⟩
      obtain ⟨j, hj, e⟩ := List.mem_iff_getElem.1 hm
      have := D.out j (by rw [← H.out.1]; exact hj)
      rw [List.getD_eq_getElem?_getD, List.getElem?_eq_getElem hj] at this
      rw [← e]; exact this
end Go.Proofs.Ytdjeehnjodbmaaa.Wd
