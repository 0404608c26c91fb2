/- tollerref10.Same answers true of rows of the same words; no conditions but those that each names. -/
import Derived.Test.YtdjeehnjodbmaaaWrdW3
namespace Go.Proofs.Ytdjeehnjodbmaaa.Wd
open Go Go.RowKit
set_option linter.unusedVariables false
set_option linter.unusedSimpArgs false

set_option maxRecDepth 100000 in
set_option maxHeartbeats 2000000 in
theorem same_any (v1 v2 : Value) (X : List (List Wo)) (w : World) (h1 : WRows w v1 X) (h2 : WRows w v2 X) (hne : ∀ l ∈ X, l ≠ []) (hct : X.length ≤ 1048576) :
    Calls Try.prog 19 #[v1, v2] w fun e w' => e = .returned (.bool true) ∧ Below w.heap.size w w' := by
  obtain ⟨A1, c1, rfl⟩ := h1.slice
  obtain ⟨A2, c2, rfl⟩ := h2.slice
  have H1 := Lib.hid h1
  have H2 := Lib.hid h2
  have NE := Lib.hid hne
  clear h1 h2 hne
  go_enter Try.func19, Try.ntmps19
  go_wp2
  go_loopw [5] (fun i wr => ∃ k : Nat, k ≤ X.length ∧ i = .int .i64 (k : Int) ∧ Below w.heap.size w wr) (fun i _ => X.length - (intOf i).toNat)
  case atStart => exact ⟨0, Nat.zero_le _, rfl, Below.refl _ _⟩
  case round =>
    obtain ⟨k, hk, rfl, hB⟩ := hrel
    by_cases hlt : k < X.length
    · obtain ⟨ws, hws⟩ : ∃ ws, X[k]? = some ws := ⟨_, List.getElem?_eq_getElem hlt⟩
      obtain ⟨gx, dx, hx, fx, ex, cx0, lx, cx⟩ := H1.out.row hws (NE.out ws (List.mem_of_getElem? hws))
      obtain ⟨gy, dy, hy, fy, ey, cy0, ly, cy⟩ := H2.out.row hws (NE.out ws (List.mem_of_getElem? hws))
      simp only [Value.slice.injEq] at ex ey
      obtain ⟨rfl, -, rfl⟩ := ex
      obtain ⟨rfl, -, rfl⟩ := ey
      have HCX := Lib.hid cx
      have HCY := Lib.hid cy
      have CX0 := Lib.hid cx0
      have CY0 := Lib.hid cy0
      have dx0 := celln hB cx0
      have dy0 := celln hB cy0
      have hlm := lx.2.2
      have hlk : (k : Int) < (X.length : Int) := by omega
      clear cx cy hws lx ly cx0 cy0
      go_wp2
      go_quiet (fail)
      go_wp2
      clear dx0 dy0
      go_loopw [6] (fun i wr3 => ∃ j : Nat, j ≤ ws.length ∧ i = .int .i64 (j : Int) ∧ Below w.heap.size w wr3) (fun i _ => ws.length - (intOf i).toNat)
      case atStart => exact ⟨0, Nat.zero_le _, rfl, below_drewN hB _⟩
      case round =>
        obtain ⟨j, hj, rfl, hB3⟩ := hrel
        have dx0 := celln hB3 CX0.out
        have dy0 := celln hB3 CY0.out
        by_cases hjl : j < ws.length
        · obtain ⟨⟨t0, n0, c0⟩, hx0⟩ : ∃ x, ws[j]? = some x := ⟨_, List.getElem?_eq_getElem hjl⟩
          obtain ⟨a1, a2, a3⟩ := HCX.out j _ hx0
          obtain ⟨b1, b2, b3⟩ := HCY.out j _ hx0
          replace a1 := celln hB3 a1
          replace a2 := celln hB3 a2
          replace a3 := celln hB3 a3
          replace b1 := celln hB3 b1
          replace b2 := celln hB3 b2
          replace b3 := celln hB3 b3
          have hjl' : (j : Int) < (ws.length : Int) := by omega
          clear hx0
          simp only at a1 a2 a3 b1 b2 b3
          generalize str t0 = sb at *
          go_wp2
          go_quiet (fail)
          go_wp2
          go_roundw
          case rel => exact ⟨j + 1, by omega, by go_num, below_drewN hB3 _⟩
          case measure => simp [intOf]; omega
        · obtain rfl : j = ws.length := by omega
          go_wp2
          go_roundw
          case rel => exact ⟨k + 1, by omega, by go_num, hB3⟩
          case measure => simp [intOf]; omega
    · obtain rfl : k = X.length := by omega
      go_wp2
      go_ret
      exact ⟨rfl, hB⟩
end Go.Proofs.Ytdjeehnjodbmaaa.Wd
