/- tollerlaw10.back answers true of lines that may be joined; no conditions but those that each names. -/
import Derived.Test.YtdjeehnjodbmaaaWrdY
import Derived.Test.YtdjeehnjodbmaaaWrdW3
namespace Go.Proofs.Ytdjeehnjodbmaaa.Wd
open Go Go.RowKit
set_option linter.unusedVariables false
set_option linter.unusedSimpArgs false

set_option maxRecDepth 100000 in
set_option maxHeartbeats 2000000 in
theorem back_any (A : Option Addr) (n cap : Nat) (lss : List (List (List UInt8))) (w : World) (h : LRows w A n lss) (hn : n ≤ 9223372036854775807) (hp : ∀ row ∈ lss, LineP row) (hl : (jn lss).length ≤ 1048576) :
    Calls Try.prog 15 #[.slice A n cap] w fun e w' => e = .returned (.bool true) ∧ Below w.heap.size w w' := by
  have K1 := Lib.hid (join_any A n cap lss w h hn (by omega))
  have hspl := spl_jn lss hp hl
  have H := Lib.hid h
  have HP := Lib.hid hp
  have hln := h.1
  have hpl := placed_len lss 1
  have hk20 : n ≤ 1048576 := by
    have := spl_count (jn lss)
    rw [hspl] at this
    have e : (Res.ok (placed 1 lss)).rows = placed 1 lss := rfl
    rw [e, hpl] at this
    omega
  clear h hp
  go_enter Try.func15, Try.ntmps15
  go_wp2_with ((go_at_call 12; ((with_reducible refine K1.out.mono ?_); rintro e w1 ⟨v1, rfl, r1, g1⟩; refine stopHere ?_)))
  unfold Stop
  obtain ⟨B, d, rfl, hd, hT, _, _⟩ := r1.form2
  have S1 := split_any B _ d _ w1 hT hd.1 hd.2
  unfold SplitPost at S1
  rw [hspl] at S1
  have S2 : Calls Try.prog 14 #[.slice B (jn lss).length d] w1 fun e w' => ∃ v, e = .returned (.tuple #[v, .int .u16 0, .agg #[.int .i64 0, .int .i64 0]]) ∧ WRows w' v (placed 1 lss) ∧ Below w1.heap.size w1 w' := S1
  have K2 := Lib.hid S2
  clear r1 hT S1 S2 K1 hspl
  generalize (jn lss).length = jl at *
  go_wp2_with ((go_at_call 14; ((with_reducible refine K2.out.mono ?_); rintro e w2 ⟨v2, rfl, r2, g2⟩; refine stopHere ?_)))
  unfold Stop
  have e2 := (Below.refl _ w2).alloc (Nat.le_refl _) (.cells #[.int .i64 0, .int .i64 0] 34)
  have HR := Lib.hid (r2.below e2)
  obtain ⟨Ax, kx, hvx⟩ := r2.slice
  rw [hpl, hln] at hvx
  subst hvx
  have gT := kbq (kbq g1 g2) e2
  have HL := Lib.hid (H.out.below gT)
  clear r2 K2 g2 g1
  go_wp2
  generalize w2.alloc (.cells #[.int .i64 0, .int .i64 0] 34) = W at *
  go_loopw [6] (fun i wr => ∃ k : Nat, k ≤ n ∧ i = .int .i64 (k : Int) ∧ Below W.heap.size W wr) (fun i _ => n - (intOf i).toNat)
  case atStart => exact ⟨0, Nat.zero_le _, rfl, Below.refl _ _⟩
  case round =>
    obtain ⟨k, hk, rfl, hB⟩ := hrel
    by_cases hlt : k < n
    · obtain ⟨b, off, rfl, hb, hrow⟩ := HL.out.2 (by omega)
      obtain ⟨A', c', hc, hrl, hst⟩ := hrow k hlt
      obtain ⟨row, hr0⟩ : ∃ row, lss[k]? = some row := ⟨_, List.getElem?_eq_getElem (by omega)⟩
      have hgd : lss.getD k [] = row := by rw [List.getD_eq_getElem?_getD, hr0]; rfl
      rw [hgd] at hc hrl hst
      have hLP := HP.out row (List.mem_of_getElem? hr0)
      have hX := placed_at lss 1 k row hr0
      have hwl := wpos_len row (1 + k) 1 false
      have hwne : wpos (1 + k) 1 false row ≠ [] := by
        intro e; have := congrArg List.length e; rw [hwl] at this; exact hLP.1 (List.eq_nil_of_length_eq_zero this)
      obtain ⟨gx, dx, hx, fx, ex, cx0, lx, cx⟩ := HR.out.row hX hwne
      rw [hwl] at cx0 lx
      simp only [Value.slice.injEq] at ex
      obtain ⟨rfl, -, rfl⟩ := ex
      have hrl0 : 0 < row.length := lx.2.1
      obtain ⟨b2, off2, rfl, hb2, hc2⟩ := hst.2.2 hrl0
      have HCX := Lib.hid cx
      have CX0 := Lib.hid cx0
      have CR := Lib.hid hc
      have HC2 := Lib.hid hc2
      have dx0 := celln hB cx0
      have dr0 := celln hB hc
      have hlk : (k : Int) < (n : Int) := by omega
      clear hrow hc hst cx cx0 hc2 hwl hX hgd lx
      go_wp2
      go_quiet (fail)
      go_wp2
      clear dx0 dr0
      go_loopw [7] (fun i wr3 => ∃ j : Nat, j ≤ row.length ∧ i = .int .i64 (j : Int) ∧ Below W.heap.size W wr3) (fun i _ => row.length - (intOf i).toNat)
      case atStart => exact ⟨0, Nat.zero_le _, rfl, below_drewN hB _⟩
      case round =>
        obtain ⟨j, hj, rfl, hB3⟩ := hrel
        have dx0 := celln hB3 CX0.out
        have dr0 := celln hB3 CR.out
        by_cases hjl : j < row.length
        · obtain ⟨x, hx0⟩ : ∃ x, row[j]? = some x := ⟨_, List.getElem?_eq_getElem hjl⟩
          obtain ⟨dcol, hw0⟩ := wpos_at row (1 + k) 1 false j x hx0
          obtain ⟨a1, a2, a3⟩ := HCX.out j _ hw0
          have b1 := HC2.out j hjl
          rw [List.getD_eq_getElem?_getD, hx0, Option.getD_some] at b1
          simp only at a1 a2 a3
          replace a1 := celln hB3 a1
          replace a2 := celln hB3 a2
          replace b1 := celln hB3 b1
          have hjl' : (j : Int) < (row.length : Int) := by omega
          have hk1 : ((1 + k : Nat) : Int) = (k : Int) + 1 := by omega
          rw [hk1] at a2
          clear hx0 hw0 a3 hk1
          generalize str x = sb at *
          go_wp2
          go_quiet (fail)
          go_wp2
          go_roundw
          case rel => exact ⟨j + 1, by omega, by go_num, below_drewN hB3 _⟩
          case measure => simp [intOf]; omega
        · obtain rfl : j = row.length := by omega
          go_wp2
          go_roundw
          case rel => exact ⟨k + 1, by omega, by go_num, hB3⟩
          case measure => simp [intOf]; omega
    · obtain rfl : k = n := by omega
      go_wp2
      go_ret
      exact ⟨rfl, kbq gT hB⟩
end Go.Proofs.Ytdjeehnjodbmaaa.Wd
