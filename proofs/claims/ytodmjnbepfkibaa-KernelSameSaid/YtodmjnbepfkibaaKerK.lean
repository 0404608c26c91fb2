/- Chapter 7's example: it answers true. -/
import Derived.Test.YtodmjnbepfkibaaKerC
namespace Go.Proofs.Ytodmjnbepfkibaa.Wd
open Go.RowKit
set_option linter.unusedVariables false

theorem known_any (w : World) : Calls Try.prog 10 #[] w fun e w' => e = .returned (.bool true) ∧ Kept w w' := by
  have m1 (w : World) := kmigrate_any 3 8 5 1 8 10 w ⟨by omega, by omega⟩ ⟨by omega, by omega⟩ ⟨by omega, by omega⟩ ⟨by omega, by omega⟩
  have r2 (w : World) := right_any 2 w
  have r4 (w : World) := right_any 4 w
  have l1 (w : World) := kleft_any 1 13 0 8 10 2 w ⟨by omega, by omega⟩ ⟨by omega, by omega⟩ ⟨by omega, by omega⟩ ⟨by omega, by omega⟩ ⟨by omega, by omega⟩
  have e1 : kmK 3 1 = 1 := by decide
  have e2 : kmA 3 8 5 1 8 10 = 13 := by decide
  have e3 : kmB 3 1 8 = 0 := by decide
  have e4 : kmE 3 1 = 0 := by decide
  have e5 : isK 2 = true := by decide
  have e6 : isK 4 = false := by decide
  have e7 : dvI (sbI 10 (kfI 1 13 0 8 10)) 2 = 2 := by decide
  rw [e1, e2, e3, e4] at m1
  rw [e5] at r2
  rw [e6] at r4
  rw [e7] at l1
  clear e1 e2 e3 e4 e5 e6 e7
  have M1 := Lib.hid m1
  have R2 := Lib.hid r2
  have R4 := Lib.hid r4
  have L1 := Lib.hid l1
  clear m1 r2 r4 l1
  go_enter Try.func10, Try.ntmps10
  go_wp2_with (first
    | (go_at_call 15; ((with_reducible refine (M1.out _).mono ?_); rintro e w1 ⟨rfl, g1⟩; have s0 : Row3 (w1.alloc (.cells #[.int .u8 1, .int .u64 13, .int .u64 0] 24)) w1.heap.size (.int .u8 1) (.int .u64 13) (.int .u64 0) := ⟨⟨by simp, by simp, by simp⟩, by simp, by simp, by simp⟩))
    | (go_at_call 12; ((with_reducible refine (R2.out _).mono ?_); rintro e w2 ⟨rfl, g2⟩; replace s0 := s0.kept g2))
    | (go_at_call 12; ((with_reducible refine (R4.out _).mono ?_); rintro e w3 ⟨rfl, g3⟩; replace s0 := s0.kept g3; obtain ⟨⟨x0, x1, x2⟩, y0, y1, y2⟩ := s0))
    | (go_at_call 21; ((with_reducible refine (L1.out _).mono ?_); rintro e w4 ⟨rfl, g4⟩)))
  go_ret
  exact ⟨rfl, ((((g1.alloc _ _).trans g2).trans g3).trans g4)⟩
end Go.Proofs.Ytodmjnbepfkibaa.Wd
