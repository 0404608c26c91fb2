/- What the document's own answers of chapter 2 are: the same numbers as the program's; for any numbers of 64 bits. -/
import Derived.Test.YtpkpmbigljkneaaDoorRulN
import Derived.Test.YtpkpmbigljkneaaDoorMathR
namespace Go.Proofs.YtpkpmbigljkneaaDoor.Wd
open Go.RowKit

theorem rmul_any (a b : Int) (w : World) (ha : U a) (hb : U b) :
    Calls Tryd.prog 34 #[.int .u64 a, .int .u64 b] w fun e w' => e = .returned (.tuple #[.int .u64 (muH a b), .int .u64 (muL a b)]) ∧ w = w' := by
  have hz := mulAt_zero a b hb
  go_enter Tryd.func34, Tryd.ntmps34
  go_wp2
  go_loop [6, 7, 8] (fun x y i => ∃ (k : Nat) (x' y' : Int), k ≤ 64 ∧ i = .int .i64 ((k : Int) - 1) ∧ x = .int .u64 x' ∧ y = .int .u64 y' ∧ MulAt a b k x' y') (fun _ _ i => (intOf i + 1).toNat)
  case atStart => exact ⟨64, 0, 0, by omega, rfl, rfl, rfl, hz⟩
  case round =>
    obtain ⟨k, x', y', hk, rfl, rfl, rfl, hr⟩ := hrel
    clear hz
    obtain _ | k := k
    · obtain ⟨e1, e2⟩ := mulAt_end a b x' y' hr
      subst e1 e2
      clear hr
      have z : (((0 : Nat) : Int) - 1) = -1 := rfl
      rw [z]
      clear z
      go_wp2
      go_ret2
      exact ⟨rfl, rfl⟩
    · obtain ⟨x0, uy, ux, y0, y1⟩ := mulAt_step a b k x' y' ha hb hr
      clear hr
      have Y0 := Lib.hid y0
      have Y1 := Lib.hid y1
      clear y0 y1
      have e : (((k + 1 : Nat) : Int) - 1) = (k : Int) := by omega
      rw [e]
      clear e
      have hb0 := (div_pow_nonneg b k hb.1).1
      unfold U at ha uy ux
      go_wp2
      · rename_i g1 g2
        have g1' : b / 2 ^ k % 2 = 1 := by simpa using g1
        obtain ⟨m1, m2⟩ := Y1.out g1'
        unfold U at m2
        simp only [IntKind.wrap_u64] at g2 ⊢
        refine ⟨⟨k, _, _, by omega, rfl, ?_, ?_, m1⟩, by simp [intOf]⟩
        · exact congrArg (Value.int IntKind.u64) (by omega)
        · exact congrArg (Value.int IntKind.u64) (by omega)
      · rename_i g1 g2
        have g1' : b / 2 ^ k % 2 = 1 := by simpa using g1
        obtain ⟨m1, m2⟩ := Y1.out g1'
        unfold U at m2
        simp only [IntKind.wrap_u64] at g2 ⊢
        refine ⟨⟨k, _, _, by omega, rfl, ?_, ?_, m1⟩, by simp [intOf]⟩
        · exact congrArg (Value.int IntKind.u64) (by omega)
        · exact congrArg (Value.int IntKind.u64) (by omega)
      · rename_i g1
        have g1' : b / 2 ^ k % 2 = 0 := by have := beq_eq_false_iff_ne.mp g1; omega
        have m1 := Y0.out g1'
        simp only [IntKind.wrap_u64]
        refine ⟨⟨k, _, _, by omega, rfl, ?_, ?_, m1⟩, by simp [intOf]⟩
        · exact congrArg (Value.int IntKind.u64) (by omega)
        · exact congrArg (Value.int IntKind.u64) (by omega)


theorem ref_mul (a b : Int) (w : World) (ha : U a) (hb : U b) :
    Calls Tryd.prog 23 #[.int .u64 a, .int .u64 b] w fun e w' => e = .returned (.int .u64 (sat (a * b))) ∧ w = w' := by
  rw [← stop_mul a b ha hb]
  have hh := muH_U a b ha hb
  have m := rmul_any a b w ha hb
  by_cases c : muH a b = 0
  · have e : stopV (muH a b) (muL a b) = muL a b := by simp [stopV, c]
    rw [e]; clear e
    rw [c] at m
    generalize muL a b = l at *
    clear c hh
    go_enter Tryd.func23, Tryd.ntmps23
    go_wp2_with (go_at_call 34; ((with_reducible refine m.mono ?_); rintro e w' ⟨rfl, rfl⟩))
    go_ret
    exact ⟨rfl, rfl⟩
  · have e : stopV (muH a b) (muL a b) = 18446744073709551615 := by simp [stopV, c]
    rw [e]; clear e
    have h : 0 < muH a b := by unfold U at hh; omega
    generalize muL a b = l at *
    generalize muH a b = x at *
    clear c hh
    go_enter Tryd.func23, Tryd.ntmps23
    go_wp2_with (go_at_call 34; ((with_reducible refine m.mono ?_); rintro e w' ⟨rfl, rfl⟩))
    go_ret
    exact ⟨rfl, rfl⟩

end Go.Proofs.YtpkpmbigljkneaaDoor.Wd
