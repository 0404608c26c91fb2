/- What num's Div answers, and the document's own Div and Mul, for any numbers of 64 bits; no conditions. -/
import Derived.Test.YtodmjnbepfkibaaNumC
import Derived.Test.YtodmjnbepfkibaaMathR
namespace Go.Proofs.Ytodmjnbepfkibaa.Wd
open Go.RowKit
set_option linter.unusedVariables false

theorem num_quot (a b : Int) (w : World) (ha : U a) (hb : U b) :
    Calls Try.prog 60 #[.int .u64 a, .int .u64 b] w fun e w' => e = .returned (.tuple #[.int .u64 (dvI a b), .int .u64 (lfI a b)]) ∧ Drew w w' := by
  by_cases c : b = 0
  · subst c
    have e : dvI a 0 = 18446744073709551615 := by simp [dvI]
    have e2 : lfI a 0 = 0 := by simp [lfI]
    rw [e, e2]; clear e e2
    go_enter Try.func60, Try.ntmps60
    go_wp2
    go_ret2
    exact ⟨rfl, Drew.refl _⟩
  · have e : dvI a b = a / b := by simp [dvI, c]
    have e2 : lfI a b = a % b := by simp [lfI, c]
    rw [e, e2]; clear e e2
    have c1 : (b == 0) = false := by simpa using c
    have d := div_le_of a b ha hb
    unfold U at *
    go_enter Try.func60, Try.ntmps60
    go_wp2
    go_quiet (fail)
    go_wp2
    go_ret2
    exact ⟨rfl, Drew.of _ _⟩

theorem num_div (a b : Int) (w : World) (ha : U a) (hb : U b) :
    Calls Try.prog 33 #[.int .u64 a, .int .u64 b] w fun e w' => e = .returned (.int .u64 (dvI a b)) ∧ Drew w w' := by
  go_enter Try.func33, Try.ntmps33
  go_wp2_with (go_at_call 60; ((with_reducible refine (num_quot _ _ _ ha hb).mono ?_); rintro e w' ⟨rfl, gw⟩))
  go_ret
  exact ⟨rfl, gw⟩

theorem rmul_any (a b : Int) (w : World) (ha : U a) (hb : U b) :
    Calls Try.prog 32 #[.int .u64 a, .int .u64 b] w fun e w' => e = .returned (.tuple #[.int .u64 (muH a b), .int .u64 (muL a b)]) ∧ w = w' := by
  have hz := mulAt_zero a b hb
  go_enter Try.func32, Try.ntmps32
  go_wp2
  go_loop [6, 7, 8] (fun x y i => ∃ (k : Nat) (x' y' : Int), k ≤ 64 ∧ i = .int .i64 ((k : Int) - 1) ∧ x = .int .u64 x' ∧ y = .int .u64 y' ∧ MulAt a b k x' y') (fun _ _ i => (intOf i + 1).toNat)
  case atStart => exact ⟨64, 0, 0, by omega, rfl, rfl, rfl, hz⟩
  case round =>
    obtain ⟨k, x', y', hk, rfl, rfl, rfl, hr⟩ := hrel
    clear hz
    obtain _ | k := k
    · obtain ⟨e1, e2⟩ := mulAt_end a b x' y' hr
      subst e1 e2
      clear hr
      have z : (((0 : Nat) : Int) - 1) = -1 := rfl
      rw [z]
      clear z
      go_wp2
      go_ret2
      exact ⟨rfl, rfl⟩
    · obtain ⟨x0, uy, ux, y0, y1⟩ := mulAt_step a b k x' y' ha hb hr
      clear hr
      have Y0 := Lib.hid y0
      have Y1 := Lib.hid y1
      clear y0 y1
      have e : (((k + 1 : Nat) : Int) - 1) = (k : Int) := by omega
      rw [e]
      clear e
      have hb0 := (div_pow_nonneg b k hb.1).1
      unfold U at ha uy ux
      go_wp2
      · rename_i g1 g2
        have g1' : b / 2 ^ k % 2 = 1 := by simpa using g1
        obtain ⟨m1, m2⟩ := Y1.out g1'
        unfold U at m2
        simp only [IntKind.wrap_u64] at g2 ⊢
        refine ⟨⟨k, _, _, by omega, rfl, ?_, ?_, m1⟩, by simp [intOf]⟩
        · exact congrArg (Value.int IntKind.u64) (by omega)
        · exact congrArg (Value.int IntKind.u64) (by omega)
      · rename_i g1 g2
        have g1' : b / 2 ^ k % 2 = 1 := by simpa using g1
        obtain ⟨m1, m2⟩ := Y1.out g1'
        unfold U at m2
        simp only [IntKind.wrap_u64] at g2 ⊢
        refine ⟨⟨k, _, _, by omega, rfl, ?_, ?_, m1⟩, by simp [intOf]⟩
        · exact congrArg (Value.int IntKind.u64) (by omega)
        · exact congrArg (Value.int IntKind.u64) (by omega)
      · rename_i g1
        have g1' : b / 2 ^ k % 2 = 0 := by have := beq_eq_false_iff_ne.mp g1; omega
        have m1 := Y0.out g1'
        simp only [IntKind.wrap_u64]
        refine ⟨⟨k, _, _, by omega, rfl, ?_, ?_, m1⟩, by simp [intOf]⟩
        · exact congrArg (Value.int IntKind.u64) (by omega)
        · exact congrArg (Value.int IntKind.u64) (by omega)

theorem ref_mul (a b : Int) (w : World) (ha : U a) (hb : U b) :
    Calls Try.prog 20 #[.int .u64 a, .int .u64 b] w fun e w' => e = .returned (.int .u64 (sat (a * b))) ∧ w = w' := by
  rw [← stop_mul a b ha hb]
  have hh := muH_U a b ha hb
  have m := rmul_any a b w ha hb
  by_cases c : muH a b = 0
  · have e : stopV (muH a b) (muL a b) = muL a b := by simp [stopV, c]
    rw [e]; clear e
    rw [c] at m
    generalize muL a b = l at *
    clear c hh
    go_enter Try.func20, Try.ntmps20
    go_wp2_with (go_at_call 32; ((with_reducible refine m.mono ?_); rintro e w' ⟨rfl, rfl⟩))
    go_ret
    exact ⟨rfl, rfl⟩
  · have e : stopV (muH a b) (muL a b) = 18446744073709551615 := by simp [stopV, c]
    rw [e]; clear e
    have h : 0 < muH a b := by unfold U at hh; omega
    generalize muL a b = l at *
    generalize muH a b = x at *
    clear c hh
    go_enter Try.func20, Try.ntmps20
    go_wp2_with (go_at_call 32; ((with_reducible refine m.mono ?_); rintro e w' ⟨rfl, rfl⟩))
    go_ret
    exact ⟨rfl, rfl⟩

theorem ref_div (a b : Int) (w : World) (ha : U a) (hb : U b) :
    Calls Try.prog 46 #[.int .u64 a, .int .u64 b] w fun e w' => e = .returned (.int .u64 (dvI a b)) ∧ w = w' := by
  by_cases c : b = 0
  · subst c
    have e : dvI a 0 = 18446744073709551615 := by simp [dvI]
    rw [e]; clear e
    go_enter Try.func46, Try.ntmps46
    go_wp2
    go_ret
    exact ⟨rfl, rfl⟩
  · have e : dvI a b = a / b := by simp [dvI, c]
    rw [e]; clear e
    have c1 : (b == 0) = false := by simpa using c
    have d := div_le_of a b ha hb
    unfold U at *
    go_enter Try.func46, Try.ntmps46
    go_wp2
    go_ret
    exact ⟨rfl, rfl⟩
end Go.Proofs.Ytodmjnbepfkibaa.Wd
