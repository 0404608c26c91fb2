/- The laws KernelNone and KernelUntil answer true, for any state and any numbers; no conditions. -/
import Derived.Test.YtodmjnbepfkibaaKerK
import Derived.Test.YtodmjnbepfkibaaKerT
namespace Go.Proofs.Ytodmjnbepfkibaa.Wd
open Go.RowKit
set_option linter.unusedVariables false

theorem Row3.lt {w : World} {B : Nat} {x y z : Value} (h : Row3 w B x y z) : B < w.heap.size := by
  by_cases hb : B < w.heap.size
  · exact hb
  · have c := h.1.1; simp [World.cell?, hb] at c
theorem row3_new (w : World) (t : TypeId) (x y z : Value) : Row3 (w.alloc (.cells #[x, y, z] t)) w.heap.size x y z := ⟨⟨by simp, by simp, by simp⟩, by simp, by simp, by simp⟩

theorem kernelNone_in (k0 a0 b0 kind now most v dk da dt oa ob mk ma mb : Int) (p : Bool) (w : World) (h1 : 1 ≤ kind) (h2 : kind ≤ 3)
    (D : Hid (∀ w, Calls Try.prog 16 #[sta kind a0 b0, .int .u64 now, .int .u64 most, .int .u64 v] w fun e w' => e = .returned (.tuple #[sta dk da dt, .bool p]) ∧ Kept w w'))
    (O : Hid (∀ w, Calls Try.prog 14 #[.int .u8 kind, .int .u64 now, .int .u64 most, .int .u64 v] w fun e w' => e = .returned (.tuple #[sta kind oa ob, .int .u16 0]) ∧ Kept w w'))
    (M : Hid (∀ w, Calls Try.prog 15 #[sta kind a0 b0, .int .u8 1, .int .u64 now, .int .u64 most] w fun e w' => e = .returned (.tuple #[sta mk ma mb, .int .u16 0]) ∧ Kept w w'))
    (R : Hid (∀ w, Calls Try.prog 12 #[.int .u8 kind] w fun e w' => e = .returned (.bool true) ∧ Kept w w')) :
    Calls Try.prog 9 #[sta k0 a0 b0, .int .u8 kind, .int .u64 now, .int .u64 most, .int .u64 v] w fun e w' => e = .returned (.bool true) ∧ Kept w w' := by
  have s0 := row3_new w 24 (.int .u8 kind) (.int .u64 a0) (.int .u64 b0)
  go_enter Try.func9, Try.ntmps9
  go_wp2_with (first
    | (go_at_call 16; ((with_reducible refine (D.out _).mono ?_); rintro e w1 ⟨rfl, g1⟩; (first | with_reducible (replace s0 := s0.kept g1) | with_reducible (replace s0 := s0.kept (((Kept.refl _).alloc _ _).trans g1)) | with_reducible (replace s0 := s0.kept ((((Kept.refl _).alloc _ _).alloc _ _).trans g1))); obtain ⟨⟨s00_1, s01_1, s02_1⟩, s0f_1⟩ := id s0; have s0z_1 := s0.lt))
    | (go_at_call 14; ((with_reducible refine (O.out _).mono ?_); rintro e w2 ⟨rfl, g2⟩; (first | with_reducible (replace s0 := s0.kept g2) | with_reducible (replace s0 := s0.kept (((Kept.refl _).alloc _ _).trans g2)) | with_reducible (replace s0 := s0.kept ((((Kept.refl _).alloc _ _).alloc _ _).trans g2))); obtain ⟨⟨s00_2, s01_2, s02_2⟩, s0f_2⟩ := id s0; have s0z_2 := s0.lt; have s2 := row3_new w2 24 (.int .u8 kind) (.int .u64 oa) (.int .u64 ob)))
    | (go_at_call 15; ((with_reducible refine (M.out _).mono ?_); rintro e w3 ⟨rfl, g3⟩; (first | with_reducible (replace s2 := s2.kept g3) | with_reducible (replace s2 := s2.kept (((Kept.refl _).alloc _ _).trans g3)) | with_reducible (replace s2 := s2.kept ((((Kept.refl _).alloc _ _).alloc _ _).trans g3))); obtain ⟨⟨s20_3, s21_3, s22_3⟩, s2f_3⟩ := id s2; have s2z_3 := s2.lt))
    | (go_at_call 10; ((with_reducible refine (known_any _).mono ?_); rintro e w4 ⟨rfl, g4⟩; (first | with_reducible (replace s2 := s2.kept g4) | with_reducible (replace s2 := s2.kept (((Kept.refl _).alloc _ _).trans g4)) | with_reducible (replace s2 := s2.kept ((((Kept.refl _).alloc _ _).alloc _ _).trans g4))); obtain ⟨⟨s20_4, s21_4, s22_4⟩, s2f_4⟩ := id s2; have s2z_4 := s2.lt))
    | (go_at_call 12; ((with_reducible refine (R.out _).mono ?_); rintro e w5 ⟨rfl, g5⟩; (first | with_reducible (replace s2 := s2.kept g5) | with_reducible (replace s2 := s2.kept (((Kept.refl _).alloc _ _).trans g5)) | with_reducible (replace s2 := s2.kept ((((Kept.refl _).alloc _ _).alloc _ _).trans g5))); obtain ⟨⟨s20_5, s21_5, s22_5⟩, s2f_5⟩ := id s2; have s2z_5 := s2.lt)))
  go_ret
  exact ⟨rfl, ((((((((Kept.refl w).alloc _ _).trans g1).alloc _ _).trans g2).alloc _ _).trans g3 |>.alloc _ _).trans g4).trans g5⟩

theorem kernelNone_out (k0 a0 b0 kind now most v ma mb mk : Int) (w : World) (h1 : kind < 1 ∨ 3 < kind)
    (D : Hid (∀ w, Calls Try.prog 16 #[sta kind a0 b0, .int .u64 now, .int .u64 most, .int .u64 v] w fun e w' => e = .returned (.tuple #[sta kind a0 b0, .bool false]) ∧ Kept w w'))
    (O : Hid (∀ w, Calls Try.prog 14 #[.int .u8 kind, .int .u64 now, .int .u64 most, .int .u64 v] w fun e w' => e = .returned (.tuple #[sta 0 0 0, .int .u16 27]) ∧ Kept w w'))
    (M : Hid (∀ w, Calls Try.prog 15 #[sta kind a0 b0, .int .u8 1, .int .u64 now, .int .u64 most] w fun e w' => e = .returned (.tuple #[sta mk ma mb, .int .u16 27]) ∧ Kept w w'))
    (F : Hid (∀ w, Calls Try.prog 17 #[sta kind a0 b0, .int .u64 now, .int .u64 most] w fun e w' => e = .returned (.int .u64 0) ∧ Kept w w'))
    (N : Hid (∀ w, Calls Try.prog 18 #[sta kind a0 b0, .int .u64 now, .int .u64 most] w fun e w' => e = .returned (.int .u64 0) ∧ Kept w w'))
    (R : Hid (∀ w, Calls Try.prog 12 #[.int .u8 kind] w fun e w' => e = .returned (.bool false) ∧ Kept w w')) :
    Calls Try.prog 9 #[sta k0 a0 b0, .int .u8 kind, .int .u64 now, .int .u64 most, .int .u64 v] w fun e w' => e = .returned (.bool true) ∧ Kept w w' := by
  have s0 := row3_new w 24 (.int .u8 kind) (.int .u64 a0) (.int .u64 b0)
  rcases h1 with h1 | h1
  · have h1' : decide (1 ≤ kind) = false := by simp; omega
    go_enter Try.func9, Try.ntmps9
    go_wp2_with (first
      | (go_at_call 16; ((with_reducible refine (D.out _).mono ?_); rintro e w1 ⟨rfl, g1⟩; (first | with_reducible (replace s0 := s0.kept g1) | with_reducible (replace s0 := s0.kept (((Kept.refl _).alloc _ _).trans g1)) | with_reducible (replace s0 := s0.kept ((((Kept.refl _).alloc _ _).alloc _ _).trans g1))); obtain ⟨⟨s00_1, s01_1, s02_1⟩, s0f_1⟩ := id s0; have s0z_1 := s0.lt; have s1 := row3_new w1 24 (.int .u8 kind) (.int .u64 a0) (.int .u64 b0)))
      | (go_at_call 14; ((with_reducible refine (O.out _).mono ?_); rintro e w2 ⟨rfl, g2⟩; (first | with_reducible (replace s0 := s0.kept g2) | with_reducible (replace s0 := s0.kept (((Kept.refl _).alloc _ _).trans g2)) | with_reducible (replace s0 := s0.kept ((((Kept.refl _).alloc _ _).alloc _ _).trans g2))); obtain ⟨⟨s00_2, s01_2, s02_2⟩, s0f_2⟩ := id s0; have s0z_2 := s0.lt; (first | with_reducible (replace s1 := s1.kept g2) | with_reducible (replace s1 := s1.kept (((Kept.refl _).alloc _ _).trans g2)) | with_reducible (replace s1 := s1.kept ((((Kept.refl _).alloc _ _).alloc _ _).trans g2))); obtain ⟨⟨s10_2, s11_2, s12_2⟩, s1f_2⟩ := id s1; have s1z_2 := s1.lt; have s2 := row3_new w2 24 (.int .u8 0) (.int .u64 0) (.int .u64 0)))
      | (go_at_call 15; ((with_reducible refine (M.out _).mono ?_); rintro e w3 ⟨rfl, g3⟩; (first | with_reducible (replace s0 := s0.kept g3) | with_reducible (replace s0 := s0.kept (((Kept.refl _).alloc _ _).trans g3)) | with_reducible (replace s0 := s0.kept ((((Kept.refl _).alloc _ _).alloc _ _).trans g3))); obtain ⟨⟨s00_3, s01_3, s02_3⟩, s0f_3⟩ := id s0; have s0z_3 := s0.lt; (first | with_reducible (replace s1 := s1.kept g3) | with_reducible (replace s1 := s1.kept (((Kept.refl _).alloc _ _).trans g3)) | with_reducible (replace s1 := s1.kept ((((Kept.refl _).alloc _ _).alloc _ _).trans g3))); obtain ⟨⟨s10_3, s11_3, s12_3⟩, s1f_3⟩ := id s1; have s1z_3 := s1.lt; (first | with_reducible (replace s2 := s2.kept g3) | with_reducible (replace s2 := s2.kept (((Kept.refl _).alloc _ _).trans g3)) | with_reducible (replace s2 := s2.kept ((((Kept.refl _).alloc _ _).alloc _ _).trans g3))); obtain ⟨⟨s20_3, s21_3, s22_3⟩, s2f_3⟩ := id s2; have s2z_3 := s2.lt))
      | (go_at_call 10; ((with_reducible refine (known_any _).mono ?_); rintro e w4 ⟨rfl, g4⟩; (first | with_reducible (replace s0 := s0.kept g4) | with_reducible (replace s0 := s0.kept (((Kept.refl _).alloc _ _).trans g4)) | with_reducible (replace s0 := s0.kept ((((Kept.refl _).alloc _ _).alloc _ _).trans g4))); obtain ⟨⟨s00_4, s01_4, s02_4⟩, s0f_4⟩ := id s0; have s0z_4 := s0.lt; (first | with_reducible (replace s1 := s1.kept g4) | with_reducible (replace s1 := s1.kept (((Kept.refl _).alloc _ _).trans g4)) | with_reducible (replace s1 := s1.kept ((((Kept.refl _).alloc _ _).alloc _ _).trans g4))); obtain ⟨⟨s10_4, s11_4, s12_4⟩, s1f_4⟩ := id s1; have s1z_4 := s1.lt; (first | with_reducible (replace s2 := s2.kept g4) | with_reducible (replace s2 := s2.kept (((Kept.refl _).alloc _ _).trans g4)) | with_reducible (replace s2 := s2.kept ((((Kept.refl _).alloc _ _).alloc _ _).trans g4))); obtain ⟨⟨s20_4, s21_4, s22_4⟩, s2f_4⟩ := id s2; have s2z_4 := s2.lt))
      | (go_at_call 12; ((with_reducible refine (R.out _).mono ?_); rintro e w5 ⟨rfl, g5⟩; (first | with_reducible (replace s0 := s0.kept g5) | with_reducible (replace s0 := s0.kept (((Kept.refl _).alloc _ _).trans g5)) | with_reducible (replace s0 := s0.kept ((((Kept.refl _).alloc _ _).alloc _ _).trans g5))); obtain ⟨⟨s00_5, s01_5, s02_5⟩, s0f_5⟩ := id s0; have s0z_5 := s0.lt; (first | with_reducible (replace s1 := s1.kept g5) | with_reducible (replace s1 := s1.kept (((Kept.refl _).alloc _ _).trans g5)) | with_reducible (replace s1 := s1.kept ((((Kept.refl _).alloc _ _).alloc _ _).trans g5))); obtain ⟨⟨s10_5, s11_5, s12_5⟩, s1f_5⟩ := id s1; have s1z_5 := s1.lt; (first | with_reducible (replace s2 := s2.kept g5) | with_reducible (replace s2 := s2.kept (((Kept.refl _).alloc _ _).trans g5)) | with_reducible (replace s2 := s2.kept ((((Kept.refl _).alloc _ _).alloc _ _).trans g5))); obtain ⟨⟨s20_5, s21_5, s22_5⟩, s2f_5⟩ := id s2; have s2z_5 := s2.lt))
      | (go_at_call 17; ((with_reducible refine (F.out _).mono ?_); rintro e w6 ⟨rfl, g6⟩; (first | with_reducible (replace s0 := s0.kept g6) | with_reducible (replace s0 := s0.kept (((Kept.refl _).alloc _ _).trans g6)) | with_reducible (replace s0 := s0.kept ((((Kept.refl _).alloc _ _).alloc _ _).trans g6))); obtain ⟨⟨s00_6, s01_6, s02_6⟩, s0f_6⟩ := id s0; have s0z_6 := s0.lt; (first | with_reducible (replace s1 := s1.kept g6) | with_reducible (replace s1 := s1.kept (((Kept.refl _).alloc _ _).trans g6)) | with_reducible (replace s1 := s1.kept ((((Kept.refl _).alloc _ _).alloc _ _).trans g6))); obtain ⟨⟨s10_6, s11_6, s12_6⟩, s1f_6⟩ := id s1; have s1z_6 := s1.lt; (first | with_reducible (replace s2 := s2.kept g6) | with_reducible (replace s2 := s2.kept (((Kept.refl _).alloc _ _).trans g6)) | with_reducible (replace s2 := s2.kept ((((Kept.refl _).alloc _ _).alloc _ _).trans g6))); obtain ⟨⟨s20_6, s21_6, s22_6⟩, s2f_6⟩ := id s2; have s2z_6 := s2.lt))
      | (go_at_call 18; ((with_reducible refine (N.out _).mono ?_); rintro e w7 ⟨rfl, g7⟩; (first | with_reducible (replace s0 := s0.kept g7) | with_reducible (replace s0 := s0.kept (((Kept.refl _).alloc _ _).trans g7)) | with_reducible (replace s0 := s0.kept ((((Kept.refl _).alloc _ _).alloc _ _).trans g7))); obtain ⟨⟨s00_7, s01_7, s02_7⟩, s0f_7⟩ := id s0; have s0z_7 := s0.lt)))
    go_ret
    exact ⟨rfl, ((((((((((Kept.refl w).alloc _ _).trans g1).alloc _ _).trans g2).alloc _ _).trans g3 |>.alloc _ _).trans g4).trans g5).trans g6).trans g7⟩
  · have h0 : 1 ≤ kind := by omega
    have h1' : decide (kind ≤ 3) = false := by simp; omega
    go_enter Try.func9, Try.ntmps9
    go_wp2_with (first
      | (go_at_call 16; ((with_reducible refine (D.out _).mono ?_); rintro e w1 ⟨rfl, g1⟩; (first | with_reducible (replace s0 := s0.kept g1) | with_reducible (replace s0 := s0.kept (((Kept.refl _).alloc _ _).trans g1)) | with_reducible (replace s0 := s0.kept ((((Kept.refl _).alloc _ _).alloc _ _).trans g1))); obtain ⟨⟨s00_1, s01_1, s02_1⟩, s0f_1⟩ := id s0; have s0z_1 := s0.lt; have s1 := row3_new w1 24 (.int .u8 kind) (.int .u64 a0) (.int .u64 b0)))
      | (go_at_call 14; ((with_reducible refine (O.out _).mono ?_); rintro e w2 ⟨rfl, g2⟩; (first | with_reducible (replace s0 := s0.kept g2) | with_reducible (replace s0 := s0.kept (((Kept.refl _).alloc _ _).trans g2)) | with_reducible (replace s0 := s0.kept ((((Kept.refl _).alloc _ _).alloc _ _).trans g2))); obtain ⟨⟨s00_2, s01_2, s02_2⟩, s0f_2⟩ := id s0; have s0z_2 := s0.lt; (first | with_reducible (replace s1 := s1.kept g2) | with_reducible (replace s1 := s1.kept (((Kept.refl _).alloc _ _).trans g2)) | with_reducible (replace s1 := s1.kept ((((Kept.refl _).alloc _ _).alloc _ _).trans g2))); obtain ⟨⟨s10_2, s11_2, s12_2⟩, s1f_2⟩ := id s1; have s1z_2 := s1.lt; have s2 := row3_new w2 24 (.int .u8 0) (.int .u64 0) (.int .u64 0)))
      | (go_at_call 15; ((with_reducible refine (M.out _).mono ?_); rintro e w3 ⟨rfl, g3⟩; (first | with_reducible (replace s0 := s0.kept g3) | with_reducible (replace s0 := s0.kept (((Kept.refl _).alloc _ _).trans g3)) | with_reducible (replace s0 := s0.kept ((((Kept.refl _).alloc _ _).alloc _ _).trans g3))); obtain ⟨⟨s00_3, s01_3, s02_3⟩, s0f_3⟩ := id s0; have s0z_3 := s0.lt; (first | with_reducible (replace s1 := s1.kept g3) | with_reducible (replace s1 := s1.kept (((Kept.refl _).alloc _ _).trans g3)) | with_reducible (replace s1 := s1.kept ((((Kept.refl _).alloc _ _).alloc _ _).trans g3))); obtain ⟨⟨s10_3, s11_3, s12_3⟩, s1f_3⟩ := id s1; have s1z_3 := s1.lt; (first | with_reducible (replace s2 := s2.kept g3) | with_reducible (replace s2 := s2.kept (((Kept.refl _).alloc _ _).trans g3)) | with_reducible (replace s2 := s2.kept ((((Kept.refl _).alloc _ _).alloc _ _).trans g3))); obtain ⟨⟨s20_3, s21_3, s22_3⟩, s2f_3⟩ := id s2; have s2z_3 := s2.lt))
      | (go_at_call 10; ((with_reducible refine (known_any _).mono ?_); rintro e w4 ⟨rfl, g4⟩; (first | with_reducible (replace s0 := s0.kept g4) | with_reducible (replace s0 := s0.kept (((Kept.refl _).alloc _ _).trans g4)) | with_reducible (replace s0 := s0.kept ((((Kept.refl _).alloc _ _).alloc _ _).trans g4))); obtain ⟨⟨s00_4, s01_4, s02_4⟩, s0f_4⟩ := id s0; have s0z_4 := s0.lt; (first | with_reducible (replace s1 := s1.kept g4) | with_reducible (replace s1 := s1.kept (((Kept.refl _).alloc _ _).trans g4)) | with_reducible (replace s1 := s1.kept ((((Kept.refl _).alloc _ _).alloc _ _).trans g4))); obtain ⟨⟨s10_4, s11_4, s12_4⟩, s1f_4⟩ := id s1; have s1z_4 := s1.lt; (first | with_reducible (replace s2 := s2.kept g4) | with_reducible (replace s2 := s2.kept (((Kept.refl _).alloc _ _).trans g4)) | with_reducible (replace s2 := s2.kept ((((Kept.refl _).alloc _ _).alloc _ _).trans g4))); obtain ⟨⟨s20_4, s21_4, s22_4⟩, s2f_4⟩ := id s2; have s2z_4 := s2.lt))
      | (go_at_call 12; ((with_reducible refine (R.out _).mono ?_); rintro e w5 ⟨rfl, g5⟩; (first | with_reducible (replace s0 := s0.kept g5) | with_reducible (replace s0 := s0.kept (((Kept.refl _).alloc _ _).trans g5)) | with_reducible (replace s0 := s0.kept ((((Kept.refl _).alloc _ _).alloc _ _).trans g5))); obtain ⟨⟨s00_5, s01_5, s02_5⟩, s0f_5⟩ := id s0; have s0z_5 := s0.lt; (first | with_reducible (replace s1 := s1.kept g5) | with_reducible (replace s1 := s1.kept (((Kept.refl _).alloc _ _).trans g5)) | with_reducible (replace s1 := s1.kept ((((Kept.refl _).alloc _ _).alloc _ _).trans g5))); obtain ⟨⟨s10_5, s11_5, s12_5⟩, s1f_5⟩ := id s1; have s1z_5 := s1.lt; (first | with_reducible (replace s2 := s2.kept g5) | with_reducible (replace s2 := s2.kept (((Kept.refl _).alloc _ _).trans g5)) | with_reducible (replace s2 := s2.kept ((((Kept.refl _).alloc _ _).alloc _ _).trans g5))); obtain ⟨⟨s20_5, s21_5, s22_5⟩, s2f_5⟩ := id s2; have s2z_5 := s2.lt))
      | (go_at_call 17; ((with_reducible refine (F.out _).mono ?_); rintro e w6 ⟨rfl, g6⟩; (first | with_reducible (replace s0 := s0.kept g6) | with_reducible (replace s0 := s0.kept (((Kept.refl _).alloc _ _).trans g6)) | with_reducible (replace s0 := s0.kept ((((Kept.refl _).alloc _ _).alloc _ _).trans g6))); obtain ⟨⟨s00_6, s01_6, s02_6⟩, s0f_6⟩ := id s0; have s0z_6 := s0.lt; (first | with_reducible (replace s1 := s1.kept g6) | with_reducible (replace s1 := s1.kept (((Kept.refl _).alloc _ _).trans g6)) | with_reducible (replace s1 := s1.kept ((((Kept.refl _).alloc _ _).alloc _ _).trans g6))); obtain ⟨⟨s10_6, s11_6, s12_6⟩, s1f_6⟩ := id s1; have s1z_6 := s1.lt; (first | with_reducible (replace s2 := s2.kept g6) | with_reducible (replace s2 := s2.kept (((Kept.refl _).alloc _ _).trans g6)) | with_reducible (replace s2 := s2.kept ((((Kept.refl _).alloc _ _).alloc _ _).trans g6))); obtain ⟨⟨s20_6, s21_6, s22_6⟩, s2f_6⟩ := id s2; have s2z_6 := s2.lt))
      | (go_at_call 18; ((with_reducible refine (N.out _).mono ?_); rintro e w7 ⟨rfl, g7⟩; (first | with_reducible (replace s0 := s0.kept g7) | with_reducible (replace s0 := s0.kept (((Kept.refl _).alloc _ _).trans g7)) | with_reducible (replace s0 := s0.kept ((((Kept.refl _).alloc _ _).alloc _ _).trans g7))); obtain ⟨⟨s00_7, s01_7, s02_7⟩, s0f_7⟩ := id s0; have s0z_7 := s0.lt)))
    go_ret
    exact ⟨rfl, ((((((((((Kept.refl w).alloc _ _).trans g1).alloc _ _).trans g2).alloc _ _).trans g3 |>.alloc _ _).trans g4).trans g5).trans g6).trans g7⟩

theorem kernelNone_walk (k0 a0 b0 kind now most v : Int) (w : World) (u1 : U a0) (u2 : U b0) (hk : 0 ≤ kind ∧ kind ≤ 255) (u3 : U now) (u4 : U most) (u5 : U v) :
    Calls Try.prog 9 #[sta k0 a0 b0, .int .u8 kind, .int .u64 now, .int .u64 most, .int .u64 v] w fun e w' => e = .returned (.bool true) ∧ Kept w w' := by
  have d (w : World) := kdecide_any kind a0 b0 now most v w u1 u2 u3 u4 u5
  have o (w : World) := kof_any kind now most v w u3 u4 u5
  have m (w : World) := kmigrate_any kind a0 b0 1 now most w u1 u2 u3 u4
  have f (w : World) := kfill_any kind a0 b0 now most w u1 u2 u3 u4
  have n (w : World) := kuntil_any kind a0 b0 now most w u1 u2 u3 u4
  have r (w : World) := right_any kind w
  by_cases h : 1 ≤ kind ∧ kind ≤ 3
  · have h3 : Is3 kind := by unfold Is3; omega
    have h1 : Is3 1 := .inl rfl
    rw [koK_is h3, koE_is h3] at o
    rw [kmE_is h3 h1] at m
    rw [h3.isK] at r
    exact kernelNone_in k0 a0 b0 kind now most v _ _ _ _ _ _ _ _ _ w h.1 h.2 (Lib.hid d) (Lib.hid o) (Lib.hid m) (Lib.hid r)
  · have h3 : isK kind = false := by unfold isK; simpa using h
    obtain ⟨n1, n2, n3⟩ := isK_no kind h3
    have ed : kdB kind a0 b0 now most v = false := by unfold kdB; simp [n1, n2, n3]
    obtain ⟨e1, e2, e3⟩ := kd_no a0 b0 now most v ed
    have ef : kfI kind a0 b0 now most = 0 := by unfold kfI; simp [n1, n2, n3]
    have eo : koK kind = 0 ∧ koA kind now most v = 0 ∧ koB kind now = 0 ∧ koE kind = 27 := by unfold koK koA koB koE; simp [h3, n1, n2, n3]
    have em : kmE kind 1 = 27 := by unfold kmE; simp [h3]
    rw [ed, e1, e2, e3] at d
    rw [eo.1, eo.2.1, eo.2.2.1, eo.2.2.2] at o
    rw [em] at m
    rw [ef] at f n
    rw [h3] at r
    exact kernelNone_out k0 a0 b0 kind now most v _ _ _ w (by omega) (Lib.hid d) (Lib.hid o) (Lib.hid m) (Lib.hid f) (Lib.hid n) (Lib.hid r)
end Go.Proofs.Ytodmjnbepfkibaa.Wd
