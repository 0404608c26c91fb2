/- What the document's own Less, Add, Mul, Div and MulDiv answer: the same numbers as the program's; for any numbers of 64 bits. -/
import Derived.Test.YtcfcecogkjoifaaWalkB
import Derived.Test.YtcfcecogkjoifaaMathR
namespace Go.Proofs.Ytcfcecogkjoifaa.Wd
open Go.RowKit

theorem rless_any (ah al bh bl : Int) (w : World) :
    Calls Try.prog 21 #[.int .u64 ah, .int .u64 al, .int .u64 bh, .int .u64 bl] w fun e w' => e = .returned (.bool (ltB ah al bh bl)) ∧ w = w' := by
  by_cases h : ah < bh
  · have e : ltB ah al bh bl = true := by simp [ltB, h]
    rw [e]; clear e
    go_enter Try.func21, Try.ntmps21
    go_wp2
    all_goals (go_ret; exact ⟨rfl, rfl⟩)
  · by_cases h2 : ah = bh
    · subst h2
      have e : ltB ah al ah bl = decide (al < bl) := by simp [ltB]
      rw [e]; clear e
      go_enter Try.func21, Try.ntmps21
      go_wp2
      all_goals (go_ret; exact ⟨rfl, rfl⟩)
    · have e : ltB ah al bh bl = false := by simp [ltB, h, h2]
      rw [e]; clear e
      have h3 : decide (ah < bh) = false := by simpa using h
      have h4 : (ah == bh) = false := by simpa using h2
      go_enter Try.func21, Try.ntmps21
      go_wp2
      all_goals (go_ret; exact ⟨rfl, rfl⟩)

theorem radd_any (ah al bh bl : Int) (w : World) (h1 : U ah) (h2 : U al) (h3 : U bh) (h4 : U bl) :
    Calls Try.prog 18 #[.int .u64 ah, .int .u64 al, .int .u64 bh, .int .u64 bl] w fun e w' => e = .returned (.tuple #[.int .u64 (adH ah al bh bl), .int .u64 (adL al bl), .bool (adC ah al bh bl)]) ∧ w = w' := by
  unfold U at *
  go_enter Try.func18, Try.ntmps18
  go_wp2
  all_goals
    go_ret3
    refine ⟨ret3 ?_ ?_ ?_, rfl⟩
    · unfold adH; simp only [IntKind.wrap_u64] at *; omega
    · unfold adL; simp only [IntKind.wrap_u64] at *
    · unfold adC; rw [Bool.eq_iff_iff]; simp only [IntKind.wrap_u64, decide_eq_true_eq, true_iff] at *; omega

theorem rmul_any (a b : Int) (w : World) (ha : U a) (hb : U b) :
    Calls Try.prog 17 #[.int .u64 a, .int .u64 b] w fun e w' => e = .returned (.tuple #[.int .u64 (muH a b), .int .u64 (muL a b)]) ∧ w = w' := by
  have hz := mulAt_zero a b hb
  go_enter Try.func17, Try.ntmps17
  go_wp2
  go_loop [6, 7, 8] (fun x y i => ∃ (k : Nat) (x' y' : Int), k ≤ 64 ∧ i = .int .i64 ((k : Int) - 1) ∧ x = .int .u64 x' ∧ y = .int .u64 y' ∧ MulAt a b k x' y') (fun _ _ i => (intOf i + 1).toNat)
  case atStart => exact ⟨64, 0, 0, by omega, rfl, rfl, rfl, hz⟩
  case round =>
    obtain ⟨k, x', y', hk, rfl, rfl, rfl, hr⟩ := hrel
    clear hz
    obtain _ | k := k
    · obtain ⟨e1, e2⟩ := mulAt_end a b x' y' hr
      subst e1 e2
      clear hr
      have z : (((0 : Nat) : Int) - 1) = -1 := rfl
      rw [z]
      clear z
      go_wp2
      go_ret2
      exact ⟨rfl, rfl⟩
    · obtain ⟨x0, uy, ux, y0, y1⟩ := mulAt_step a b k x' y' ha hb hr
      clear hr
      have Y0 := Lib.hid y0
      have Y1 := Lib.hid y1
      clear y0 y1
      have e : (((k + 1 : Nat) : Int) - 1) = (k : Int) := by omega
      rw [e]
      clear e
      have hb0 := (div_pow_nonneg b k hb.1).1
      unfold U at ha uy ux
      go_wp2
      · rename_i g1 g2
        have g1' : b / 2 ^ k % 2 = 1 := by simpa using g1
        obtain ⟨m1, m2⟩ := Y1.out g1'
        unfold U at m2
        simp only [IntKind.wrap_u64] at g2 ⊢
        refine ⟨⟨k, _, _, by omega, rfl, ?_, ?_, m1⟩, by simp [intOf]⟩
        · exact congrArg (Value.int IntKind.u64) (by omega)
        · exact congrArg (Value.int IntKind.u64) (by omega)
      · rename_i g1 g2
        have g1' : b / 2 ^ k % 2 = 1 := by simpa using g1
        obtain ⟨m1, m2⟩ := Y1.out g1'
        unfold U at m2
        simp only [IntKind.wrap_u64] at g2 ⊢
        refine ⟨⟨k, _, _, by omega, rfl, ?_, ?_, m1⟩, by simp [intOf]⟩
        · exact congrArg (Value.int IntKind.u64) (by omega)
        · exact congrArg (Value.int IntKind.u64) (by omega)
      · rename_i g1
        have g1' : b / 2 ^ k % 2 = 0 := by have := beq_eq_false_iff_ne.mp g1; omega
        have m1 := Y0.out g1'
        simp only [IntKind.wrap_u64]
        refine ⟨⟨k, _, _, by omega, rfl, ?_, ?_, m1⟩, by simp [intOf]⟩
        · exact congrArg (Value.int IntKind.u64) (by omega)
        · exact congrArg (Value.int IntKind.u64) (by omega)

theorem rdiv_no (h l d : Int) (w : World) (c : d ≤ h) :
    Calls Try.prog 19 #[.int .u64 h, .int .u64 l, .int .u64 d] w fun e w' => e = .returned (.tuple #[.int .u64 0, .int .u64 0, .bool false]) ∧ w = w' := by
  go_enter Try.func19, Try.ntmps19
  go_wp2
  go_ret3
  exact ⟨rfl, rfl⟩

theorem rdiv_yes (h l d : Int) (w : World) (hh : U h) (hl : U l) (hd : U d) (c : h < d) :
    Calls Try.prog 19 #[.int .u64 h, .int .u64 l, .int .u64 d] w fun e w' => e = .returned (.tuple #[.int .u64 (diQ h l d), .int .u64 (diR h l d), .bool true]) ∧ w = w' := by
  have hz := rdivAt_zero h l d hh hl c
  unfold U at hd
  go_enter Try.func19, Try.ntmps19
  go_wp2
  go_loop [9, 10, 11] (fun q r i => ∃ (k : Nat) (q' r' : Int), k ≤ 64 ∧ i = .int .i64 ((k : Int) - 1) ∧ q = .int .u64 q' ∧ r = .int .u64 r' ∧ RDivAt h l d k q' r') (fun _ _ i => (intOf i + 1).toNat)
  case atStart => exact ⟨64, 0, h, by omega, rfl, rfl, rfl, hz⟩
  case round =>
    obtain ⟨k, q', r', hk, rfl, rfl, rfl, hr⟩ := hrel
    clear hz
    obtain _ | k := k
    · obtain ⟨e1, e2⟩ := rdivAt_end h l d q' r' hr
      subst e1 e2
      clear hr
      have z : (((0 : Nat) : Int) - 1) = -1 := rfl
      rw [z]
      clear z
      go_wp2
      go_ret3
      exact ⟨rfl, rfl⟩
    · obtain ⟨s0, s1, q0, q1, ul, y1, y2⟩ := rdivAt_step h l d k q' r' hh hl c (by omega) hr
      clear hr
      have Y1 := Lib.hid y1
      have Y2 := Lib.hid y2
      clear y1 y2
      have e : (((k + 1 : Nat) : Int) - 1) = (k : Int) := by omega
      rw [e]
      clear e
      go_wp2
      · rename_i g
        simp only [IntKind.wrap_u64]
        refine ⟨⟨k, 2 * q' + 1, 2 * r' + l / 2 ^ k % 2 - d, by omega, rfl, ?_, ?_, Y1.out (by omega)⟩, by simp [intOf]⟩
        · exact congrArg (Value.int IntKind.u64) (by omega)
        · exact congrArg (Value.int IntKind.u64) (by omega)
      · rename_i g1 g2
        have g3 : d ≤ r' * 2 + l / 2 ^ k % 2 := by
          rcases g2 with g2 | g2
          · exact absurd (by simpa using g2) g1
          · omega
        simp only [IntKind.wrap_u64]
        refine ⟨⟨k, 2 * q' + 1, 2 * r' + l / 2 ^ k % 2 - d, by omega, rfl, ?_, ?_, Y1.out (by omega)⟩, by simp [intOf]⟩
        · exact congrArg (Value.int IntKind.u64) (by omega)
        · exact congrArg (Value.int IntKind.u64) (by omega)
      · rename_i g1 g2
        have g3 := g2.2
        refine ⟨⟨k, 2 * q', 2 * r' + l / 2 ^ k % 2, by omega, rfl, ?_, ?_, Y2.out (by omega)⟩, by simp [intOf]⟩
        · exact congrArg (Value.int IntKind.u64) (by omega)
        · exact congrArg (Value.int IntKind.u64) (by omega)

theorem rmulDiv_yes (a b d : Int) (w : World) (ha : U a) (hb : U b) (hd : U d) (c : muH a b < d) :
    Calls Try.prog 20 #[.int .u64 a, .int .u64 b, .int .u64 d] w fun e w' => e = .returned (.tuple #[.int .u64 (diQ (muH a b) (muL a b) d), .bool true]) ∧ w = w' := by
  have hH := muH_U a b ha hb
  have hL := muL_U a b
  go_enter Try.func20, Try.ntmps20
  go_wp2_with (first
    | (go_at_call 17; ((with_reducible refine (rmul_any _ _ _ ha hb).mono ?_); rintro e w' ⟨rfl, rfl⟩))
    | (go_at_call 19; ((with_reducible refine (rdiv_yes _ _ _ _ hH hL hd c).mono ?_); rintro e w'' ⟨rfl, rfl⟩)))
  go_ret2
  exact ⟨rfl, rfl⟩

theorem rmulDiv_no (a b d : Int) (w : World) (ha : U a) (hb : U b) (c : d ≤ muH a b) :
    Calls Try.prog 20 #[.int .u64 a, .int .u64 b, .int .u64 d] w fun e w' => e = .returned (.tuple #[.int .u64 0, .bool false]) ∧ w = w' := by
  go_enter Try.func20, Try.ntmps20
  go_wp2_with (first
    | (go_at_call 17; ((with_reducible refine (rmul_any _ _ _ ha hb).mono ?_); rintro e w' ⟨rfl, rfl⟩))
    | (go_at_call 19; ((with_reducible refine (rdiv_no _ _ _ _ c).mono ?_); rintro e w'' ⟨rfl, rfl⟩)))
  go_ret2
  exact ⟨rfl, rfl⟩
end Go.Proofs.Ytcfcecogkjoifaa.Wd
