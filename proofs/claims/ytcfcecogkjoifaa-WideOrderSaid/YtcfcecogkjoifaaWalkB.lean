/- What wide.Div and wide.MulDiv answer, for any numbers of 64 bits; no conditions. -/
import Derived.Test.YtcfcecogkjoifaaWalkA
namespace Go.Proofs.Ytcfcecogkjoifaa.Wd
open Go.RowKit

theorem div_no (h l d : Int) (w : World) (c : d ≤ h) :
    Calls Try.prog 12 #[.int .u64 h, .int .u64 l, .int .u64 d] w fun e w' => e = .returned (.tuple #[.int .u64 0, .int .u64 0, .bool false]) ∧ w = w' := by
  go_enter Try.func12, Try.ntmps12
  go_wp2
  go_ret3
  exact ⟨rfl, rfl⟩

theorem div_yes (h l d : Int) (w : World) (hh : U h) (hl : U l) (hd : U d) (c : h < d) :
    Calls Try.prog 12 #[.int .u64 h, .int .u64 l, .int .u64 d] w fun e w' => e = .returned (.tuple #[.int .u64 (diQ h l d), .int .u64 (diR h l d), .bool true]) ∧ w = w' := by
  have hz := divAt_zero h l d hh hl c
  unfold U at hd
  go_enter Try.func12, Try.ntmps12
  go_wp2
  go_loop [1, 9, 10, 16] (fun x q r i => ∃ (k : Nat) (l' q' r' : Int), k ≤ 64 ∧ i = .int .i64 k ∧ x = .int .u64 l' ∧ q = .int .u64 q' ∧ r = .int .u64 r' ∧ DivAt h l d k q' r' l') (fun _ _ _ i => 64 - (intOf i).toNat)
  case atStart => exact ⟨0, l, 0, h, by omega, rfl, rfl, rfl, rfl, hz⟩
  case round =>
    obtain ⟨k, l', q', r', hk, rfl, rfl, rfl, rfl, hr⟩ := hrel
    clear hz
    by_cases hlt : k < 64
    · obtain ⟨s0, s1, q0, q1, ul, y1, y2⟩ := divAt_step h l d k q' r' l' hlt hr
      unfold U at ul
      clear hr
      have Y1 := Lib.hid y1
      have Y2 := Lib.hid y2
      clear y1 y2
      go_wp2
      · rename_i g
        refine ⟨⟨k + 1, 2 * l' % 18446744073709551616, 2 * q' + 1, 2 * r' + l' / 9223372036854775808 - d, by omega, by go_num, ?_, ?_, ?_, Y1.out (by omega)⟩, by simp [intOf]; omega⟩
        · rw [IntKind.wrap_u64, Int.mul_comm]
        · rw [or_bit _ _ (by omega) (by omega) (by omega), Int.mul_comm]
        · rw [IntKind.wrap_u64 (r' * 2), or_bit _ _ (by omega) (by omega) (by omega), IntKind.wrap_u64]
          exact congrArg (Value.int IntKind.u64) (by omega)
      · rename_i g1 g2
        have e := or_bit (r' * 2) (l' / 9223372036854775808) (by omega) (by omega) (by omega)
        rw [e] at g2 ⊢
        have g3 : d ≤ r' * 2 + l' / 9223372036854775808 := by
          rcases g2 with g2 | g2
          · exact absurd (by simpa using g2) g1
          · exact g2
        refine ⟨⟨k + 1, 2 * l' % 18446744073709551616, 2 * q' + 1, 2 * r' + l' / 9223372036854775808 - d, by omega, by go_num, ?_, ?_, ?_, Y1.out (by omega)⟩, by simp [intOf]; omega⟩
        · rw [IntKind.wrap_u64, Int.mul_comm]
        · rw [or_bit _ _ (by omega) (by omega) (by omega), Int.mul_comm]
        · rw [IntKind.wrap_u64]
          exact congrArg (Value.int IntKind.u64) (by omega)
      · rename_i g1 g2
        have e := or_bit (r' * 2) (l' / 9223372036854775808) (by omega) (by omega) (by omega)
        rw [e] at g2 ⊢
        refine ⟨⟨k + 1, 2 * l' % 18446744073709551616, 2 * q', 2 * r' + l' / 9223372036854775808, by omega, by go_num, ?_, ?_, ?_, Y2.out (by have := g2.2; omega)⟩, by simp [intOf]; omega⟩
        · rw [IntKind.wrap_u64, Int.mul_comm]
        · rw [Int.mul_comm]
        · rw [Int.mul_comm]
    · obtain rfl : 64 = k := by omega
      obtain ⟨e1, e2⟩ := divAt_end h l d q' r' l' hr
      subst e1 e2
      clear hr
      go_wp2
      go_ret3
      exact ⟨rfl, rfl⟩

theorem ret2b {k : IntKind} {a b : Int} {p q : Bool} (h : a = b) (h'' : p = q) : Ending.returned (.tuple #[.int k a, .bool p]) = .returned (.tuple #[.int k b, .bool q]) := by rw [h, h'']

/-- A quotient of a product that fits. -/
theorem mulDiv_yes (a b d : Int) (w : World) (ha : U a) (hb : U b) (hd : U d) (c : muH a b < d) :
    Calls Try.prog 16 #[.int .u64 a, .int .u64 b, .int .u64 d] w fun e w' => e = .returned (.tuple #[.int .u64 (diQ (muH a b) (muL a b) d), .bool true]) ∧ Kept w w' := by
  have hH := muH_U a b ha hb
  have hL := muL_U a b
  go_enter Try.func16, Try.ntmps16
  go_wp2_with (first
    | (go_at_call 13; ((with_reducible refine (mul_any _ _ _ ha hb).mono ?_); rintro e w' ⟨rfl, gw⟩))
    | (go_at_call 12; ((with_reducible refine (div_yes _ _ _ _ hH hL hd c).mono ?_); rintro e w'' ⟨rfl, rfl⟩)))
  go_ret2
  exact ⟨rfl, gw⟩

theorem mulDiv_no (a b d : Int) (w : World) (ha : U a) (hb : U b) (c : d ≤ muH a b) :
    Calls Try.prog 16 #[.int .u64 a, .int .u64 b, .int .u64 d] w fun e w' => e = .returned (.tuple #[.int .u64 0, .bool false]) ∧ Kept w w' := by
  go_enter Try.func16, Try.ntmps16
  go_wp2_with (first
    | (go_at_call 13; ((with_reducible refine (mul_any _ _ _ ha hb).mono ?_); rintro e w' ⟨rfl, gw⟩))
    | (go_at_call 12; ((with_reducible refine (div_no _ _ _ _ c).mono ?_); rintro e w'' ⟨rfl, rfl⟩)))
  go_ret2
  exact ⟨rfl, gw⟩

/-- The chapter's examples stand. -/
theorem known_any (w : World) : Calls Try.prog 10 #[] w fun e w' => e = .returned (.bool true) ∧ Kept w w' := by
  have e1 : muH 9223372036854775808 6 = 3 := by decide
  have e2 : muL 9223372036854775808 6 = 0 := by decide
  have m := mul_any 9223372036854775808 6 w ⟨by omega, by omega⟩ ⟨by omega, by omega⟩
  rw [e1, e2] at m
  have d (w : World) := div_yes 3 0 6 w ⟨by omega, by omega⟩ ⟨by omega, by omega⟩ ⟨by omega, by omega⟩ (by omega)
  have e3 : diQ 3 0 6 = 9223372036854775808 := by decide
  have e4 : diR 3 0 6 = 0 := by decide
  rw [e3, e4] at d
  have l (w : World) := less_any 0 5 1 0 w
  have e5 : ltB 0 5 1 0 = true := by decide
  rw [e5] at l
  clear e1 e2 e3 e4 e5
  go_enter Try.func10, Try.ntmps10
  go_wp2_with (first
    | (go_at_call 13; ((with_reducible refine m.mono ?_); rintro e w' ⟨rfl, gw⟩))
    | (go_at_call 12; ((with_reducible refine (d _).mono ?_); rintro e w'' ⟨rfl, rfl⟩))
    | (go_at_call 15; ((with_reducible refine (l _).mono ?_); rintro e w'' ⟨rfl, rfl⟩)))
  go_ret
  exact ⟨rfl, gw⟩
end Go.Proofs.Ytcfcecogkjoifaa.Wd
