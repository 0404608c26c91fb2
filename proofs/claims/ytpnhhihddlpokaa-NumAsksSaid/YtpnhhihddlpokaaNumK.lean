/- The examples of chapter 2 stand; the law NumClamp answers true, for any numbers; no conditions. -/
import Derived.Test.YtpnhhihddlpokaaNumA
namespace Go.Proofs.Ytpnhhihddlpokaa.Wd
open Go.RowKit

theorem known2_any (w : World) : Calls Try.prog 10 #[] w fun e w' => e = .returned (.bool true) ∧ Kept w w' := by
  have a1 (c g : Nat) (w : World) := num_add_two g c 18446744073709551615 5 w ⟨by omega, by omega⟩ ⟨by omega, by omega⟩
  have e1 : sat (18446744073709551615 + 5) = 18446744073709551615 := by decide
  rw [e1] at a1
  have c1 (w : World) := num_ceil 7 2 w ⟨by omega, by omega⟩ ⟨by omega, by omega⟩
  have e2 : clI 7 2 = 4 := by decide
  rw [e2] at c1
  have d1 (w : World) := num_div 7 2 w ⟨by omega, by omega⟩ ⟨by omega, by omega⟩
  have e3 : dvI 7 2 = 3 := by decide
  rw [e3] at d1
  have s1 (w : World) := num_sub 3 5 w ⟨by omega, by omega⟩ ⟨by omega, by omega⟩
  have e4 : sbI 3 5 = 0 := by decide
  rw [e4] at s1
  have m1 (w : World) := num_clamp (-4) w ⟨by omega, by omega⟩
  have e5 : cmI (-4) = 0 := by decide
  rw [e5] at m1
  clear e1 e2 e3 e4 e5
  have A1 := Lib.hid a1
  have C1 := Lib.hid c1
  have D1 := Lib.hid d1
  have S1 := Lib.hid s1
  have M1 := Lib.hid m1
  clear a1 c1 d1 s1 m1
  have k0 : Kept w (w.alloc (.cells #[.int .u64 18446744073709551615, .int .u64 5] 22)) := (Kept.refl w).alloc _ _
  go_enter Try.func10, Try.ntmps10
  go_wp2_with (first
    | (go_at_call 14; ((with_reducible refine (A1.out _ _ _ (by simp) (by simp)).mono ?_); rintro e w' ⟨rfl, rfl⟩))
    | (go_at_call 14; ((with_reducible refine (num_add_nil _ _ _).mono ?_); rintro e w' ⟨rfl, rfl⟩))
    | (go_at_call 19; ((with_reducible refine (C1.out _).mono ?_); rintro e w1 ⟨rfl, g1⟩))
    | (go_at_call 18; ((with_reducible refine (D1.out _).mono ?_); rintro e w2 ⟨rfl, g2⟩))
    | (go_at_call 17; ((with_reducible refine (S1.out _).mono ?_); rintro e w3 ⟨rfl, rfl⟩))
    | (go_at_call 12; ((with_reducible refine (M1.out _).mono ?_); rintro e w3 ⟨rfl, rfl⟩)))
  go_ret
  exact ⟨rfl, g2.after (g1.after k0)⟩

theorem clamp_walk (s t : Int) (w : World) (hs : -9223372036854775808 ≤ s ∧ s ≤ 9223372036854775807) (ht : -9223372036854775808 ≤ t ∧ t ≤ 9223372036854775807) :
    Calls Try.prog 9 #[.int .i64 s, .int .i64 t] w fun e w' => e = .returned (.bool true) ∧ Kept w w' := by
  have k (w : World) := known2_any w
  have a1 (w : World) := num_clamp s w hs
  have b1 (w : World) := num_clamp t w ht
  have z1 (w : World) := num_clamp 0 w ⟨by omega, by omega⟩
  have e0 : cmI 0 = 0 := by decide
  rw [e0] at z1
  clear e0
  by_cases c : s < 0
  · have ea : cmI s = 0 := by simp [cmI, c]
    rw [ea] at a1
    clear ea
    have hb : 0 ≤ cmI t ∧ cmI t ≤ 9223372036854775807 := by unfold cmI; split <;> omega
    generalize cmI t = b at *
    have A1 := Lib.hid a1
    have B1 := Lib.hid b1
    have Z1 := Lib.hid z1
    have K := Lib.hid k
    clear a1 b1 z1 k
    by_cases d : t < s
    all_goals
      go_enter Try.func9, Try.ntmps9
      go_wp2_with (first
        | (go_at_call 12; ((with_reducible refine (A1.out _).mono ?_); rintro e w' ⟨rfl, rfl⟩))
        | (go_at_call 12; ((with_reducible refine (B1.out _).mono ?_); rintro e w' ⟨rfl, rfl⟩))
        | (go_at_call 12; ((with_reducible refine (Z1.out _).mono ?_); rintro e w' ⟨rfl, rfl⟩))
        | (go_at_call 10; ((with_reducible refine (K.out _).mono ?_); rintro e w' ⟨rfl, gw⟩)))
      go_ret
      exact ⟨rfl, gw⟩
  · have ea : cmI s = s := by simp [cmI, c]
    rw [ea] at a1
    clear ea
    have hb : 0 ≤ cmI t ∧ cmI t ≤ 9223372036854775807 ∧ (s ≤ t → s ≤ cmI t) := by unfold cmI; split <;> omega
    generalize cmI t = b at *
    have A1 := Lib.hid a1
    have B1 := Lib.hid b1
    have K := Lib.hid k
    clear a1 b1 z1 k
    obtain ⟨hb0, hb1, hb2⟩ := hb
    by_cases d : t < s
    · clear hb2
      go_enter Try.func9, Try.ntmps9
      go_wp2_with (first
        | (go_at_call 12; ((with_reducible refine (A1.out _).mono ?_); rintro e w' ⟨rfl, rfl⟩))
        | (go_at_call 12; ((with_reducible refine (B1.out _).mono ?_); rintro e w' ⟨rfl, rfl⟩))
        | (go_at_call 10; ((with_reducible refine (K.out _).mono ?_); rintro e w' ⟨rfl, gw⟩)))
      go_ret
      exact ⟨rfl, gw⟩
    · have hb3 : s ≤ b := hb2 (by omega)
      clear hb2
      go_enter Try.func9, Try.ntmps9
      go_wp2_with (first
        | (go_at_call 12; ((with_reducible refine (A1.out _).mono ?_); rintro e w' ⟨rfl, rfl⟩))
        | (go_at_call 12; ((with_reducible refine (B1.out _).mono ?_); rintro e w' ⟨rfl, rfl⟩))
        | (go_at_call 10; ((with_reducible refine (K.out _).mono ?_); rintro e w' ⟨rfl, gw⟩)))
      go_ret
      exact ⟨rfl, gw⟩
end Go.Proofs.Ytpnhhihddlpokaa.Wd
