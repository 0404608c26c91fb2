/- tollerlaw03.DigitWidths answers true, for any byte; no conditions. -/
import Derived.Test.YtimhjfjhhiddoaaDigK
namespace Go.Proofs.Ytimhjfjhhiddoaa.Wd
open Go.RowKit Go.Lib

theorem pow_le19 (j : Nat) (h : j ≤ 19) : 10 ^ j ≤ 10000000000000000000 := by
  have := Nat.pow_le_pow_right (show 0 < 10 by omega) h
  exact Nat.le_trans this (by decide)
theorem pow_pos10 (j : Nat) : 1 ≤ 10 ^ j := Nat.one_le_pow _ _ (by decide)
theorem pow_len (j : Nat) : (decDigits (10 ^ j)).length = j + 1 := by
  rw [decDigits_length]
  exact nDigits_unique j _ (Nat.le_refl _) (Nat.pow_lt_pow_right (by omega) (by omega))
theorem pow_len1 (j : Nat) : (decDigits (10 ^ (j + 1) - 1)).length = j + 1 := by
  rw [decDigits_length]
  have h := pow_pos10 j
  rw [Nat.pow_succ]
  refine nDigits_unique j _ (by omega) ?_
  rw [Nat.pow_succ]; omega
theorem pow_head (j : Nat) : (decDigits (10 ^ j)).head? = some 49 := by
  induction j with
  | zero => rw [Nat.pow_zero, dec_small (by omega)]; rfl
  | succ j ih =>
    have h := pow_pos10 j
    rw [Nat.pow_succ, dec_big (by omega), List.head?_append, show 10 ^ j * 10 / 10 = 10 ^ j by omega, ih]; rfl

theorem widths_any (k : Int) (w : World) (hk : 0 ≤ k ∧ k ≤ 255) :
    Calls Try.prog 8 #[.int .u8 k] w fun e w' => e = .returned (.bool true) ∧ Kept w w' := by
  obtain ⟨K, hK⟩ : ∃ K : Nat, k % 20 = (K : Int) := ⟨(k % 20).toNat, by omega⟩
  have hK19 : K ≤ 19 := by omega
  go_enter Try.func8, Try.ntmps8
  go_wp2
  go_loop [3, 4] (fun p i => ∃ j m : Nat, i = .int .i64 j ∧ p = .int .u64 m ∧ j ≤ K ∧ Hid (m = 10 ^ j) ∧ m ≤ 10000000000000000000) (fun _ i => K - (intOf i).toNat)
  case atStart => exact ⟨0, 1, rfl, rfl, by omega, Lib.hid rfl, by omega⟩
  case round =>
    obtain ⟨j, m, rfl, rfl, hj, M, hm⟩ := hrel
    by_cases hlt : j < K
    · have hle := pow_le19 (j + 1) (by omega)
      rw [Nat.pow_succ, ← M.out] at hle
      go_wp2
      refine ⟨⟨j + 1, m * 10, by go_num, by go_num, by omega, Lib.hid (by rw [Nat.pow_succ, ← M.out]), hle⟩, by simp [intOf]; omega⟩
    · obtain rfl : j = K := by omega
      have hw := pow_len j
      have hh := pow_head j
      rw [← M.out] at hw hh
      have w1 := fun W => width_any m W (by omega)
      have p1 := fun W => print_any m W (by omega)
      rw [hw] at w1
      have hsz := str_size (decDigits m)
      rw [hw] at hsz
      have h0 : 0 < (str (decDigits m)).size := by omega
      have hb : (str (decDigits m))[0] = 49 := by
        have e := list_head (str (decDigits m)) h0
        rw [str_data, hh] at e
        simpa using e.symm
      have hbn : ((str (decDigits m))[0].toNat : Int) = 49 := by rw [hb]; rfl
      generalize str (decDigits m) = X at *
      have hpos := pow_pos10 j
      rw [← M.out] at hpos
      clear hw hh hb hsz
      by_cases h1 : m = 1
      · subst h1
        rw [show ((1 : Nat) : Int) = 1 from rfl] at w1 p1
        clear hpos
        go_wp2_with (first
          | (go_at_call 9; refine (known_any _).mono ?_; rintro e w3 ⟨rfl, g3⟩)
          | (go_at_call 13; (with_reducible refine (w1 _).mono ?_); rintro e w4 ⟨rfl, g4⟩)
          | (go_at_call 12; (with_reducible refine (p1 _).mono ?_); rintro e w5 ⟨rfl, g5⟩))
        go_ret
        exact ⟨rfl, (g3.trans g4).trans g5⟩
      · obtain ⟨i, rfl⟩ : ∃ i, j = i + 1 := ⟨j - 1, by
          by_cases e : j = 0
          · subst e; exact absurd M.out h1
          · omega⟩
        have w2 := fun W => width_any (m - 1) W (by omega)
        have e := pow_len1 i
        rw [← M.out] at e
        rw [e, show ((m - 1 : Nat) : Int) = (m : Int) - 1 by omega] at w2
        have h1' : ¬ (m : Int) = 1 := by omega
        clear e h1
        go_wp2_with (first
          | (go_at_call 9; refine (known_any _).mono ?_; rintro e w3 ⟨rfl, g3⟩)
          | (go_at_call 13; first | ((with_reducible refine (w1 _).mono ?_); rintro e w4 ⟨rfl, g4⟩) | ((with_reducible refine (w2 _).mono ?_); rintro e w6 ⟨rfl, g6⟩))
          | (go_at_call 12; (with_reducible refine (p1 _).mono ?_); rintro e w5 ⟨rfl, g5⟩))
        go_ret
        exact ⟨rfl, ((g3.trans g4).trans g6).trans g5⟩
end Go.Proofs.Ytimhjfjhhiddoaa.Wd
