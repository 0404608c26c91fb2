/- tollerlaw03.DigitSteps answers true, for any number of 64 bits and any two of 8; no conditions. -/
import Derived.Test.YtimhjfjhhiddoaaDigK
namespace Go.Proofs.Ytimhjfjhhiddoaa.Wd
open Go.RowKit Go.Lib

/-- One, and zeros. -/
def lng (j : Nat) : ByteArray := str (49 :: List.replicate j 48)
theorem lng_size (j : Nat) : (lng j).size = j + 1 := by rw [lng, str_size]; simp
theorem lng_add (P : Program) (W : World) (j : Nat) (h : j ≤ 100) : (Op.stringOp .add (lng j) ⟨#[48]⟩).run P W = .ok (.string (lng (j + 1))) W := by
  rw [run_string_add_sum W _ _ (by rw [lng_size]; show j + 1 + 1 ≤ _; omega)]
  unfold lng
  rw [show (ByteArray.mk #[48]) = str [48] from rfl, str_append, List.cons_append, ← List.replicate_succ']
theorem lng_plain (j : Nat) : plainB (49 :: List.replicate j 48) = true := by
  rw [plainB_iff]
  refine ⟨by simp, by simp, ?_⟩
  rw [List.all_eq_true]
  intro b hb
  simp only [List.mem_cons, List.mem_replicate] at hb
  rcases hb with rfl | ⟨_, rfl⟩ <;> decide
theorem lng_pa (j : Nat) (h : 20 ≤ j) : paE (lng j).data.toList = 11 := by
  unfold lng
  rw [str_data]
  exact (pa_big (lng_plain j) (plain_long _ (lng_plain j) (by simp; omega))).2
theorem lng_x (j : Nat) : paE ((lng j) ++ ⟨#[120]⟩).data.toList = 10 := by
  unfold lng
  rw [show (ByteArray.mk #[120]) = str [120] from rfl, str_append, str_data]
  refine (pa_not ?_).2
  rw [← Bool.not_eq_true, plainB_iff]
  rintro ⟨_, _, h⟩
  rw [List.all_eq_true] at h
  exact absurd (h 120 (by simp)) (by decide)
theorem two_zero (d : Nat) : paE (str (decDigits 0) ++ str (decDigits d)).data.toList = 10 := by
  rw [str_append, str_data]
  refine (pa_not ?_).2
  rw [← Bool.not_eq_true, plainB_iff]
  rintro ⟨_, h, _⟩
  have := dec_len1 d
  refine h ⟨?_, ?_⟩
  · rw [List.length_append, dec_small (show 0 < 10 by omega)]; simp; omega
  · rw [dec_small (show 0 < 10 by omega)]; rfl
theorem two_more (m d : Nat) (hm : 1 ≤ m) (hd : d < 10) (h : 10 * m + d < 18446744073709551616) :
    paN (str (decDigits m) ++ str (decDigits d)).data.toList = ((10 * m + d : Nat) : Int) ∧ paE (str (decDigits m) ++ str (decDigits d)).data.toList = 0 := by
  have e : decDigits m ++ decDigits d = decDigits (10 * m + d) := by
    rw [dec_big (show ¬ 10 * m + d < 10 by omega), dec_small hd, show (10 * m + d) / 10 = m by omega, show (10 * m + d) % 10 = d by omega]
  rw [str_append, str_data, e]
  exact pa_dec _ h

theorem steps_any (n k r : Int) (w : World) (hn : 0 ≤ n ∧ n ≤ 18446744073709551615) (hk : 0 ≤ k ∧ k ≤ 255) (hr : 0 ≤ r ∧ r ≤ 255) :
    Calls Try.prog 5 #[.int .u64 n, .int .u8 k, .int .u8 r] w fun e w' => e = .returned (.bool true) ∧ Kept w w' := by
  obtain ⟨m, hm⟩ : ∃ m : Nat, n / 100 = (m : Int) := ⟨(n / 100).toNat, by omega⟩
  obtain ⟨d, hd⟩ : ∃ d : Nat, k % 10 = (d : Int) := ⟨(k % 10).toNat, by omega⟩
  obtain ⟨q, hq⟩ : ∃ q : Nat, r % 40 = (q : Int) := ⟨(r % 40).toNat, by omega⟩
  have hm2 : m ≤ 184467440737095516 := by omega
  have hd9 : d ≤ 9 := by omega
  have hq9 : q ≤ 39 := by omega
  have c1 := fun W => print_any m W (by omega)
  have c2 := fun W => print_any d W (by omega)
  have s1 := str_size (decDigits m)
  have s2 := str_size (decDigits d)
  have l1 := dec_len20 m (by omega)
  have l2 := dec_len20 d (by omega)
  have c3 := fun W => parse_any (str (decDigits m) ++ str (decDigits d)) W (by rw [ByteArray.size_append']; omega)
  have c4 := fun j W (h : j ≤ 100) => parse_any (lng j) W (by rw [lng_size]; omega)
  have c5 := fun j W (h : j ≤ 100) => parse_any (lng j ++ ⟨#[120]⟩) W (by rw [ByteArray.size_append', lng_size]; show j + 1 + 1 ≤ _; omega)
  have sx : ((str (decDigits m)).size : Int) ≤ 20 := by omega
  have sy : ((str (decDigits d)).size : Int) ≤ 20 := by omega
  have z0 : m = 0 → paE (str (decDigits m) ++ str (decDigits d)).data.toList = 10 := fun e => by subst e; exact two_zero d
  have z1 : 1 ≤ m → paN (str (decDigits m) ++ str (decDigits d)).data.toList = ((10 * m + d : Nat) : Int) ∧ paE (str (decDigits m) ++ str (decDigits d)).data.toList = 0 := fun e => two_more m d e (by omega) (by omega)
  generalize str (decDigits m) = X at *
  generalize str (decDigits d) = Y at *
  generalize paN (X ++ Y).data.toList = xN at *
  generalize paE (X ++ Y).data.toList = xE at *
  have Z0 := Lib.hid z0
  have Z1 := Lib.hid z1
  clear z0 z1 s1 s2 l1 l2
  go_enter Try.func5, Try.ntmps5
  go_wp2_with (first
    | (go_at_call 14; (with_reducible refine (c3 _).mono ?_); rintro e w2 ⟨rfl, g2⟩)
    | (go_at_call 12; first | ((with_reducible refine (c1 _).mono ?_); rintro e w1 ⟨rfl, g1⟩) | ((with_reducible refine (c2 _).mono ?_); rintro e w6 ⟨rfl, g6⟩)))
  go_loop [10, 11] (fun s i => ∃ j : Nat, i = .int .i64 j ∧ s = .string (lng j) ∧ j ≤ 20 + q) (fun _ i => 20 + q - (intOf i).toNat)
  case atStart => exact ⟨0, rfl, rfl, by omega⟩
  case round =>
    obtain ⟨j, rfl, rfl, hj⟩ := hrel
    by_cases hlt : j < 20 + q
    · have ha := fun W => lng_add Try.prog W j (by omega)
      clear c1 c2 c3 c4 c5
      go_wp2
      exact ⟨⟨j + 1, by go_num, rfl, by omega⟩, by simp [intOf]; omega⟩
    · obtain rfl : j = 20 + q := by omega
      have d4 := fun W => c4 (20 + q) W (by omega)
      have d5 := fun W => c5 (20 + q) W (by omega)
      have sz := lng_size (20 + q)
      rw [lng_pa _ (by omega)] at d4
      rw [lng_x] at d5
      generalize lng (20 + q) = L at *
      generalize paN L.data.toList = n4 at *
      generalize paN (L ++ ⟨#[120]⟩).data.toList = n5 at *
      clear c1 c2 c3 c4 c5
      have hsz : (L.size : Int) ≤ 60 := by omega
      clear sz
      by_cases h0 : m = 0
      · have e := Z0.out h0
        subst h0 e
        go_wp2_with (first
          | (go_at_call 14; first | ((with_reducible refine (d4 _).mono ?_); rintro e w4 ⟨rfl, g4⟩) | ((with_reducible refine (d5 _).mono ?_); rintro e w5 ⟨rfl, g5⟩))
          | (go_at_call 9; refine (known_any _).mono ?_; rintro e w3 ⟨rfl, g3⟩))
        go_ret
        refine ⟨rfl, ?_⟩
        repeat (first | assumption | refine Kept.trans ?_ (by assumption))
      · obtain ⟨e, e'⟩ := Z1.out (by omega)
        subst e'
        have hm0 : ((m : Int) == 0) = false := beq_eq_false_iff_ne.2 (by omega)
        have hm1 : (0 : Int) < (m : Int) := by omega
        have hx : (xN == 10 * (m : Int) + (d : Int)) = true := by rw [e]; simp
        clear e h0
        go_wp2_with (first
          | (go_at_call 14; first | ((with_reducible refine (d4 _).mono ?_); rintro e w4 ⟨rfl, g4⟩) | ((with_reducible refine (d5 _).mono ?_); rintro e w5 ⟨rfl, g5⟩))
          | (go_at_call 9; refine (known_any _).mono ?_; rintro e w3 ⟨rfl, g3⟩))
        go_ret
        refine ⟨rfl, ?_⟩
        repeat (first | assumption | refine Kept.trans ?_ (by assumption))
end Go.Proofs.Ytimhjfjhhiddoaa.Wd
