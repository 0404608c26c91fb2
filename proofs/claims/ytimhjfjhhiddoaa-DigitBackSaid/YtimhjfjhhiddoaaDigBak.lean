/- tollerlaw03.DigitBack answers true, for any number of 64 bits, any of 8, and any text; no conditions. -/
import Derived.Test.YtimhjfjhhiddoaaDigK
namespace Go.Proofs.Ytimhjfjhhiddoaa.Wd
open Go.RowKit Go.Lib

/-- A number moved down by k % 64. -/
theorem shr_nat (a k : Int) (ha : 0 ≤ a ∧ a ≤ 18446744073709551615) :
    ∃ (s : Nat) (P : Int) (m : Nat), k % 64 = (s : Int) ∧ (2 : Int) ^ s = P ∧ s < 64 ∧ 1 ≤ P ∧ a / P = (m : Int) ∧ m < 18446744073709551616 := by
  obtain ⟨s, hs⟩ : ∃ s : Nat, k % 64 = (s : Int) := ⟨(k % 64).toNat, by omega⟩
  have hP1 : 1 ≤ (2 : Int) ^ s := by have := pow_pos s; omega
  have h0 : 0 ≤ a / 2 ^ s := Int.ediv_nonneg ha.1 (by omega)
  have h1 : a / 2 ^ s ≤ a := Int.ediv_le_self _ ha.1
  exact ⟨s, 2 ^ s, (a / 2 ^ s).toNat, hs, rfl, by omega, hP1, by omega, by omega⟩

theorem back_any (a k : Int) (t : ByteArray) (w : World) (ha : 0 ≤ a ∧ a ≤ 18446744073709551615) (hk : 0 ≤ k ∧ k ≤ 255) (ht : t.size ≤ 9223372036854775807) :
    Calls Try.prog 4 #[.int .u64 a, .int .u8 k, .string t] w fun e w' => e = .returned (.bool true) ∧ Kept w w' := by
  obtain ⟨s, P, m, hs, hP, hs64, hP1, hm, hm64⟩ := shr_nat a k ha
  have c1 := fun W => print_any m W hm64
  have c2 := fun W => parse_any (str (decDigits m)) W (by rw [str_size]; have := dec_len20 m hm64; omega)
  rw [str_data, (pa_dec m hm64).1, (pa_dec m hm64).2] at c2
  have c3 := fun W => parse_any t W ht
  have c4 := fun W => width_any m W hm64
  have c5 := fun W => print_any (paN t.data.toList).toNat W (by have := paN_U t.data.toList; omega)
  have hNN : (((paN t.data.toList).toNat : Nat) : Int) = paN t.data.toList := by have := paN_U t.data.toList; omega
  rw [hNN] at c5
  have hback := pa_back t.data.toList
  rw [← str_size] at c4
  have hb2 : paE t.data.toList = 0 → ((str (decDigits (paN t.data.toList).toNat)).toList == t.toList) = true := fun e => by
    rw [hback e, str_of]; simp
  clear hback hNN
  generalize str (decDigits (paN t.data.toList).toNat) = Z at *
  generalize paN t.data.toList = y at *
  generalize paE t.data.toList = f at *
  generalize str (decDigits m) = X at *
  by_cases hf : f = 0
  · have hz := hb2 hf
    subst hf
    clear hb2
    go_enter Try.func4, Try.ntmps4
    go_wp2_with (first
      | (go_at_call 9; refine (known_any _).mono ?_; rintro e w3 ⟨rfl, g3⟩)
      | (go_at_call 13; (with_reducible refine (c4 _).mono ?_); rintro e w4 ⟨rfl, g4⟩)
      | (go_at_call 14; first | ((with_reducible refine (c2 _).mono ?_); rintro e w2 ⟨rfl, g2⟩) | ((with_reducible refine (c3 _).mono ?_); rintro e w5 ⟨rfl, g5⟩))
      | (go_at_call 12; first | ((with_reducible refine (c1 _).mono ?_); rintro e w1 ⟨rfl, g1⟩) | ((with_reducible refine (c5 _).mono ?_); rintro e w6 ⟨rfl, g6⟩)))
    go_ret
    refine ⟨rfl, ?_⟩
    repeat (first | assumption | refine Kept.trans ?_ (by assumption))
  · have hf' : (f == 0) = false := beq_eq_false_iff_ne.2 hf
    clear hb2 c5
    go_enter Try.func4, Try.ntmps4
    go_wp2_with (first
      | (go_at_call 9; refine (known_any _).mono ?_; rintro e w3 ⟨rfl, g3⟩)
      | (go_at_call 13; (with_reducible refine (c4 _).mono ?_); rintro e w4 ⟨rfl, g4⟩)
      | (go_at_call 14; first | ((with_reducible refine (c2 _).mono ?_); rintro e w2 ⟨rfl, g2⟩) | ((with_reducible refine (c3 _).mono ?_); rintro e w5 ⟨rfl, g5⟩))
      | (go_at_call 12; ((with_reducible refine (c1 _).mono ?_); rintro e w1 ⟨rfl, g1⟩)))
    go_ret
    refine ⟨rfl, ?_⟩
    repeat (first | assumption | refine Kept.trans ?_ (by assumption))
end Go.Proofs.Ytimhjfjhhiddoaa.Wd
