/- tollerlaw03.DigitOrder answers true, for any numbers of 64 bits; no conditions. -/
import Derived.Test.YtimhjfjhhiddoaaDigK
namespace Go.Proofs.Ytimhjfjhhiddoaa.Wd
open Go.RowKit Go.Lib

theorem order_nat (a b : Nat) (w : World) (ha : a < 18446744073709551616) (hb : b < 18446744073709551616) :
    Calls Try.prog 6 #[.int .u64 a, .int .u64 b] w fun e w' => e = .returned (.bool true) ∧ Kept w w' := by
  have p1 := fun W => print_any a W ha
  have p2 := fun W => print_any b W hb
  have lx := dec_len20 a ha
  have sx := str_size (decDigits a)
  have sy := str_size (decDigits b)
  have tx := str_toList (decDigits a)
  have ty := str_toList (decDigits b)
  have hlt : a < b → (decDigits a).length < (decDigits b).length ∨ ((decDigits a).length = (decDigits b).length ∧ Op.bytesLess (decDigits a) (decDigits b) = true) := fun h => by
    rw [decDigits_length, decDigits_length]
    have := nDigits_mono a b (by omega)
    by_cases e : nDigits a = nDigits b
    · exact Or.inr ⟨e, dec_less a b h e⟩
    · exact Or.inl (by omega)
  have hge : b ≤ a → (decDigits b).length ≤ (decDigits a).length := fun h => by
    rw [decDigits_length, decDigits_length]; exact nDigits_mono b a h
  have hee : a = b → (decDigits a == decDigits b) = true := fun h => by subst h; simp
  generalize str (decDigits a) = X at *
  generalize str (decDigits b) = Y at *
  generalize decDigits a = x at *
  generalize decDigits b = y at *
  rw [← sx, ← sy] at hlt hge
  rw [← sx] at lx
  rw [← tx, ← ty] at hlt hee
  have lx' : (X.size : Int) ≤ 20 := by omega
  clear sx sy tx ty lx
  by_cases c : a < b
  · have c' : (a : Int) < (b : Int) := by omega
    have h := hlt c
    clear hlt hge hee c
    rcases h with h | ⟨h, h2⟩
    · go_enter Try.func6, Try.ntmps6
      go_wp2_with (first
        | (go_at_call 12; first
            | ((with_reducible refine (p1 _).mono ?_); rintro e w1 ⟨rfl, g1⟩)
            | ((with_reducible refine (p2 _).mono ?_); rintro e w2 ⟨rfl, g2⟩))
        | (go_at_call 9; refine (known_any _).mono ?_; rintro e w3 ⟨rfl, g3⟩))
      go_ret
      exact ⟨rfl, (g1.trans g2).trans g3⟩
    · have hn : ¬ X.size < Y.size := by omega
      have hn' : ((X.size : Int) == (Y.size : Int)) = true := by rw [h]; simp
      clear h
      go_enter Try.func6, Try.ntmps6
      go_wp2_with (first
        | (go_at_call 12; first
            | ((with_reducible refine (p1 _).mono ?_); rintro e w1 ⟨rfl, g1⟩)
            | ((with_reducible refine (p2 _).mono ?_); rintro e w2 ⟨rfl, g2⟩))
        | (go_at_call 9; refine (known_any _).mono ?_; rintro e w3 ⟨rfl, g3⟩))
      go_ret
      exact ⟨rfl, (g1.trans g2).trans g3⟩
  · have c' : ¬ (a : Int) < (b : Int) := by omega
    have h := hge (by omega)
    clear hlt hge
    by_cases d : b < a
    · have d' : (b : Int) < (a : Int) := by omega
      clear hee c d
      go_enter Try.func6, Try.ntmps6
      go_wp2_with (first
        | (go_at_call 12; first
            | ((with_reducible refine (p1 _).mono ?_); rintro e w1 ⟨rfl, g1⟩)
            | ((with_reducible refine (p2 _).mono ?_); rintro e w2 ⟨rfl, g2⟩))
        | (go_at_call 9; refine (known_any _).mono ?_; rintro e w3 ⟨rfl, g3⟩))
      go_ret
      exact ⟨rfl, (g1.trans g2).trans g3⟩
    · have d' : ¬ (b : Int) < (a : Int) := by omega
      have he := hee (by omega)
      clear hee c d
      go_enter Try.func6, Try.ntmps6
      go_wp2_with (first
        | (go_at_call 12; first
            | ((with_reducible refine (p1 _).mono ?_); rintro e w1 ⟨rfl, g1⟩)
            | ((with_reducible refine (p2 _).mono ?_); rintro e w2 ⟨rfl, g2⟩))
        | (go_at_call 9; refine (known_any _).mono ?_; rintro e w3 ⟨rfl, g3⟩))
      go_ret
      exact ⟨rfl, (g1.trans g2).trans g3⟩

theorem order_any (a b : Int) (w : World) (ha : 0 ≤ a ∧ a ≤ 18446744073709551615) (hb : 0 ≤ b ∧ b ≤ 18446744073709551615) :
    Calls Try.prog 6 #[.int .u64 a, .int .u64 b] w fun e w' => e = .returned (.bool true) ∧ Kept w w' := by
  obtain ⟨x, rfl⟩ : ∃ x : Nat, a = (x : Int) := ⟨a.toNat, by omega⟩
  obtain ⟨y, rfl⟩ : ∃ y : Nat, b = (y : Int) := ⟨b.toNat, by omega⟩
  exact order_nat x y w (by omega) (by omega)
end Go.Proofs.Ytimhjfjhhiddoaa.Wd
