/- The chapter's examples stand (tollerlaw03.known); no conditions. -/
import Derived.Test.YtimhjfjhhiddoaaDigG
namespace Go.Proofs.Ytimhjfjhhiddoaa.Wd
open Go.RowKit Go.Lib

theorem width_end : (decDigits 18446744073709551615).length = 20 := by
  rw [decDigits_length]
  exact nDigits_unique 19 _ (by decide) (by decide)

theorem known_any (w : World) : Calls Try.prog 9 #[] w fun e w' => e = .returned (.bool true) ∧ Kept w w' := by
  have k1 := fun W => parse_any ⟨#[49, 56, 52, 52, 54, 55, 52, 52, 48, 55, 51, 55, 48, 57, 53, 53, 49, 54, 49, 53]⟩ W (by decide)
  have k2 := fun W => parse_any ⟨#[48, 55]⟩ W (by decide)
  have k3 := fun W => parse_any ⟨#[49, 56, 52, 52, 54, 55, 52, 52, 48, 55, 51, 55, 48, 57, 53, 53, 49, 54, 49, 54]⟩ W (by decide)
  have e1 : paN (ByteArray.mk #[49, 56, 52, 52, 54, 55, 52, 52, 48, 55, 51, 55, 48, 57, 53, 53, 49, 54, 49, 53]).data.toList = 18446744073709551615 := by decide
  have e2 : paE (ByteArray.mk #[49, 56, 52, 52, 54, 55, 52, 52, 48, 55, 51, 55, 48, 57, 53, 53, 49, 54, 49, 53]).data.toList = 0 := by decide
  have e3 : paN (ByteArray.mk #[48, 55]).data.toList = 0 := by decide
  have e4 : paE (ByteArray.mk #[48, 55]).data.toList = 10 := by decide
  have e5 : paN (ByteArray.mk #[49, 56, 52, 52, 54, 55, 52, 52, 48, 55, 51, 55, 48, 57, 53, 53, 49, 54, 49, 54]).data.toList = 0 := by decide
  have e6 : paE (ByteArray.mk #[49, 56, 52, 52, 54, 55, 52, 52, 48, 55, 51, 55, 48, 57, 53, 53, 49, 54, 49, 54]).data.toList = 11 := by decide
  rw [e1, e2] at k1
  rw [e3, e4] at k2
  rw [e5, e6] at k3
  have k4 := fun W => print_any 0 W (by decide)
  rw [show str (decDigits 0) = ⟨#[48]⟩ by rw [dec_small (by decide)]; rfl] at k4
  have k5 := fun W => width_any 18446744073709551615 W (by decide)
  rw [width_end] at k5
  clear e1 e2 e3 e4 e5 e6
  go_enter Try.func9, Try.ntmps9
  go_wp2_with (first
    | (go_at_call 14; first
        | ((with_reducible refine (k1 _).mono ?_); rintro e w1 ⟨rfl, g1⟩)
        | ((with_reducible refine (k2 _).mono ?_); rintro e w2 ⟨rfl, g2⟩)
        | ((with_reducible refine (k3 _).mono ?_); rintro e w3 ⟨rfl, g3⟩))
    | (go_at_call 12; refine (k4 _).mono ?_; rintro e w4 ⟨rfl, g4⟩)
    | (go_at_call 13; refine (k5 _).mono ?_; rintro e w5 ⟨rfl, g5⟩))
  go_ret
  exact ⟨rfl, (((g1.trans g2).trans g3).trans g4).trans g5⟩
end Go.Proofs.Ytimhjfjhhiddoaa.Wd
