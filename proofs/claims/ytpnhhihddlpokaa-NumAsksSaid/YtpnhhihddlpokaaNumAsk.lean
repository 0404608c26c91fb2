/- What tollerlaw02.asks answers: true, for any numbers of 64 bits; no conditions. -/
import Derived.Test.YtpnhhihddlpokaaNumR
namespace Go.Proofs.Ytpnhhihddlpokaa.Wd
open Go.RowKit

set_option maxHeartbeats 800000 in
theorem asks_core (a b c s m d q u : Int) (f : Bool) (w : World)
    (c1 : ∀ (c g : Nat) w, w.cell? ⟨g, 0, none⟩ = some (.int .u64 a) → w.cell? ⟨g, 1, none⟩ = some (.int .u64 b) → Calls Try.prog 14 #[.slice (some ⟨g, 0, none⟩) 2 c] w fun e w' => e = .returned (.int .u64 s) ∧ w = w')
    (c2 : ∀ w, Calls Try.prog 16 #[.int .u64 a, .int .u64 b] w fun e w' => e = .returned (.int .u64 m) ∧ Kept w w')
    (c3 : ∀ w, Calls Try.prog 17 #[.int .u64 a, .int .u64 b] w fun e w' => e = .returned (.int .u64 d) ∧ w = w')
    (c4 : ∀ w, Calls Try.prog 18 #[.int .u64 a, .int .u64 b] w fun e w' => e = .returned (.int .u64 q) ∧ Drew w w')
    (c5 : ∀ w, Calls Try.prog 19 #[.int .u64 a, .int .u64 b] w fun e w' => e = .returned (.int .u64 u) ∧ Drew w w')
    (c6 : ∀ w, Calls Try.prog 20 #[.int .u64 a, .int .u64 b, .int .u64 c] w fun e w' => e = .returned (.bool f) ∧ w = w')
    (r1 : ∀ w, Calls Try.prog 21 #[.int .u64 a, .int .u64 b] w fun e w' => e = .returned (.int .u64 s) ∧ w = w')
    (r2 : ∀ w, Calls Try.prog 22 #[.int .u64 a, .int .u64 b] w fun e w' => e = .returned (.int .u64 m) ∧ w = w')
    (r3 : ∀ w, Calls Try.prog 23 #[.int .u64 a, .int .u64 b] w fun e w' => e = .returned (.int .u64 d) ∧ w = w')
    (r4 : ∀ w, Calls Try.prog 24 #[.int .u64 a, .int .u64 b] w fun e w' => e = .returned (.int .u64 q) ∧ w = w')
    (r5 : ∀ w, Calls Try.prog 25 #[.int .u64 a, .int .u64 b] w fun e w' => e = .returned (.int .u64 u) ∧ w = w')
    (r6 : ∀ w, Calls Try.prog 26 #[.int .u64 a, .int .u64 b, .int .u64 c] w fun e w' => e = .returned (.bool f) ∧ w = w') :
    Calls Try.prog 11 #[.int .u64 a, .int .u64 b, .int .u64 c] w fun e w' => e = .returned (.bool true) ∧ Kept w w' := by
  have C1 := Lib.hid c1
  have C2 := Lib.hid c2
  have C3 := Lib.hid c3
  have C4 := Lib.hid c4
  have C5 := Lib.hid c5
  have C6 := Lib.hid c6
  have R1 := Lib.hid r1
  have R2 := Lib.hid r2
  have R3 := Lib.hid r3
  have R4 := Lib.hid r4
  have R5 := Lib.hid r5
  have R6 := Lib.hid r6
  clear c1 c2 c3 c4 c5 c6 r1 r2 r3 r4 r5 r6
  go_enter Try.func11, Try.ntmps11
  go_wp2_with (first
    | (go_at_call 14; ((with_reducible refine (C1.out _ _ _ (by simp) (by simp)).mono ?_); rintro e w' ⟨rfl, rfl⟩))
    | (go_at_call 16; ((with_reducible refine (C2.out _).mono ?_); rintro e w' ⟨rfl, g2⟩))
    | (go_at_call 17; ((with_reducible refine (C3.out _).mono ?_); rintro e w' ⟨rfl, rfl⟩))
    | (go_at_call 18; ((with_reducible refine (C4.out _).mono ?_); rintro e w' ⟨rfl, g4⟩))
    | (go_at_call 19; ((with_reducible refine (C5.out _).mono ?_); rintro e w' ⟨rfl, g5⟩))
    | (go_at_call 20; ((with_reducible refine (C6.out _).mono ?_); rintro e w' ⟨rfl, rfl⟩))
    | (go_at_call 21; ((with_reducible refine (R1.out _).mono ?_); rintro e w' ⟨rfl, rfl⟩))
    | (go_at_call 22; ((with_reducible refine (R2.out _).mono ?_); rintro e w' ⟨rfl, rfl⟩))
    | (go_at_call 23; ((with_reducible refine (R3.out _).mono ?_); rintro e w' ⟨rfl, rfl⟩))
    | (go_at_call 24; ((with_reducible refine (R4.out _).mono ?_); rintro e w' ⟨rfl, rfl⟩))
    | (go_at_call 25; ((with_reducible refine (R5.out _).mono ?_); rintro e w' ⟨rfl, rfl⟩))
    | (go_at_call 26; ((with_reducible refine (R6.out _).mono ?_); rintro e w' ⟨rfl, rfl⟩)))
  all_goals
    go_ret
    refine ⟨?_, g5.after (g4.after (((Kept.refl _).alloc _ _).trans g2))⟩
    first | rfl | (cases f <;> rfl) | (simp; done)

theorem asks_any (a b c : Int) (w : World) (ha : U a) (hb : U b) (hc : U c) :
    Calls Try.prog 11 #[.int .u64 a, .int .u64 b, .int .u64 c] w fun e w' => e = .returned (.bool true) ∧ Kept w w' :=
  asks_core a b c _ _ _ _ _ _ w (fun c g w => num_add_two g c a b w ha hb) (fun w => num_mul a b w ha hb) (fun w => num_sub a b w ha hb) (fun w => num_div a b w ha hb) (fun w => num_ceil a b w ha hb) (fun w => num_fits a b c w ha hb hc)
    (fun w => ref_add a b w ha hb) (fun w => ref_mul a b w ha hb) (fun w => ref_sub a b w ha hb) (fun w => ref_div a b w ha hb) (fun w => ref_ceil a b w ha hb) (fun w => ref_fits a b c w ha hb hc)
end Go.Proofs.Ytpnhhihddlpokaa.Wd
