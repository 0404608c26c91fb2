/- The law NumFits answers true, for any numbers of 64 bits; no conditions. -/
import Derived.Test.YtpnhhihddlpokaaNumK
namespace Go.Proofs.Ytpnhhihddlpokaa.Wd
open Go.RowKit

set_option maxHeartbeats 800000 in
theorem fits_yes (a b c d g : Int) (w : World) (hs : 0 ≤ a ∧ 0 ≤ b ∧ a + b ≤ c ∧ c ≤ 18446744073709551615)
    (c1 : ∀ w, Calls Try.prog 20 #[.int .u64 a, .int .u64 b, .int .u64 c] w fun e w' => e = .returned (.bool true) ∧ w = w')
    (c2 : ∀ w, Calls Try.prog 20 #[.int .u64 b, .int .u64 a, .int .u64 c] w fun e w' => e = .returned (.bool true) ∧ w = w')
    (c3 : ∀ w, Calls Try.prog 20 #[.int .u64 (min a d), .int .u64 b, .int .u64 c] w fun e w' => e = .returned (.bool true) ∧ w = w')
    (c4 : ∀ w, Calls Try.prog 20 #[.int .u64 a, .int .u64 0, .int .u64 a] w fun e w' => e = .returned (.bool true) ∧ w = w')
    (c5 : ∀ w, Calls Try.prog 17 #[.int .u64 c, .int .u64 a] w fun e w' => e = .returned (.int .u64 g) ∧ w = w')
    (c6 : ∀ w, Calls Try.prog 20 #[.int .u64 a, .int .u64 g, .int .u64 c] w fun e w' => e = .returned (.bool true) ∧ w = w') :
    Calls Try.prog 6 #[.int .u64 a, .int .u64 b, .int .u64 c, .int .u64 d] w fun e w' => e = .returned (.bool true) ∧ Kept w w' := by
  have k (w : World) := known2_any w
  have K := Lib.hid k
  have C1 := Lib.hid c1
  have C2 := Lib.hid c2
  have C4 := Lib.hid c4
  have C5 := Lib.hid c5
  have C6 := Lib.hid c6
  clear k c1 c2 c4 c5 c6
  have dac : decide (a ≤ c) = true := by simp; omega
  rcases Int.lt_trichotomy a d with x | x | x
  · rw [Int.min_eq_left (by omega)] at c3
    have C3 := Lib.hid c3
    clear c3
    go_enter Try.func6, Try.ntmps6
    go_wp2_with (first
      | (go_at_call 20; (first | (with_reducible refine (C1.out _).mono ?_) | (with_reducible refine (C2.out _).mono ?_) | (with_reducible refine (C3.out _).mono ?_) | (with_reducible refine (C4.out _).mono ?_) | (with_reducible refine (C6.out _).mono ?_)); rintro e w' ⟨rfl, rfl⟩)
      | (go_at_call 17; ((with_reducible refine (C5.out _).mono ?_); rintro e w2 ⟨rfl, rfl⟩))
      | (go_at_call 10; ((with_reducible refine (K.out _).mono ?_); rintro e w3 ⟨rfl, gw⟩)))
    go_ret
    exact ⟨rfl, gw⟩
  · subst x
    rw [Int.min_eq_left (by omega)] at c3
    have C3 := Lib.hid c3
    clear c3
    go_enter Try.func6, Try.ntmps6
    go_wp2_with (first
      | (go_at_call 20; (first | (with_reducible refine (C1.out _).mono ?_) | (with_reducible refine (C2.out _).mono ?_) | (with_reducible refine (C3.out _).mono ?_) | (with_reducible refine (C4.out _).mono ?_) | (with_reducible refine (C6.out _).mono ?_)); rintro e w' ⟨rfl, rfl⟩)
      | (go_at_call 17; ((with_reducible refine (C5.out _).mono ?_); rintro e w2 ⟨rfl, rfl⟩))
      | (go_at_call 10; ((with_reducible refine (K.out _).mono ?_); rintro e w3 ⟨rfl, gw⟩)))
    go_ret
    exact ⟨rfl, gw⟩
  · rw [Int.min_eq_right (by omega)] at c3
    have C3 := Lib.hid c3
    clear c3
    go_enter Try.func6, Try.ntmps6
    go_wp2_with (first
      | (go_at_call 20; (first | (with_reducible refine (C1.out _).mono ?_) | (with_reducible refine (C2.out _).mono ?_) | (with_reducible refine (C3.out _).mono ?_) | (with_reducible refine (C4.out _).mono ?_) | (with_reducible refine (C6.out _).mono ?_)); rintro e w' ⟨rfl, rfl⟩)
      | (go_at_call 17; ((with_reducible refine (C5.out _).mono ?_); rintro e w2 ⟨rfl, rfl⟩))
      | (go_at_call 10; ((with_reducible refine (K.out _).mono ?_); rintro e w3 ⟨rfl, gw⟩)))
    go_ret
    exact ⟨rfl, gw⟩

set_option maxHeartbeats 800000 in
theorem fits_no_ay (a b c d g s : Int) (w : World) (hs : IntKind.u64.wrap (a + b) = s) (hn : s < a) (dac : decide (a ≤ c) = true) (r : Bool)
    (c1 : ∀ w, Calls Try.prog 20 #[.int .u64 a, .int .u64 b, .int .u64 c] w fun e w' => e = .returned (.bool false) ∧ w = w')
    (c2 : ∀ w, Calls Try.prog 20 #[.int .u64 b, .int .u64 a, .int .u64 c] w fun e w' => e = .returned (.bool false) ∧ w = w')
    (c3 : ∀ w, Calls Try.prog 20 #[.int .u64 (min a d), .int .u64 b, .int .u64 c] w fun e w' => e = .returned (.bool r) ∧ w = w')
    (c4 : ∀ w, Calls Try.prog 20 #[.int .u64 a, .int .u64 0, .int .u64 a] w fun e w' => e = .returned (.bool true) ∧ w = w')
    (c5 : ∀ w, Calls Try.prog 17 #[.int .u64 c, .int .u64 a] w fun e w' => e = .returned (.int .u64 g) ∧ w = w')
    (c6 : ∀ w, Calls Try.prog 20 #[.int .u64 a, .int .u64 g, .int .u64 c] w fun e w' => e = .returned (.bool true) ∧ w = w') :
    Calls Try.prog 6 #[.int .u64 a, .int .u64 b, .int .u64 c, .int .u64 d] w fun e w' => e = .returned (.bool true) ∧ Kept w w' := by
  have k (w : World) := known2_any w
  have K := Lib.hid k
  have C1 := Lib.hid c1
  have C2 := Lib.hid c2
  have C4 := Lib.hid c4
  have C5 := Lib.hid c5
  have C6 := Lib.hid c6
  clear k c1 c2 c4 c5 c6
  rcases Int.lt_trichotomy a d with x | x | x
  · rw [Int.min_eq_left (by omega)] at c3
    have C3 := Lib.hid c3
    clear c3
    go_enter Try.func6, Try.ntmps6
    go_wp2_with (first
      | (go_at_call 20; (first | (with_reducible refine (C1.out _).mono ?_) | (with_reducible refine (C2.out _).mono ?_) | (with_reducible refine (C3.out _).mono ?_) | (with_reducible refine (C4.out _).mono ?_) | (with_reducible refine (C6.out _).mono ?_)); rintro e w' ⟨rfl, rfl⟩)
      | (go_at_call 17; ((with_reducible refine (C5.out _).mono ?_); rintro e w2 ⟨rfl, rfl⟩))
      | (go_at_call 10; ((with_reducible refine (K.out _).mono ?_); rintro e w3 ⟨rfl, gw⟩)))
    go_ret
    exact ⟨rfl, gw⟩
  · subst x
    rw [Int.min_eq_left (by omega)] at c3
    have C3 := Lib.hid c3
    clear c3
    go_enter Try.func6, Try.ntmps6
    go_wp2_with (first
      | (go_at_call 20; (first | (with_reducible refine (C1.out _).mono ?_) | (with_reducible refine (C2.out _).mono ?_) | (with_reducible refine (C3.out _).mono ?_) | (with_reducible refine (C4.out _).mono ?_) | (with_reducible refine (C6.out _).mono ?_)); rintro e w' ⟨rfl, rfl⟩)
      | (go_at_call 17; ((with_reducible refine (C5.out _).mono ?_); rintro e w2 ⟨rfl, rfl⟩))
      | (go_at_call 10; ((with_reducible refine (K.out _).mono ?_); rintro e w3 ⟨rfl, gw⟩)))
    go_ret
    exact ⟨rfl, gw⟩
  · rw [Int.min_eq_right (by omega)] at c3
    have C3 := Lib.hid c3
    clear c3
    go_enter Try.func6, Try.ntmps6
    go_wp2_with (first
      | (go_at_call 20; (first | (with_reducible refine (C1.out _).mono ?_) | (with_reducible refine (C2.out _).mono ?_) | (with_reducible refine (C3.out _).mono ?_) | (with_reducible refine (C4.out _).mono ?_) | (with_reducible refine (C6.out _).mono ?_)); rintro e w' ⟨rfl, rfl⟩)
      | (go_at_call 17; ((with_reducible refine (C5.out _).mono ?_); rintro e w2 ⟨rfl, rfl⟩))
      | (go_at_call 10; ((with_reducible refine (K.out _).mono ?_); rintro e w3 ⟨rfl, gw⟩)))
    go_ret
    exact ⟨rfl, gw⟩

set_option maxHeartbeats 800000 in
theorem fits_no_an (a b c d g s : Int) (w : World) (hs : IntKind.u64.wrap (a + b) = s) (hn : s < a) (dac : decide (a ≤ c) = false) (r : Bool)
    (c1 : ∀ w, Calls Try.prog 20 #[.int .u64 a, .int .u64 b, .int .u64 c] w fun e w' => e = .returned (.bool false) ∧ w = w')
    (c2 : ∀ w, Calls Try.prog 20 #[.int .u64 b, .int .u64 a, .int .u64 c] w fun e w' => e = .returned (.bool false) ∧ w = w')
    (c3 : ∀ w, Calls Try.prog 20 #[.int .u64 (min a d), .int .u64 b, .int .u64 c] w fun e w' => e = .returned (.bool r) ∧ w = w')
    (c4 : ∀ w, Calls Try.prog 20 #[.int .u64 a, .int .u64 0, .int .u64 a] w fun e w' => e = .returned (.bool true) ∧ w = w')
    (c5 : ∀ w, Calls Try.prog 17 #[.int .u64 c, .int .u64 a] w fun e w' => e = .returned (.int .u64 g) ∧ w = w')
    (c6 : ∀ w, Calls Try.prog 20 #[.int .u64 a, .int .u64 g, .int .u64 c] w fun e w' => e = .returned (.bool false) ∧ w = w') :
    Calls Try.prog 6 #[.int .u64 a, .int .u64 b, .int .u64 c, .int .u64 d] w fun e w' => e = .returned (.bool true) ∧ Kept w w' := by
  have k (w : World) := known2_any w
  have K := Lib.hid k
  have C1 := Lib.hid c1
  have C2 := Lib.hid c2
  have C4 := Lib.hid c4
  have C5 := Lib.hid c5
  have C6 := Lib.hid c6
  clear k c1 c2 c4 c5 c6
  rcases Int.lt_trichotomy a d with x | x | x
  · rw [Int.min_eq_left (by omega)] at c3
    have C3 := Lib.hid c3
    clear c3
    go_enter Try.func6, Try.ntmps6
    go_wp2_with (first
      | (go_at_call 20; (first | (with_reducible refine (C1.out _).mono ?_) | (with_reducible refine (C2.out _).mono ?_) | (with_reducible refine (C3.out _).mono ?_) | (with_reducible refine (C4.out _).mono ?_) | (with_reducible refine (C6.out _).mono ?_)); rintro e w' ⟨rfl, rfl⟩)
      | (go_at_call 17; ((with_reducible refine (C5.out _).mono ?_); rintro e w2 ⟨rfl, rfl⟩))
      | (go_at_call 10; ((with_reducible refine (K.out _).mono ?_); rintro e w3 ⟨rfl, gw⟩)))
    go_ret
    exact ⟨rfl, gw⟩
  · subst x
    rw [Int.min_eq_left (by omega)] at c3
    have C3 := Lib.hid c3
    clear c3
    go_enter Try.func6, Try.ntmps6
    go_wp2_with (first
      | (go_at_call 20; (first | (with_reducible refine (C1.out _).mono ?_) | (with_reducible refine (C2.out _).mono ?_) | (with_reducible refine (C3.out _).mono ?_) | (with_reducible refine (C4.out _).mono ?_) | (with_reducible refine (C6.out _).mono ?_)); rintro e w' ⟨rfl, rfl⟩)
      | (go_at_call 17; ((with_reducible refine (C5.out _).mono ?_); rintro e w2 ⟨rfl, rfl⟩))
      | (go_at_call 10; ((with_reducible refine (K.out _).mono ?_); rintro e w3 ⟨rfl, gw⟩)))
    go_ret
    exact ⟨rfl, gw⟩
  · rw [Int.min_eq_right (by omega)] at c3
    have C3 := Lib.hid c3
    clear c3
    go_enter Try.func6, Try.ntmps6
    go_wp2_with (first
      | (go_at_call 20; (first | (with_reducible refine (C1.out _).mono ?_) | (with_reducible refine (C2.out _).mono ?_) | (with_reducible refine (C3.out _).mono ?_) | (with_reducible refine (C4.out _).mono ?_) | (with_reducible refine (C6.out _).mono ?_)); rintro e w' ⟨rfl, rfl⟩)
      | (go_at_call 17; ((with_reducible refine (C5.out _).mono ?_); rintro e w2 ⟨rfl, rfl⟩))
      | (go_at_call 10; ((with_reducible refine (K.out _).mono ?_); rintro e w3 ⟨rfl, gw⟩)))
    go_ret
    exact ⟨rfl, gw⟩

set_option maxHeartbeats 800000 in
theorem fits_no_by (a b c d g s : Int) (w : World) (hs : IntKind.u64.wrap (a + b) = s) (hn : a ≤ s) (hn2 : c < s) (dac : decide (a ≤ c) = true) (r : Bool)
    (c1 : ∀ w, Calls Try.prog 20 #[.int .u64 a, .int .u64 b, .int .u64 c] w fun e w' => e = .returned (.bool false) ∧ w = w')
    (c2 : ∀ w, Calls Try.prog 20 #[.int .u64 b, .int .u64 a, .int .u64 c] w fun e w' => e = .returned (.bool false) ∧ w = w')
    (c3 : ∀ w, Calls Try.prog 20 #[.int .u64 (min a d), .int .u64 b, .int .u64 c] w fun e w' => e = .returned (.bool r) ∧ w = w')
    (c4 : ∀ w, Calls Try.prog 20 #[.int .u64 a, .int .u64 0, .int .u64 a] w fun e w' => e = .returned (.bool true) ∧ w = w')
    (c5 : ∀ w, Calls Try.prog 17 #[.int .u64 c, .int .u64 a] w fun e w' => e = .returned (.int .u64 g) ∧ w = w')
    (c6 : ∀ w, Calls Try.prog 20 #[.int .u64 a, .int .u64 g, .int .u64 c] w fun e w' => e = .returned (.bool true) ∧ w = w') :
    Calls Try.prog 6 #[.int .u64 a, .int .u64 b, .int .u64 c, .int .u64 d] w fun e w' => e = .returned (.bool true) ∧ Kept w w' := by
  have k (w : World) := known2_any w
  have K := Lib.hid k
  have C1 := Lib.hid c1
  have C2 := Lib.hid c2
  have C4 := Lib.hid c4
  have C5 := Lib.hid c5
  have C6 := Lib.hid c6
  clear k c1 c2 c4 c5 c6
  have dsc : decide (s ≤ c) = false := by simp; omega
  rcases Int.lt_trichotomy a d with x | x | x
  · rw [Int.min_eq_left (by omega)] at c3
    have C3 := Lib.hid c3
    clear c3
    go_enter Try.func6, Try.ntmps6
    go_wp2_with (first
      | (go_at_call 20; (first | (with_reducible refine (C1.out _).mono ?_) | (with_reducible refine (C2.out _).mono ?_) | (with_reducible refine (C3.out _).mono ?_) | (with_reducible refine (C4.out _).mono ?_) | (with_reducible refine (C6.out _).mono ?_)); rintro e w' ⟨rfl, rfl⟩)
      | (go_at_call 17; ((with_reducible refine (C5.out _).mono ?_); rintro e w2 ⟨rfl, rfl⟩))
      | (go_at_call 10; ((with_reducible refine (K.out _).mono ?_); rintro e w3 ⟨rfl, gw⟩)))
    go_ret
    exact ⟨rfl, gw⟩
  · subst x
    rw [Int.min_eq_left (by omega)] at c3
    have C3 := Lib.hid c3
    clear c3
    go_enter Try.func6, Try.ntmps6
    go_wp2_with (first
      | (go_at_call 20; (first | (with_reducible refine (C1.out _).mono ?_) | (with_reducible refine (C2.out _).mono ?_) | (with_reducible refine (C3.out _).mono ?_) | (with_reducible refine (C4.out _).mono ?_) | (with_reducible refine (C6.out _).mono ?_)); rintro e w' ⟨rfl, rfl⟩)
      | (go_at_call 17; ((with_reducible refine (C5.out _).mono ?_); rintro e w2 ⟨rfl, rfl⟩))
      | (go_at_call 10; ((with_reducible refine (K.out _).mono ?_); rintro e w3 ⟨rfl, gw⟩)))
    go_ret
    exact ⟨rfl, gw⟩
  · rw [Int.min_eq_right (by omega)] at c3
    have C3 := Lib.hid c3
    clear c3
    go_enter Try.func6, Try.ntmps6
    go_wp2_with (first
      | (go_at_call 20; (first | (with_reducible refine (C1.out _).mono ?_) | (with_reducible refine (C2.out _).mono ?_) | (with_reducible refine (C3.out _).mono ?_) | (with_reducible refine (C4.out _).mono ?_) | (with_reducible refine (C6.out _).mono ?_)); rintro e w' ⟨rfl, rfl⟩)
      | (go_at_call 17; ((with_reducible refine (C5.out _).mono ?_); rintro e w2 ⟨rfl, rfl⟩))
      | (go_at_call 10; ((with_reducible refine (K.out _).mono ?_); rintro e w3 ⟨rfl, gw⟩)))
    go_ret
    exact ⟨rfl, gw⟩

set_option maxHeartbeats 800000 in
theorem fits_no_bn (a b c d g s : Int) (w : World) (hs : IntKind.u64.wrap (a + b) = s) (hn : a ≤ s) (hn2 : c < s) (dac : decide (a ≤ c) = false) (r : Bool)
    (c1 : ∀ w, Calls Try.prog 20 #[.int .u64 a, .int .u64 b, .int .u64 c] w fun e w' => e = .returned (.bool false) ∧ w = w')
    (c2 : ∀ w, Calls Try.prog 20 #[.int .u64 b, .int .u64 a, .int .u64 c] w fun e w' => e = .returned (.bool false) ∧ w = w')
    (c3 : ∀ w, Calls Try.prog 20 #[.int .u64 (min a d), .int .u64 b, .int .u64 c] w fun e w' => e = .returned (.bool r) ∧ w = w')
    (c4 : ∀ w, Calls Try.prog 20 #[.int .u64 a, .int .u64 0, .int .u64 a] w fun e w' => e = .returned (.bool true) ∧ w = w')
    (c5 : ∀ w, Calls Try.prog 17 #[.int .u64 c, .int .u64 a] w fun e w' => e = .returned (.int .u64 g) ∧ w = w')
    (c6 : ∀ w, Calls Try.prog 20 #[.int .u64 a, .int .u64 g, .int .u64 c] w fun e w' => e = .returned (.bool false) ∧ w = w') :
    Calls Try.prog 6 #[.int .u64 a, .int .u64 b, .int .u64 c, .int .u64 d] w fun e w' => e = .returned (.bool true) ∧ Kept w w' := by
  have k (w : World) := known2_any w
  have K := Lib.hid k
  have C1 := Lib.hid c1
  have C2 := Lib.hid c2
  have C4 := Lib.hid c4
  have C5 := Lib.hid c5
  have C6 := Lib.hid c6
  clear k c1 c2 c4 c5 c6
  have dsc : decide (s ≤ c) = false := by simp; omega
  rcases Int.lt_trichotomy a d with x | x | x
  · rw [Int.min_eq_left (by omega)] at c3
    have C3 := Lib.hid c3
    clear c3
    go_enter Try.func6, Try.ntmps6
    go_wp2_with (first
      | (go_at_call 20; (first | (with_reducible refine (C1.out _).mono ?_) | (with_reducible refine (C2.out _).mono ?_) | (with_reducible refine (C3.out _).mono ?_) | (with_reducible refine (C4.out _).mono ?_) | (with_reducible refine (C6.out _).mono ?_)); rintro e w' ⟨rfl, rfl⟩)
      | (go_at_call 17; ((with_reducible refine (C5.out _).mono ?_); rintro e w2 ⟨rfl, rfl⟩))
      | (go_at_call 10; ((with_reducible refine (K.out _).mono ?_); rintro e w3 ⟨rfl, gw⟩)))
    go_ret
    exact ⟨rfl, gw⟩
  · subst x
    rw [Int.min_eq_left (by omega)] at c3
    have C3 := Lib.hid c3
    clear c3
    go_enter Try.func6, Try.ntmps6
    go_wp2_with (first
      | (go_at_call 20; (first | (with_reducible refine (C1.out _).mono ?_) | (with_reducible refine (C2.out _).mono ?_) | (with_reducible refine (C3.out _).mono ?_) | (with_reducible refine (C4.out _).mono ?_) | (with_reducible refine (C6.out _).mono ?_)); rintro e w' ⟨rfl, rfl⟩)
      | (go_at_call 17; ((with_reducible refine (C5.out _).mono ?_); rintro e w2 ⟨rfl, rfl⟩))
      | (go_at_call 10; ((with_reducible refine (K.out _).mono ?_); rintro e w3 ⟨rfl, gw⟩)))
    go_ret
    exact ⟨rfl, gw⟩
  · rw [Int.min_eq_right (by omega)] at c3
    have C3 := Lib.hid c3
    clear c3
    go_enter Try.func6, Try.ntmps6
    go_wp2_with (first
      | (go_at_call 20; (first | (with_reducible refine (C1.out _).mono ?_) | (with_reducible refine (C2.out _).mono ?_) | (with_reducible refine (C3.out _).mono ?_) | (with_reducible refine (C4.out _).mono ?_) | (with_reducible refine (C6.out _).mono ?_)); rintro e w' ⟨rfl, rfl⟩)
      | (go_at_call 17; ((with_reducible refine (C5.out _).mono ?_); rintro e w2 ⟨rfl, rfl⟩))
      | (go_at_call 10; ((with_reducible refine (K.out _).mono ?_); rintro e w3 ⟨rfl, gw⟩)))
    go_ret
    exact ⟨rfl, gw⟩


theorem fits_walk (a b c d : Int) (w : World) (ha : U a) (hb : U b) (hc : U c) (hd : U d) :
    Calls Try.prog 6 #[.int .u64 a, .int .u64 b, .int .u64 c, .int .u64 d] w fun e w' => e = .returned (.bool true) ∧ Kept w w' := by
  have hmin : U (min a d) := by rw [Int.min_def]; split <;> assumption
  have hg := sbI_U c a hc ha
  have c4 (w : World) := num_fits a 0 a w ha U_zero ha
  have e4 : ftB a 0 a = true := by simp [ftB]
  rw [e4] at c4
  have c1 (w : World) := num_fits a b c w ha hb hc
  have c2 (w : World) := num_fits b a c w hb ha hc
  have c3 (w : World) := num_fits (min a d) b c w hmin hb hc
  have c5 (w : World) := num_sub c a w hc ha
  have c6 (w : World) := num_fits a (sbI c a) c w ha hg hc
  have e6 : ftB a (sbI c a) c = decide (a ≤ c) := by
    have hh : sbI c a = if c < a then 0 else c - a := rfl
    unfold U at *
    unfold ftB
    rw [hh]
    by_cases z : c < a
    · rw [if_pos z]; simp
    · rw [if_neg z, Bool.eq_iff_iff]; simp only [decide_eq_true_eq]; omega
  by_cases x : a + b ≤ c
  · have e1 : ftB a b c = true := by simp [ftB, x]
    have e2 : ftB b a c = true := by simp [ftB]; omega
    have e3 : ftB (min a d) b c = true := by simp [ftB]; omega
    have e7 : decide (a ≤ c) = true := by unfold U at *; simp; omega
    rw [e1] at c1
    rw [e2] at c2
    rw [e3] at c3
    rw [e6, e7] at c6
    exact fits_yes a b c d (sbI c a) w (by unfold U at *; omega) c1 c2 c3 c4 c5 c6
  · have e1 : ftB a b c = false := by simp [ftB]; omega
    have e2 : ftB b a c = false := by simp [ftB]; omega
    rw [e1] at c1
    rw [e2] at c2
    rw [e6] at c6
    have hs : IntKind.u64.wrap (a + b) < a ∨ (a ≤ IntKind.u64.wrap (a + b) ∧ c < IntKind.u64.wrap (a + b)) := by
      rw [IntKind.wrap_u64]
      unfold U at *
      omega
    by_cases y : a ≤ c
    · have e7 : decide (a ≤ c) = true := by simpa using y
      rw [e7] at c6
      rcases hs with hs | ⟨hs, hs2⟩
      · exact fits_no_ay a b c d _ _ w rfl hs e7 _ c1 c2 c3 c4 c5 c6
      · exact fits_no_by a b c d _ _ w rfl hs hs2 e7 _ c1 c2 c3 c4 c5 c6
    · have e7 : decide (a ≤ c) = false := by simpa using y
      rw [e7] at c6
      rcases hs with hs | ⟨hs, hs2⟩
      · exact fits_no_an a b c d _ _ w rfl hs e7 _ c1 c2 c3 c4 c5 c6
      · exact fits_no_bn a b c d _ _ w rfl hs hs2 e7 _ c1 c2 c3 c4 c5 c6
end Go.Proofs.Ytpnhhihddlpokaa.Wd
