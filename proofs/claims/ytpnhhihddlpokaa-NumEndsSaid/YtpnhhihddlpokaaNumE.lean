/- The law NumEnds answers true, for any numbers of 64 bits; no conditions. -/
import Derived.Test.YtpnhhihddlpokaaNumK
namespace Go.Proofs.Ytpnhhihddlpokaa.Wd
open Go.RowKit

set_option maxHeartbeats 800000 in
set_option maxRecDepth 100000 in
theorem ends_A0y (a b t q m : Int) (w : World) (hs : IntKind.u64.wrap (a + b) = t) (hq : IntKind.u64.wrap (a * b) = q) (hm : m ≤ a) (hA : a ≤ t) (hb0 : (b == 0) = true) (hc : b ≤ a) (hw : IntKind.u64.wrap (m + b) = a)
    (c1 : ∀ (c g : Nat) w, w.cell? ⟨g, 0, none⟩ = some (.int .u64 a) → w.cell? ⟨g, 1, none⟩ = some (.int .u64 b) → Calls Try.prog 14 #[.slice (some ⟨g, 0, none⟩) 2 c] w fun e w' => e = .returned (.int .u64 t) ∧ w = w')
    (c2 : ∀ (c g : Nat) w, w.cell? ⟨g, 0, none⟩ = some (.int .u64 a) → w.cell? ⟨g, 1, none⟩ = some (.int .u64 0) → Calls Try.prog 14 #[.slice (some ⟨g, 0, none⟩) 2 c] w fun e w' => e = .returned (.int .u64 a) ∧ w = w')
    (c3 : ∀ w, Calls Try.prog 17 #[.int .u64 a, .int .u64 b] w fun e w' => e = .returned (.int .u64 m) ∧ w = w')
    (c4 : ∀ w, Calls Try.prog 17 #[.int .u64 a, .int .u64 a] w fun e w' => e = .returned (.int .u64 0) ∧ w = w')
    (c5 : ∀ w, Calls Try.prog 16 #[.int .u64 a, .int .u64 b] w fun e w' => e = .returned (.int .u64 q) ∧ Kept w w') :
    Calls Try.prog 4 #[.int .u64 a, .int .u64 b] w fun e w' => e = .returned (.bool true) ∧ Kept w w' := by
  have k (w : World) := known2_any w
  have K := Lib.hid k
  have C1 := Lib.hid c1
  have C2 := Lib.hid c2
  have C3 := Lib.hid c3
  have C4 := Lib.hid c4
  have C5 := Lib.hid c5
  clear k c1 c2 c3 c4 c5
  go_enter Try.func4, Try.ntmps4
  simp only [List.append_eq, List.cons_append, List.nil_append]
  go_wp2_with fail
  refine (C1.out _ _ _ (by simp) (by simp)).mono ?_
  rintro e w1 ⟨rfl, rfl⟩
  go_wp2_with (first
    | (go_at_call 14; ((with_reducible refine (C2.out _ _ _ (by simp) (by simp)).mono ?_); rintro e w1 ⟨rfl, rfl⟩))
    | (go_at_call 17; (first | (with_reducible refine (C3.out _).mono ?_) | (with_reducible refine (C4.out _).mono ?_)); rintro e w1 ⟨rfl, rfl⟩)
    | (go_at_call 16; ((with_reducible refine (C5.out _).mono ?_); rintro e w2 ⟨rfl, g2⟩))
    | (go_at_call 10; ((with_reducible refine (K.out _).mono ?_); rintro e w3 ⟨rfl, g3⟩)))
  go_ret
  exact ⟨rfl, ((((Kept.refl _).alloc _ _).trans g2).trans g3).alloc _ _⟩

set_option maxHeartbeats 800000 in
set_option maxRecDepth 100000 in
theorem ends_A1x (a b t q m : Int) (w : World) (hs : IntKind.u64.wrap (a + b) = t) (hq : IntKind.u64.wrap (a * b) = q) (hm : m ≤ a) (hA : a ≤ t) (hb0 : (b == 0) = false) (hb : 1 ≤ b ∧ b ≤ 18446744073709551615) (_hd : 0 ≤ 18446744073709551615 / b ∧ 18446744073709551615 / b ≤ 18446744073709551615) (hle : decide (a ≤ 18446744073709551615 / b) = true) (hc : a < b)
    (c1 : ∀ (c g : Nat) w, w.cell? ⟨g, 0, none⟩ = some (.int .u64 a) → w.cell? ⟨g, 1, none⟩ = some (.int .u64 b) → Calls Try.prog 14 #[.slice (some ⟨g, 0, none⟩) 2 c] w fun e w' => e = .returned (.int .u64 t) ∧ w = w')
    (c2 : ∀ (c g : Nat) w, w.cell? ⟨g, 0, none⟩ = some (.int .u64 a) → w.cell? ⟨g, 1, none⟩ = some (.int .u64 0) → Calls Try.prog 14 #[.slice (some ⟨g, 0, none⟩) 2 c] w fun e w' => e = .returned (.int .u64 a) ∧ w = w')
    (c3 : ∀ w, Calls Try.prog 17 #[.int .u64 a, .int .u64 b] w fun e w' => e = .returned (.int .u64 m) ∧ w = w')
    (c4 : ∀ w, Calls Try.prog 17 #[.int .u64 a, .int .u64 a] w fun e w' => e = .returned (.int .u64 0) ∧ w = w')
    (c5 : ∀ w, Calls Try.prog 16 #[.int .u64 a, .int .u64 b] w fun e w' => e = .returned (.int .u64 q) ∧ Kept w w') :
    Calls Try.prog 4 #[.int .u64 a, .int .u64 b] w fun e w' => e = .returned (.bool true) ∧ Kept w w' := by
  have k (w : World) := known2_any w
  have K := Lib.hid k
  have C1 := Lib.hid c1
  have C2 := Lib.hid c2
  have C3 := Lib.hid c3
  have C4 := Lib.hid c4
  have C5 := Lib.hid c5
  clear k c1 c2 c3 c4 c5
  go_enter Try.func4, Try.ntmps4
  simp only [List.append_eq, List.cons_append, List.nil_append]
  go_wp2_with fail
  refine (C1.out _ _ _ (by simp) (by simp)).mono ?_
  rintro e w1 ⟨rfl, rfl⟩
  go_wp2_with (first
    | (go_at_call 14; ((with_reducible refine (C2.out _ _ _ (by simp) (by simp)).mono ?_); rintro e w1 ⟨rfl, rfl⟩))
    | (go_at_call 17; (first | (with_reducible refine (C3.out _).mono ?_) | (with_reducible refine (C4.out _).mono ?_)); rintro e w1 ⟨rfl, rfl⟩)
    | (go_at_call 16; ((with_reducible refine (C5.out _).mono ?_); rintro e w2 ⟨rfl, g2⟩))
    | (go_at_call 10; ((with_reducible refine (K.out _).mono ?_); rintro e w3 ⟨rfl, g3⟩)))
  go_ret
  exact ⟨rfl, ((((Kept.refl _).alloc _ _).trans g2).trans g3).alloc _ _⟩

set_option maxHeartbeats 800000 in
set_option maxRecDepth 100000 in
theorem ends_A1y (a b t q m : Int) (w : World) (hs : IntKind.u64.wrap (a + b) = t) (hq : IntKind.u64.wrap (a * b) = q) (hm : m ≤ a) (hA : a ≤ t) (hb0 : (b == 0) = false) (hb : 1 ≤ b ∧ b ≤ 18446744073709551615) (_hd : 0 ≤ 18446744073709551615 / b ∧ 18446744073709551615 / b ≤ 18446744073709551615) (hle : decide (a ≤ 18446744073709551615 / b) = true) (hc : b ≤ a) (hw : IntKind.u64.wrap (m + b) = a)
    (c1 : ∀ (c g : Nat) w, w.cell? ⟨g, 0, none⟩ = some (.int .u64 a) → w.cell? ⟨g, 1, none⟩ = some (.int .u64 b) → Calls Try.prog 14 #[.slice (some ⟨g, 0, none⟩) 2 c] w fun e w' => e = .returned (.int .u64 t) ∧ w = w')
    (c2 : ∀ (c g : Nat) w, w.cell? ⟨g, 0, none⟩ = some (.int .u64 a) → w.cell? ⟨g, 1, none⟩ = some (.int .u64 0) → Calls Try.prog 14 #[.slice (some ⟨g, 0, none⟩) 2 c] w fun e w' => e = .returned (.int .u64 a) ∧ w = w')
    (c3 : ∀ w, Calls Try.prog 17 #[.int .u64 a, .int .u64 b] w fun e w' => e = .returned (.int .u64 m) ∧ w = w')
    (c4 : ∀ w, Calls Try.prog 17 #[.int .u64 a, .int .u64 a] w fun e w' => e = .returned (.int .u64 0) ∧ w = w')
    (c5 : ∀ w, Calls Try.prog 16 #[.int .u64 a, .int .u64 b] w fun e w' => e = .returned (.int .u64 q) ∧ Kept w w') :
    Calls Try.prog 4 #[.int .u64 a, .int .u64 b] w fun e w' => e = .returned (.bool true) ∧ Kept w w' := by
  have k (w : World) := known2_any w
  have K := Lib.hid k
  have C1 := Lib.hid c1
  have C2 := Lib.hid c2
  have C3 := Lib.hid c3
  have C4 := Lib.hid c4
  have C5 := Lib.hid c5
  clear k c1 c2 c3 c4 c5
  go_enter Try.func4, Try.ntmps4
  simp only [List.append_eq, List.cons_append, List.nil_append]
  go_wp2_with fail
  refine (C1.out _ _ _ (by simp) (by simp)).mono ?_
  rintro e w1 ⟨rfl, rfl⟩
  go_wp2_with (first
    | (go_at_call 14; ((with_reducible refine (C2.out _ _ _ (by simp) (by simp)).mono ?_); rintro e w1 ⟨rfl, rfl⟩))
    | (go_at_call 17; (first | (with_reducible refine (C3.out _).mono ?_) | (with_reducible refine (C4.out _).mono ?_)); rintro e w1 ⟨rfl, rfl⟩)
    | (go_at_call 16; ((with_reducible refine (C5.out _).mono ?_); rintro e w2 ⟨rfl, g2⟩))
    | (go_at_call 10; ((with_reducible refine (K.out _).mono ?_); rintro e w3 ⟨rfl, g3⟩)))
  go_ret
  exact ⟨rfl, ((((Kept.refl _).alloc _ _).trans g2).trans g3).alloc _ _⟩

set_option maxHeartbeats 800000 in
set_option maxRecDepth 100000 in
theorem ends_A2x (a b t q m : Int) (w : World) (hs : IntKind.u64.wrap (a + b) = t) (_hq : IntKind.u64.wrap (a * b) = q) (hm : m ≤ a) (hA : a ≤ t) (hb0 : (b == 0) = false) (hb : 1 ≤ b ∧ b ≤ 18446744073709551615) (_hd : 0 ≤ 18446744073709551615 / b ∧ 18446744073709551615 / b ≤ 18446744073709551615) (hle : decide (a ≤ 18446744073709551615 / b) = false) (hc : a < b)
    (c1 : ∀ (c g : Nat) w, w.cell? ⟨g, 0, none⟩ = some (.int .u64 a) → w.cell? ⟨g, 1, none⟩ = some (.int .u64 b) → Calls Try.prog 14 #[.slice (some ⟨g, 0, none⟩) 2 c] w fun e w' => e = .returned (.int .u64 t) ∧ w = w')
    (c2 : ∀ (c g : Nat) w, w.cell? ⟨g, 0, none⟩ = some (.int .u64 a) → w.cell? ⟨g, 1, none⟩ = some (.int .u64 0) → Calls Try.prog 14 #[.slice (some ⟨g, 0, none⟩) 2 c] w fun e w' => e = .returned (.int .u64 a) ∧ w = w')
    (c3 : ∀ w, Calls Try.prog 17 #[.int .u64 a, .int .u64 b] w fun e w' => e = .returned (.int .u64 m) ∧ w = w')
    (c4 : ∀ w, Calls Try.prog 17 #[.int .u64 a, .int .u64 a] w fun e w' => e = .returned (.int .u64 0) ∧ w = w')
    (c5 : ∀ w, Calls Try.prog 16 #[.int .u64 a, .int .u64 b] w fun e w' => e = .returned (.int .u64 18446744073709551615) ∧ Kept w w') :
    Calls Try.prog 4 #[.int .u64 a, .int .u64 b] w fun e w' => e = .returned (.bool true) ∧ Kept w w' := by
  have k (w : World) := known2_any w
  have K := Lib.hid k
  have C1 := Lib.hid c1
  have C2 := Lib.hid c2
  have C3 := Lib.hid c3
  have C4 := Lib.hid c4
  have C5 := Lib.hid c5
  clear k c1 c2 c3 c4 c5
  go_enter Try.func4, Try.ntmps4
  simp only [List.append_eq, List.cons_append, List.nil_append]
  go_wp2_with fail
  refine (C1.out _ _ _ (by simp) (by simp)).mono ?_
  rintro e w1 ⟨rfl, rfl⟩
  go_wp2_with (first
    | (go_at_call 14; ((with_reducible refine (C2.out _ _ _ (by simp) (by simp)).mono ?_); rintro e w1 ⟨rfl, rfl⟩))
    | (go_at_call 17; (first | (with_reducible refine (C3.out _).mono ?_) | (with_reducible refine (C4.out _).mono ?_)); rintro e w1 ⟨rfl, rfl⟩)
    | (go_at_call 16; ((with_reducible refine (C5.out _).mono ?_); rintro e w2 ⟨rfl, g2⟩))
    | (go_at_call 10; ((with_reducible refine (K.out _).mono ?_); rintro e w3 ⟨rfl, g3⟩)))
  go_ret
  exact ⟨rfl, ((((Kept.refl _).alloc _ _).trans g2).trans g3).alloc _ _⟩

set_option maxHeartbeats 800000 in
set_option maxRecDepth 100000 in
theorem ends_A2y (a b t q m : Int) (w : World) (hs : IntKind.u64.wrap (a + b) = t) (_hq : IntKind.u64.wrap (a * b) = q) (hm : m ≤ a) (hA : a ≤ t) (hb0 : (b == 0) = false) (hb : 1 ≤ b ∧ b ≤ 18446744073709551615) (_hd : 0 ≤ 18446744073709551615 / b ∧ 18446744073709551615 / b ≤ 18446744073709551615) (hle : decide (a ≤ 18446744073709551615 / b) = false) (hc : b ≤ a) (hw : IntKind.u64.wrap (m + b) = a)
    (c1 : ∀ (c g : Nat) w, w.cell? ⟨g, 0, none⟩ = some (.int .u64 a) → w.cell? ⟨g, 1, none⟩ = some (.int .u64 b) → Calls Try.prog 14 #[.slice (some ⟨g, 0, none⟩) 2 c] w fun e w' => e = .returned (.int .u64 t) ∧ w = w')
    (c2 : ∀ (c g : Nat) w, w.cell? ⟨g, 0, none⟩ = some (.int .u64 a) → w.cell? ⟨g, 1, none⟩ = some (.int .u64 0) → Calls Try.prog 14 #[.slice (some ⟨g, 0, none⟩) 2 c] w fun e w' => e = .returned (.int .u64 a) ∧ w = w')
    (c3 : ∀ w, Calls Try.prog 17 #[.int .u64 a, .int .u64 b] w fun e w' => e = .returned (.int .u64 m) ∧ w = w')
    (c4 : ∀ w, Calls Try.prog 17 #[.int .u64 a, .int .u64 a] w fun e w' => e = .returned (.int .u64 0) ∧ w = w')
    (c5 : ∀ w, Calls Try.prog 16 #[.int .u64 a, .int .u64 b] w fun e w' => e = .returned (.int .u64 18446744073709551615) ∧ Kept w w') :
    Calls Try.prog 4 #[.int .u64 a, .int .u64 b] w fun e w' => e = .returned (.bool true) ∧ Kept w w' := by
  have k (w : World) := known2_any w
  have K := Lib.hid k
  have C1 := Lib.hid c1
  have C2 := Lib.hid c2
  have C3 := Lib.hid c3
  have C4 := Lib.hid c4
  have C5 := Lib.hid c5
  clear k c1 c2 c3 c4 c5
  go_enter Try.func4, Try.ntmps4
  simp only [List.append_eq, List.cons_append, List.nil_append]
  go_wp2_with fail
  refine (C1.out _ _ _ (by simp) (by simp)).mono ?_
  rintro e w1 ⟨rfl, rfl⟩
  go_wp2_with (first
    | (go_at_call 14; ((with_reducible refine (C2.out _ _ _ (by simp) (by simp)).mono ?_); rintro e w1 ⟨rfl, rfl⟩))
    | (go_at_call 17; (first | (with_reducible refine (C3.out _).mono ?_) | (with_reducible refine (C4.out _).mono ?_)); rintro e w1 ⟨rfl, rfl⟩)
    | (go_at_call 16; ((with_reducible refine (C5.out _).mono ?_); rintro e w2 ⟨rfl, g2⟩))
    | (go_at_call 10; ((with_reducible refine (K.out _).mono ?_); rintro e w3 ⟨rfl, g3⟩)))
  go_ret
  exact ⟨rfl, ((((Kept.refl _).alloc _ _).trans g2).trans g3).alloc _ _⟩

set_option maxHeartbeats 800000 in
set_option maxRecDepth 100000 in
theorem ends_B1x (a b t q m : Int) (w : World) (hs : IntKind.u64.wrap (a + b) = t) (hq : IntKind.u64.wrap (a * b) = q) (hm : m ≤ a) (hA : t < a) (hb0 : (b == 0) = false) (hb : 1 ≤ b ∧ b ≤ 18446744073709551615) (_hd : 0 ≤ 18446744073709551615 / b ∧ 18446744073709551615 / b ≤ 18446744073709551615) (hle : decide (a ≤ 18446744073709551615 / b) = true) (hc : a < b)
    (c1 : ∀ (c g : Nat) w, w.cell? ⟨g, 0, none⟩ = some (.int .u64 a) → w.cell? ⟨g, 1, none⟩ = some (.int .u64 b) → Calls Try.prog 14 #[.slice (some ⟨g, 0, none⟩) 2 c] w fun e w' => e = .returned (.int .u64 18446744073709551615) ∧ w = w')
    (c2 : ∀ (c g : Nat) w, w.cell? ⟨g, 0, none⟩ = some (.int .u64 a) → w.cell? ⟨g, 1, none⟩ = some (.int .u64 0) → Calls Try.prog 14 #[.slice (some ⟨g, 0, none⟩) 2 c] w fun e w' => e = .returned (.int .u64 a) ∧ w = w')
    (c3 : ∀ w, Calls Try.prog 17 #[.int .u64 a, .int .u64 b] w fun e w' => e = .returned (.int .u64 m) ∧ w = w')
    (c4 : ∀ w, Calls Try.prog 17 #[.int .u64 a, .int .u64 a] w fun e w' => e = .returned (.int .u64 0) ∧ w = w')
    (c5 : ∀ w, Calls Try.prog 16 #[.int .u64 a, .int .u64 b] w fun e w' => e = .returned (.int .u64 q) ∧ Kept w w') :
    Calls Try.prog 4 #[.int .u64 a, .int .u64 b] w fun e w' => e = .returned (.bool true) ∧ Kept w w' := by
  have k (w : World) := known2_any w
  have K := Lib.hid k
  have C1 := Lib.hid c1
  have C2 := Lib.hid c2
  have C3 := Lib.hid c3
  have C4 := Lib.hid c4
  have C5 := Lib.hid c5
  clear k c1 c2 c3 c4 c5
  go_enter Try.func4, Try.ntmps4
  simp only [List.append_eq, List.cons_append, List.nil_append]
  go_wp2_with fail
  refine (C1.out _ _ _ (by simp) (by simp)).mono ?_
  rintro e w1 ⟨rfl, rfl⟩
  go_wp2_with (first
    | (go_at_call 14; ((with_reducible refine (C2.out _ _ _ (by simp) (by simp)).mono ?_); rintro e w1 ⟨rfl, rfl⟩))
    | (go_at_call 17; (first | (with_reducible refine (C3.out _).mono ?_) | (with_reducible refine (C4.out _).mono ?_)); rintro e w1 ⟨rfl, rfl⟩)
    | (go_at_call 16; ((with_reducible refine (C5.out _).mono ?_); rintro e w2 ⟨rfl, g2⟩))
    | (go_at_call 10; ((with_reducible refine (K.out _).mono ?_); rintro e w3 ⟨rfl, g3⟩)))
  go_ret
  exact ⟨rfl, ((((Kept.refl _).alloc _ _).trans g2).trans g3).alloc _ _⟩

set_option maxHeartbeats 800000 in
set_option maxRecDepth 100000 in
theorem ends_B1y (a b t q m : Int) (w : World) (hs : IntKind.u64.wrap (a + b) = t) (hq : IntKind.u64.wrap (a * b) = q) (hm : m ≤ a) (hA : t < a) (hb0 : (b == 0) = false) (hb : 1 ≤ b ∧ b ≤ 18446744073709551615) (_hd : 0 ≤ 18446744073709551615 / b ∧ 18446744073709551615 / b ≤ 18446744073709551615) (hle : decide (a ≤ 18446744073709551615 / b) = true) (hc : b ≤ a) (hw : IntKind.u64.wrap (m + b) = a)
    (c1 : ∀ (c g : Nat) w, w.cell? ⟨g, 0, none⟩ = some (.int .u64 a) → w.cell? ⟨g, 1, none⟩ = some (.int .u64 b) → Calls Try.prog 14 #[.slice (some ⟨g, 0, none⟩) 2 c] w fun e w' => e = .returned (.int .u64 18446744073709551615) ∧ w = w')
    (c2 : ∀ (c g : Nat) w, w.cell? ⟨g, 0, none⟩ = some (.int .u64 a) → w.cell? ⟨g, 1, none⟩ = some (.int .u64 0) → Calls Try.prog 14 #[.slice (some ⟨g, 0, none⟩) 2 c] w fun e w' => e = .returned (.int .u64 a) ∧ w = w')
    (c3 : ∀ w, Calls Try.prog 17 #[.int .u64 a, .int .u64 b] w fun e w' => e = .returned (.int .u64 m) ∧ w = w')
    (c4 : ∀ w, Calls Try.prog 17 #[.int .u64 a, .int .u64 a] w fun e w' => e = .returned (.int .u64 0) ∧ w = w')
    (c5 : ∀ w, Calls Try.prog 16 #[.int .u64 a, .int .u64 b] w fun e w' => e = .returned (.int .u64 q) ∧ Kept w w') :
    Calls Try.prog 4 #[.int .u64 a, .int .u64 b] w fun e w' => e = .returned (.bool true) ∧ Kept w w' := by
  have k (w : World) := known2_any w
  have K := Lib.hid k
  have C1 := Lib.hid c1
  have C2 := Lib.hid c2
  have C3 := Lib.hid c3
  have C4 := Lib.hid c4
  have C5 := Lib.hid c5
  clear k c1 c2 c3 c4 c5
  go_enter Try.func4, Try.ntmps4
  simp only [List.append_eq, List.cons_append, List.nil_append]
  go_wp2_with fail
  refine (C1.out _ _ _ (by simp) (by simp)).mono ?_
  rintro e w1 ⟨rfl, rfl⟩
  go_wp2_with (first
    | (go_at_call 14; ((with_reducible refine (C2.out _ _ _ (by simp) (by simp)).mono ?_); rintro e w1 ⟨rfl, rfl⟩))
    | (go_at_call 17; (first | (with_reducible refine (C3.out _).mono ?_) | (with_reducible refine (C4.out _).mono ?_)); rintro e w1 ⟨rfl, rfl⟩)
    | (go_at_call 16; ((with_reducible refine (C5.out _).mono ?_); rintro e w2 ⟨rfl, g2⟩))
    | (go_at_call 10; ((with_reducible refine (K.out _).mono ?_); rintro e w3 ⟨rfl, g3⟩)))
  go_ret
  exact ⟨rfl, ((((Kept.refl _).alloc _ _).trans g2).trans g3).alloc _ _⟩

set_option maxHeartbeats 800000 in
set_option maxRecDepth 100000 in
theorem ends_B2x (a b t q m : Int) (w : World) (hs : IntKind.u64.wrap (a + b) = t) (_hq : IntKind.u64.wrap (a * b) = q) (hm : m ≤ a) (hA : t < a) (hb0 : (b == 0) = false) (hb : 1 ≤ b ∧ b ≤ 18446744073709551615) (_hd : 0 ≤ 18446744073709551615 / b ∧ 18446744073709551615 / b ≤ 18446744073709551615) (hle : decide (a ≤ 18446744073709551615 / b) = false) (hc : a < b)
    (c1 : ∀ (c g : Nat) w, w.cell? ⟨g, 0, none⟩ = some (.int .u64 a) → w.cell? ⟨g, 1, none⟩ = some (.int .u64 b) → Calls Try.prog 14 #[.slice (some ⟨g, 0, none⟩) 2 c] w fun e w' => e = .returned (.int .u64 18446744073709551615) ∧ w = w')
    (c2 : ∀ (c g : Nat) w, w.cell? ⟨g, 0, none⟩ = some (.int .u64 a) → w.cell? ⟨g, 1, none⟩ = some (.int .u64 0) → Calls Try.prog 14 #[.slice (some ⟨g, 0, none⟩) 2 c] w fun e w' => e = .returned (.int .u64 a) ∧ w = w')
    (c3 : ∀ w, Calls Try.prog 17 #[.int .u64 a, .int .u64 b] w fun e w' => e = .returned (.int .u64 m) ∧ w = w')
    (c4 : ∀ w, Calls Try.prog 17 #[.int .u64 a, .int .u64 a] w fun e w' => e = .returned (.int .u64 0) ∧ w = w')
    (c5 : ∀ w, Calls Try.prog 16 #[.int .u64 a, .int .u64 b] w fun e w' => e = .returned (.int .u64 18446744073709551615) ∧ Kept w w') :
    Calls Try.prog 4 #[.int .u64 a, .int .u64 b] w fun e w' => e = .returned (.bool true) ∧ Kept w w' := by
  have k (w : World) := known2_any w
  have K := Lib.hid k
  have C1 := Lib.hid c1
  have C2 := Lib.hid c2
  have C3 := Lib.hid c3
  have C4 := Lib.hid c4
  have C5 := Lib.hid c5
  clear k c1 c2 c3 c4 c5
  go_enter Try.func4, Try.ntmps4
  simp only [List.append_eq, List.cons_append, List.nil_append]
  go_wp2_with fail
  refine (C1.out _ _ _ (by simp) (by simp)).mono ?_
  rintro e w1 ⟨rfl, rfl⟩
  go_wp2_with (first
    | (go_at_call 14; ((with_reducible refine (C2.out _ _ _ (by simp) (by simp)).mono ?_); rintro e w1 ⟨rfl, rfl⟩))
    | (go_at_call 17; (first | (with_reducible refine (C3.out _).mono ?_) | (with_reducible refine (C4.out _).mono ?_)); rintro e w1 ⟨rfl, rfl⟩)
    | (go_at_call 16; ((with_reducible refine (C5.out _).mono ?_); rintro e w2 ⟨rfl, g2⟩))
    | (go_at_call 10; ((with_reducible refine (K.out _).mono ?_); rintro e w3 ⟨rfl, g3⟩)))
  go_ret
  exact ⟨rfl, ((((Kept.refl _).alloc _ _).trans g2).trans g3).alloc _ _⟩

set_option maxHeartbeats 800000 in
set_option maxRecDepth 100000 in
theorem ends_B2y (a b t q m : Int) (w : World) (hs : IntKind.u64.wrap (a + b) = t) (_hq : IntKind.u64.wrap (a * b) = q) (hm : m ≤ a) (hA : t < a) (hb0 : (b == 0) = false) (hb : 1 ≤ b ∧ b ≤ 18446744073709551615) (_hd : 0 ≤ 18446744073709551615 / b ∧ 18446744073709551615 / b ≤ 18446744073709551615) (hle : decide (a ≤ 18446744073709551615 / b) = false) (hc : b ≤ a) (hw : IntKind.u64.wrap (m + b) = a)
    (c1 : ∀ (c g : Nat) w, w.cell? ⟨g, 0, none⟩ = some (.int .u64 a) → w.cell? ⟨g, 1, none⟩ = some (.int .u64 b) → Calls Try.prog 14 #[.slice (some ⟨g, 0, none⟩) 2 c] w fun e w' => e = .returned (.int .u64 18446744073709551615) ∧ w = w')
    (c2 : ∀ (c g : Nat) w, w.cell? ⟨g, 0, none⟩ = some (.int .u64 a) → w.cell? ⟨g, 1, none⟩ = some (.int .u64 0) → Calls Try.prog 14 #[.slice (some ⟨g, 0, none⟩) 2 c] w fun e w' => e = .returned (.int .u64 a) ∧ w = w')
    (c3 : ∀ w, Calls Try.prog 17 #[.int .u64 a, .int .u64 b] w fun e w' => e = .returned (.int .u64 m) ∧ w = w')
    (c4 : ∀ w, Calls Try.prog 17 #[.int .u64 a, .int .u64 a] w fun e w' => e = .returned (.int .u64 0) ∧ w = w')
    (c5 : ∀ w, Calls Try.prog 16 #[.int .u64 a, .int .u64 b] w fun e w' => e = .returned (.int .u64 18446744073709551615) ∧ Kept w w') :
    Calls Try.prog 4 #[.int .u64 a, .int .u64 b] w fun e w' => e = .returned (.bool true) ∧ Kept w w' := by
  have k (w : World) := known2_any w
  have K := Lib.hid k
  have C1 := Lib.hid c1
  have C2 := Lib.hid c2
  have C3 := Lib.hid c3
  have C4 := Lib.hid c4
  have C5 := Lib.hid c5
  clear k c1 c2 c3 c4 c5
  go_enter Try.func4, Try.ntmps4
  simp only [List.append_eq, List.cons_append, List.nil_append]
  go_wp2_with fail
  refine (C1.out _ _ _ (by simp) (by simp)).mono ?_
  rintro e w1 ⟨rfl, rfl⟩
  go_wp2_with (first
    | (go_at_call 14; ((with_reducible refine (C2.out _ _ _ (by simp) (by simp)).mono ?_); rintro e w1 ⟨rfl, rfl⟩))
    | (go_at_call 17; (first | (with_reducible refine (C3.out _).mono ?_) | (with_reducible refine (C4.out _).mono ?_)); rintro e w1 ⟨rfl, rfl⟩)
    | (go_at_call 16; ((with_reducible refine (C5.out _).mono ?_); rintro e w2 ⟨rfl, g2⟩))
    | (go_at_call 10; ((with_reducible refine (K.out _).mono ?_); rintro e w3 ⟨rfl, g3⟩)))
  go_ret
  exact ⟨rfl, ((((Kept.refl _).alloc _ _).trans g2).trans g3).alloc _ _⟩

theorem whole_iff (a b : Int) (hb : 1 ≤ b) : (a ≤ 18446744073709551615 / b) ↔ (a * b ≤ 18446744073709551615) := Int.le_ediv_iff_mul_le (by omega)

theorem ends_walk (a b : Int) (w : World) (ha : U a) (hb : U b) :
    Calls Try.prog 4 #[.int .u64 a, .int .u64 b] w fun e w' => e = .returned (.bool true) ∧ Kept w w' := by
  have c1 (c g : Nat) (w : World) := num_add_two g c a b w ha hb
  have c2 (c g : Nat) (w : World) := num_add_two g c a 0 w ha U_zero
  have e2 : sat (a + 0) = a := by unfold sat U at *; split <;> omega
  rw [e2] at c2
  have c3 (w : World) := num_sub a b w ha hb
  have c4 (w : World) := num_sub a a w ha ha
  have e4 : sbI a a = 0 := by simp [sbI]
  rw [e4] at c4
  have c5 (w : World) := num_mul a b w ha hb
  have hp := mu_prod_le a b ha hb
  have hm : sbI a b ≤ a := by unfold sbI U at *; split <;> omega
  have hd : 1 ≤ b → 0 ≤ 18446744073709551615 / b ∧ 18446744073709551615 / b ≤ 18446744073709551615 := fun h => ⟨Int.ediv_nonneg (by omega) (by omega), Int.ediv_le_self _ (by omega)⟩
  have hwh := whole_iff a b
  have hy : b ≤ a → IntKind.u64.wrap (sbI a b + b) = a := by
    intro h
    have : sbI a b = a - b := by simp [sbI]; omega
    rw [this, IntKind.wrap_u64]; unfold U at *; omega
  by_cases A : a + b ≤ 18446744073709551615
  · have hA : a ≤ IntKind.u64.wrap (a + b) := by rw [IntKind.wrap_u64]; unfold U at *; omega
    have e1 : sat (a + b) = IntKind.u64.wrap (a + b) := by rw [IntKind.wrap_u64]; unfold sat U at *; split <;> omega
    rw [e1] at c1
    by_cases z : b = 0
    · have e5 : sat (a * b) = IntKind.u64.wrap (a * b) := by rw [IntKind.wrap_u64, z]; simp [sat]
      rw [e5] at c5
      exact ends_A0y a b _ _ _ w rfl rfl hm hA (by simp [z]) (by unfold U at *; omega) (hy (by unfold U at *; omega)) c1 c2 c3 c4 c5
    · have zb : (b == 0) = false := by simpa using z
      have hb1 : 1 ≤ b ∧ b ≤ 18446744073709551615 := by unfold U at *; omega
      by_cases B : a * b ≤ 18446744073709551615
      · have e5 : sat (a * b) = IntKind.u64.wrap (a * b) := by rw [IntKind.wrap_u64]; unfold sat; rw [if_pos B]; omega
        rw [e5] at c5
        have hle : decide (a ≤ 18446744073709551615 / b) = true := decide_eq_true ((hwh hb1.1).2 B)
        by_cases C : a < b
        · exact ends_A1x a b _ _ _ w rfl rfl hm hA zb hb1 (hd hb1.1) hle C c1 c2 c3 c4 c5
        · exact ends_A1y a b _ _ _ w rfl rfl hm hA zb hb1 (hd hb1.1) hle (by omega) (hy (by omega)) c1 c2 c3 c4 c5
      · have e5 : sat (a * b) = 18446744073709551615 := by unfold sat; rw [if_neg B]
        rw [e5] at c5
        have hle : decide (a ≤ 18446744073709551615 / b) = false := decide_eq_false (fun h => B ((hwh hb1.1).1 h))
        by_cases C : a < b
        · exact ends_A2x a b _ _ _ w rfl rfl hm hA zb hb1 (hd hb1.1) hle C c1 c2 c3 c4 c5
        · exact ends_A2y a b _ _ _ w rfl rfl hm hA zb hb1 (hd hb1.1) hle (by omega) (hy (by omega)) c1 c2 c3 c4 c5
  · have hA : IntKind.u64.wrap (a + b) < a := by rw [IntKind.wrap_u64]; unfold U at *; omega
    have e1 : sat (a + b) = 18446744073709551615 := by unfold sat; rw [if_neg A]
    rw [e1] at c1
    have zb : (b == 0) = false := by unfold U at *; simp; omega
    have hb1 : 1 ≤ b ∧ b ≤ 18446744073709551615 := by unfold U at *; omega
    by_cases B : a * b ≤ 18446744073709551615
    · have e5 : sat (a * b) = IntKind.u64.wrap (a * b) := by rw [IntKind.wrap_u64]; unfold sat; rw [if_pos B]; omega
      rw [e5] at c5
      have hle : decide (a ≤ 18446744073709551615 / b) = true := decide_eq_true ((hwh hb1.1).2 B)
      by_cases C : a < b
      · exact ends_B1x a b _ _ _ w rfl rfl hm hA zb hb1 (hd hb1.1) hle C c1 c2 c3 c4 c5
      · exact ends_B1y a b _ _ _ w rfl rfl hm hA zb hb1 (hd hb1.1) hle (by omega) (hy (by omega)) c1 c2 c3 c4 c5
    · have e5 : sat (a * b) = 18446744073709551615 := by unfold sat; rw [if_neg B]
      rw [e5] at c5
      have hle : decide (a ≤ 18446744073709551615 / b) = false := decide_eq_false (fun h => B ((hwh hb1.1).1 h))
      by_cases C : a < b
      · exact ends_B2x a b _ _ _ w rfl rfl hm hA zb hb1 (hd hb1.1) hle C c1 c2 c3 c4 c5
      · exact ends_B2y a b _ _ _ w rfl rfl hm hA zb hb1 (hd hb1.1) hle (by omega) (hy (by omega)) c1 c2 c3 c4 c5
end Go.Proofs.Ytpnhhihddlpokaa.Wd
