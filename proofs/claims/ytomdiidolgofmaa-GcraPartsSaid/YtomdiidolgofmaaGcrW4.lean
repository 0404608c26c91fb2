/- The laws GcraParts and GcraEmpty answer true, for any state and any numbers; no conditions. -/
import Derived.Test.YtomdiidolgofmaaGcrW2
namespace Go.Proofs.Ytomdiidolgofmaa.Wd
open Go.RowKit
set_option linter.unusedVariables false

set_option maxHeartbeats 4000000 in
theorem parts_core (k0 a0 b0 now most at' v x y m : Int) (ak aa ab bk ba bb ck ca cb lk la lb : Int) (k : Int) (s : Nat) (P : Int) (p q r l : Bool) (w : World)
    (hn : 0 ≤ now ∧ now ≤ 18446744073709551615) (hat : now / 4 = at') (hv : 0 ≤ v ∧ v ≤ 4294967295) (hx : 0 ≤ x ∧ x ≤ 4294967295) (hm : 0 ≤ most ∧ most ≤ 18446744073709551615)
    (h6 : 0 ≤ k ∧ k ≤ 255) (hs : k % 64 = (s : Int)) (hs2 : s < 64) (hP : (2 : Int) ^ s = P) (hP1 : 1 ≤ P) (hPm : most / P = m)
    (hmin : (v < x ∧ y = v) ∨ (x < v ∧ y = x) ∨ (v = x ∧ y = v))
    (hc : (p = true ∧ q = true ∧ r = true ∧ l = true ∧ ck = bk ∧ ca = ba ∧ cb = bb ∧ m ≤ 9223372036854775808) ∨ (p = true ∧ q = false ∧ r = false ∧ l = true ∧ m ≤ 9223372036854775808) ∨ (p = false ∧ r = false ∧ m ≤ 9223372036854775808) ∨ (p = false ∧ 9223372036854775808 < m) ∨ (p = true ∧ l = true ∧ 9223372036854775808 < m))
    (D1 : Hid (∀ w, Calls Try.prog 13 #[sta k0 a0 b0, .int .u64 at', .int .u64 m, .int .u64 v] w fun e w' => e = .returned (.tuple #[sta ak aa ab, .bool p]) ∧ Kept w w'))
    (D2 : Hid (∀ w, Calls Try.prog 13 #[sta ak aa ab, .int .u64 at', .int .u64 m, .int .u64 x] w fun e w' => e = .returned (.tuple #[sta bk ba bb, .bool q]) ∧ Kept w w'))
    (D3 : Hid (∀ w, Calls Try.prog 13 #[sta k0 a0 b0, .int .u64 at', .int .u64 m, .int .u64 (v + x)] w fun e w' => e = .returned (.tuple #[sta ck ca cb, .bool r]) ∧ Kept w w'))
    (D4 : Hid (∀ w, Calls Try.prog 13 #[sta k0 a0 b0, .int .u64 at', .int .u64 m, .int .u64 y] w fun e w' => e = .returned (.tuple #[sta lk la lb, .bool l]) ∧ Kept w w')) :
    Calls Try.prog 6 #[sta k0 a0 b0, .int .u64 now, .int .u64 most, .int .u32 v, .int .u32 x, .int .u8 k] w fun e w' => e = .returned (.bool true) ∧ Kept w w' := by
  rcases hmin with ⟨hlt, rfl⟩ | ⟨hlt, rfl⟩ | ⟨rfl, rfl⟩
  all_goals
    rcases hc with ⟨rfl, rfl, rfl, rfl, rfl, rfl, rfl, hm63⟩ | ⟨rfl, rfl, rfl, rfl, hm63⟩ | ⟨rfl, rfl, hm63⟩ | ⟨rfl, hm63⟩ | ⟨rfl, rfl, hm63⟩
  all_goals
    go_enter Try.func6, Try.ntmps6
    go_wp2_with fail
    refine (D1.out _).mono ?_
    rintro e w1 ⟨rfl, g1⟩
    obtain ⟨hc1, hf1⟩ := g1.reads
    have hz1 : w.heap.size < w1.heap.size := by (have := g1.size; simp at this; omega)
    go_wp2_with fail
    refine (D2.out _).mono ?_
    rintro e w2 ⟨rfl, g2⟩
    obtain ⟨hc2, hf2⟩ := g2.reads
    have hz2 : w.heap.size < w2.heap.size := by (have := g2.size; simp at this; omega)
    go_wp2_with fail
    refine (D3.out _).mono ?_
    rintro e w3 ⟨rfl, g3⟩
    obtain ⟨hc3, hf3⟩ := g3.reads
    have hz3 : w.heap.size < w3.heap.size ∧ w2.heap.size < w3.heap.size := by (have := g3.size; simp at this; omega)
    go_wp2_with fail
    refine (D4.out _).mono ?_
    rintro e w4 ⟨rfl, g4⟩
    obtain ⟨hc4, hf4⟩ := g4.reads
    have hz4 : w2.heap.size < w4.heap.size ∧ w3.heap.size < w4.heap.size := by (have := g4.size; simp at this; omega)
    go_wp2_with (go_at_call 9; ((with_reducible refine (known_any _).mono ?_); rintro e w5 ⟨rfl, g5⟩; obtain ⟨hc5, hf5⟩ := g5.reads))
    go_ret
    exact ⟨rfl, ((((((((((Kept.refl w).alloc _ _).trans g1).alloc _ _).trans g2).alloc _ _).trans g3).alloc _ _).trans g4).alloc _ _).trans g5⟩

theorem gdA_U (a now cap v : Int) (ha : U a) (hn : U now) (hv : U v) : U (gdA a now cap v) := by
  have ht := thI_U a now ha hn
  unfold gdA
  split
  · exact sat_U _ (by unfold U at *; omega)
  · exact ha
theorem gdT_U (a b now cap v : Int) (hb : U b) : U (gdT a b now cap v) := by
  unfold gdT; split
  · exact U_zero
  · exact hb

theorem gcraParts_walk (k0 a0 b0 now most v x k : Int) (w : World) (h1 : U a0) (h2 : U b0) (h3 : U now) (h4 : U most) (hv : 0 ≤ v ∧ v ≤ 4294967295) (hx : 0 ≤ x ∧ x ≤ 4294967295) (h6 : 0 ≤ k ∧ k ≤ 255) :
    Calls Try.prog 6 #[sta k0 a0 b0, .int .u64 now, .int .u64 most, .int .u32 v, .int .u32 x, .int .u8 k] w fun e w' => e = .returned (.bool true) ∧ Kept w w' := by
  obtain ⟨s, hs⟩ : ∃ s : Nat, k % 64 = (s : Int) := ⟨(k % 64).toNat, by omega⟩
  have hs2 : s < 64 := by omega
  obtain ⟨P, hP⟩ : ∃ P : Int, (2 : Int) ^ s = P := ⟨_, rfl⟩
  have hP1 : 1 ≤ P := by rw [← hP]; have := pow_pos s; omega
  have um := div_pow_U most P h4 hP1
  obtain ⟨m, hm⟩ : ∃ m : Int, most / P = m := ⟨_, rfl⟩
  rw [hm] at um
  obtain ⟨t, ht⟩ : ∃ t : Int, now / 4 = t := ⟨_, rfl⟩
  have u4 : 0 ≤ t ∧ t ≤ 4611686018427387903 := by unfold U at h3; omega
  have ut : U t := by unfold U; omega
  have uv : U v := by unfold U; omega
  have ux : U x := by unfold U; omega
  have uvx : U (v + x) := by unfold U; omega
  obtain ⟨y, hy, uy⟩ : ∃ y : Int, ((v < x ∧ y = v) ∨ (x < v ∧ y = x) ∨ (v = x ∧ y = v)) ∧ U y := by
    by_cases c : v < x
    · exact ⟨v, .inl ⟨c, rfl⟩, uv⟩
    · by_cases c2 : x < v
      · exact ⟨x, .inr (.inl ⟨c2, rfl⟩), ux⟩
      · exact ⟨v, .inr (.inr ⟨by omega, rfl⟩), uv⟩
  have uA := gdA_U a0 t m v h1 ut uv
  have uT := gdT_U a0 b0 t m v h2
  refine parts_core k0 a0 b0 now most t v x y m _ _ _ _ _ _ _ _ _ _ _ _ k s P _ _ _ _ w h3 ht hv hx h4 h6 hs hs2 hP hP1 hm hy ?_ (Lib.hid fun w => gdecide_any k0 a0 b0 t m v w h1 h2 ut um uv)
    (Lib.hid fun w => gdecide_any (gdK k0 a0 t m v) (gdA a0 t m v) (gdT a0 b0 t m v) t m x w uA uT ut um ux)
    (Lib.hid fun w => gdecide_any k0 a0 b0 t m (v + x) w h1 h2 ut um uvx) (Lib.hid fun w => gdecide_any k0 a0 b0 t m y w h1 h2 ut um uy)
  have uf := sbI_U a0 t h1 ut
  by_cases big : 9223372036854775808 < m
  · cases hp : gdB a0 t m v
    · exact .inr (.inr (.inr (.inl ⟨rfl, big⟩)))
    · refine .inr (.inr (.inr (.inr ⟨rfl, ?_, big⟩)))
      unfold gdB ftB at *; simp at *; omega
  · have big' : m ≤ 9223372036854775808 := by omega
    cases hp : gdB a0 t m v
    · refine .inr (.inr (.inl ⟨rfl, ?_, big'⟩))
      unfold gdB ftB at *; simp at *; omega
    · have hl : gdB a0 t m y = true := by unfold gdB ftB at *; simp at *; omega
      have hle : sbI a0 t + v ≤ m := by unfold gdB ftB at hp; simpa using hp
      have eA : gdA a0 t m v = t + (sbI a0 t + v) := by
        simp only [gdA, hp, if_true]
        rw [thI_eq, Int.add_assoc]
        exact sat_id _ (by unfold U at *; omega)
      have eF : sbI (gdA a0 t m v) t = sbI a0 t + v := by rw [eA]; exact sb_here _ _ (by unfold U at *; omega)
      have eH : thI (gdA a0 t m v) t = thI a0 t + v := by rw [thI_eq, thI_eq a0 t, eF]; omega
      have eT : gdT a0 b0 t m v = 0 := by simp [gdT, hp]
      have eK : gdK k0 a0 t m v = 1 := by simp [gdK, hp]
      have hq : gdB (gdA a0 t m v) t m x = gdB a0 t m (v + x) := by
        unfold gdB; rw [eF]; unfold ftB; rw [Bool.eq_iff_iff]; simp only [decide_eq_true_eq]; omega
      cases hr : gdB a0 t m (v + x)
      · rw [hr] at hq
        exact .inr (.inl ⟨rfl, hq, rfl, hl, big'⟩)
      · rw [hr] at hq
        refine .inl ⟨rfl, hq, rfl, hl, ?_, ?_, ?_, big'⟩
        · simp [gdK, hr, hq]
        · rw [show gdA a0 t m (v + x) = sat (thI a0 t + (v + x)) by simp [gdA, hr], show gdA (gdA a0 t m v) t m x = sat (thI (gdA a0 t m v) t + x) by simp only [gdA] at hq ⊢; simp [hq], eH, Int.add_assoc]
        · simp [gdT, hr, hq]

theorem empty_core (now most d x1 x2 x3 : Int) (p : Bool) (w : World) (h1 : U now) (h2 : 0 ≤ most ∧ most ≤ 4294967295) (h3 : 0 ≤ d ∧ d ≤ 4294967295)
    (hp : (0 < most ∧ 0 < d ∧ p = true) ∨ (0 < most ∧ d = 0 ∧ p = false) ∨ (most = 0 ∧ p = false))
    (F1 : Hid (∀ w, Calls Try.prog 13 #[sta 0 0 0, .int .u64 (now / 4), .int .u64 most, .int .u64 most] w fun e w' => e = .returned (.tuple #[sta 1 (now / 4 + most) 0, .bool true]) ∧ Kept w w'))
    (F2 : Hid (∀ w, Calls Try.prog 13 #[sta 0 0 0, .int .u64 (now / 4), .int .u64 most, .int .u64 (most + 1)] w fun e w' => e = .returned (.tuple #[sta 0 0 0, .bool false]) ∧ Kept w w'))
    (F4 : Hid (∀ w, Calls Try.prog 13 #[sta 1 (now / 4 + most) 0, .int .u64 (now / 4 + d), .int .u64 most, .int .u64 1] w fun e w' => e = .returned (.tuple #[sta x1 x2 x3, .bool p]) ∧ Kept w w')) :
    Calls Try.prog 8 #[.int .u64 now, .int .u32 most, .int .u32 d] w fun e w' => e = .returned (.bool true) ∧ Kept w w' := by
  have ua : U (now / 4) := by unfold U at *; omega
  have u1 : U (now / 4 + d) := by unfold U at *; omega
  have u2 : U (now / 4 + most) := by unfold U at *; omega
  have um : U most := by unfold U; omega
  have um1 : U (most + 1) := by unfold U; omega
  unfold U at *
  rcases hp with ⟨c1, c2, rfl⟩ | ⟨c1, rfl, rfl⟩ | ⟨rfl, rfl⟩
  rotate_left
  · rw [Int.add_zero] at F4
    go_enter Try.func8, Try.ntmps8
    go_wp2_with (first
      | (go_at_call 13; ((with_reducible refine (F1.out _).mono ?_); rintro e w1 ⟨rfl, g1⟩))
      | (go_at_call 13; ((with_reducible refine (F2.out _).mono ?_); rintro e w2 ⟨rfl, g2⟩; obtain ⟨hc2, hf2⟩ := g2.reads; have hz2 : w1.heap.size < w2.heap.size := by (have := g2.size; simp at this; omega)))
      | (go_at_call 13; ((with_reducible refine (F4.out _).mono ?_); rintro e w3 ⟨rfl, g3⟩; obtain ⟨hc3, hf3⟩ := g3.reads; have hz3 : w1.heap.size < w3.heap.size := by (have := g3.size; simp at this; omega)))
      | (go_at_call 9; ((with_reducible refine (known_any _).mono ?_); rintro e w4 ⟨rfl, g4⟩; obtain ⟨hc4, hf4⟩ := g4.reads; have hz4 : w1.heap.size < w4.heap.size := by (have := g4.size; simp at this; omega))))
    go_ret
    exact ⟨rfl, ((((((((Kept.refl w).trans g1).alloc _ _).trans g2).alloc _ _).trans g3).alloc _ _).trans g4)⟩
  · rw [Int.zero_add] at F2
    rw [Int.add_zero] at F1 F4
    go_enter Try.func8, Try.ntmps8
    go_wp2_with (first
      | (go_at_call 13; ((with_reducible refine (F1.out _).mono ?_); rintro e w1 ⟨rfl, g1⟩))
      | (go_at_call 13; ((with_reducible refine (F2.out _).mono ?_); rintro e w2 ⟨rfl, g2⟩; obtain ⟨hc2, hf2⟩ := g2.reads; have hz2 : w1.heap.size < w2.heap.size := by (have := g2.size; simp at this; omega)))
      | (go_at_call 13; ((with_reducible refine (F4.out _).mono ?_); rintro e w3 ⟨rfl, g3⟩; obtain ⟨hc3, hf3⟩ := g3.reads; have hz3 : w1.heap.size < w3.heap.size := by (have := g3.size; simp at this; omega)))
      | (go_at_call 9; ((with_reducible refine (known_any _).mono ?_); rintro e w4 ⟨rfl, g4⟩; obtain ⟨hc4, hf4⟩ := g4.reads; have hz4 : w1.heap.size < w4.heap.size := by (have := g4.size; simp at this; omega))))
    go_ret
    exact ⟨rfl, ((((((((Kept.refl w).trans g1).alloc _ _).trans g2).alloc _ _).trans g3).alloc _ _).trans g4)⟩
  · go_enter Try.func8, Try.ntmps8
    go_wp2_with (first
      | (go_at_call 13; ((with_reducible refine (F1.out _).mono ?_); rintro e w1 ⟨rfl, g1⟩))
      | (go_at_call 13; ((with_reducible refine (F2.out _).mono ?_); rintro e w2 ⟨rfl, g2⟩; obtain ⟨hc2, hf2⟩ := g2.reads; have hz2 : w1.heap.size < w2.heap.size := by (have := g2.size; simp at this; omega)))
      | (go_at_call 13; ((with_reducible refine (F4.out _).mono ?_); rintro e w3 ⟨rfl, g3⟩; obtain ⟨hc3, hf3⟩ := g3.reads; have hz3 : w1.heap.size < w3.heap.size := by (have := g3.size; simp at this; omega)))
      | (go_at_call 9; ((with_reducible refine (known_any _).mono ?_); rintro e w4 ⟨rfl, g4⟩; obtain ⟨hc4, hf4⟩ := g4.reads; have hz4 : w1.heap.size < w4.heap.size := by (have := g4.size; simp at this; omega))))
    go_ret
    exact ⟨rfl, ((((((((Kept.refl w).trans g1).alloc _ _).trans g2).alloc _ _).trans g3).alloc _ _).trans g4)⟩

theorem gcraEmpty_walk (now most d : Int) (w : World) (h1 : U now) (h2 : 0 ≤ most ∧ most ≤ 4294967295) (h3 : 0 ≤ d ∧ d ≤ 4294967295) :
    Calls Try.prog 8 #[.int .u64 now, .int .u32 most, .int .u32 d] w fun e w' => e = .returned (.bool true) ∧ Kept w w' := by
  have ua : U (now / 4) := by unfold U at *; omega
  have u1 : U (now / 4 + d) := by unfold U at *; omega
  have u2 : U (now / 4 + most) := by unfold U at *; omega
  have um : U most := by unfold U; omega
  have um1 : U (most + 1) := by unfold U; omega
  have uo : U 1 := by unfold U; omega
  have e0 : sbI 0 (now / 4) = 0 := by have := ua.1; unfold sbI; split <;> omega
  have e1 : thI 0 (now / 4) = now / 4 := by rw [thI_eq, e0]; omega
  have e3 : sbI (now / 4 + most) (now / 4 + d) = sbI most d := sb_shift _ _ _
  have q1 (w : World) := gdecide_yes 0 0 0 (now / 4) most most w U_zero U_zero ua um um (by unfold gdB ftB; rw [e0]; simp)
  have q2 (w : World) := gdecide_no 0 0 0 (now / 4) most (most + 1) w U_zero U_zero ua um um1 (by unfold gdB ftB; rw [e0]; simp; omega)
  have q4 (w : World) := gdecide_any 1 (now / 4 + most) 0 (now / 4 + d) most 1 w u2 U_zero u1 um uo
  rw [e1, sat_id _ u2.2] at q1
  refine empty_core now most d _ _ _ _ w h1 h2 h3 ?_ (Lib.hid q1) (Lib.hid q2) (Lib.hid q4)
  unfold gdB ftB
  rw [e3]
  unfold sbI
  by_cases c : most = 0
  · exact .inr (.inr ⟨c, by simp; split <;> omega⟩)
  · by_cases c2 : d = 0
    · exact .inr (.inl ⟨by omega, c2, by simp; split <;> omega⟩)
    · exact .inl ⟨by omega, by omega, by simp; split <;> omega⟩
end Go.Proofs.Ytomdiidolgofmaa.Wd
