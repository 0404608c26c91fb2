/- The laws LeakyParts and LeakyEmpty answer true, for any state and any numbers; no conditions. -/
import Derived.Test.YtjhemadigijeiaaLeaW3
namespace Go.Proofs.Ytjhemadigijeiaa.Wd
open Go.RowKit
set_option linter.unusedVariables false

set_option maxHeartbeats 4000000 in
theorem parts_core (k0 a0 b0 now most v x y m : Int) (ak aa ab bk ba bb ck ca cb lk la lb : Int) (k : Int) (s : Nat) (P : Int) (p q r l : Bool) (w : World)
    (hv : 0 ≤ v ∧ v ≤ 4294967295) (hx : 0 ≤ x ∧ x ≤ 4294967295) (hm : 0 ≤ most ∧ most ≤ 18446744073709551615)
    (h6 : 0 ≤ k ∧ k ≤ 255) (hs : k % 64 = (s : Int)) (hs2 : s < 64) (hP : (2 : Int) ^ s = P) (hP1 : 1 ≤ P) (hPm : most / P = m)
    (hmin : (v < x ∧ y = v) ∨ (x < v ∧ y = x) ∨ (v = x ∧ y = v))
    (hc : (p = true ∧ q = true ∧ r = true ∧ l = true ∧ ck = bk ∧ ca = ba ∧ cb = bb) ∨ (p = true ∧ q = false ∧ r = false ∧ l = true) ∨ (p = false ∧ r = false))
    (D1 : Hid (∀ w, Calls Try.prog 14 #[sta k0 a0 b0, .int .u64 now, .int .u64 m, .int .u64 v] w fun e w' => e = .returned (.tuple #[sta ak aa ab, .bool p]) ∧ Kept w w'))
    (D2 : Hid (∀ w, Calls Try.prog 14 #[sta ak aa ab, .int .u64 now, .int .u64 m, .int .u64 x] w fun e w' => e = .returned (.tuple #[sta bk ba bb, .bool q]) ∧ Kept w w'))
    (D3 : Hid (∀ w, Calls Try.prog 14 #[sta k0 a0 b0, .int .u64 now, .int .u64 m, .int .u64 (v + x)] w fun e w' => e = .returned (.tuple #[sta ck ca cb, .bool r]) ∧ Kept w w'))
    (D4 : Hid (∀ w, Calls Try.prog 14 #[sta k0 a0 b0, .int .u64 now, .int .u64 m, .int .u64 y] w fun e w' => e = .returned (.tuple #[sta lk la lb, .bool l]) ∧ Kept w w')) :
    Calls Try.prog 6 #[sta k0 a0 b0, .int .u64 now, .int .u64 most, .int .u32 v, .int .u32 x, .int .u8 k] w fun e w' => e = .returned (.bool true) ∧ Kept w w' := by
  rcases hmin with ⟨hlt, rfl⟩ | ⟨hlt, rfl⟩ | ⟨rfl, rfl⟩
  all_goals
    rcases hc with ⟨rfl, rfl, rfl, rfl, rfl, rfl, rfl⟩ | ⟨rfl, rfl, rfl, rfl⟩ | ⟨rfl, rfl⟩
  all_goals
    go_enter Try.func6, Try.ntmps6
    go_wp2_with fail
    refine (D1.out _).mono ?_
    rintro e w1 ⟨rfl, g1⟩
    obtain ⟨hc1, hf1⟩ := g1.reads
    have hz1 : w.heap.size < w1.heap.size := by (have := g1.size; simp at this; omega)
    go_wp2_with fail
    refine (D2.out _).mono ?_
    rintro e w2 ⟨rfl, g2⟩
    obtain ⟨hc2, hf2⟩ := g2.reads
    have hz2 : w.heap.size < w2.heap.size := by (have := g2.size; simp at this; omega)
    go_wp2_with fail
    refine (D3.out _).mono ?_
    rintro e w3 ⟨rfl, g3⟩
    obtain ⟨hc3, hf3⟩ := g3.reads
    have hz3 : w.heap.size < w3.heap.size ∧ w2.heap.size < w3.heap.size := by (have := g3.size; simp at this; omega)
    go_wp2_with fail
    refine (D4.out _).mono ?_
    rintro e w4 ⟨rfl, g4⟩
    obtain ⟨hc4, hf4⟩ := g4.reads
    have hz4 : w2.heap.size < w4.heap.size ∧ w3.heap.size < w4.heap.size := by (have := g4.size; simp at this; omega)
    go_wp2_with (go_at_call 9; ((with_reducible refine (known_any _).mono ?_); rintro e w5 ⟨rfl, g5⟩; obtain ⟨hc5, hf5⟩ := g5.reads))
    go_ret
    exact ⟨rfl, ((((((((((Kept.refl w).alloc _ _).trans g1).alloc _ _).trans g2).alloc _ _).trans g3).alloc _ _).trans g4).alloc _ _).trans g5⟩

theorem deA_U (a b now cap v : Int) (ha : U a) (hb : U b) (hn : U now) (hc : U cap) (hv : U v) : U (deA a b now cap v) := by
  have hf := fiI_U a b now ha hb hn
  unfold deA
  split
  · rename_i h
    have := ft_add _ _ _ hv.1 hf.1 h
    unfold U at *; omega
  · exact ha
theorem deT_U (a b now cap v : Int) (hb : U b) (hn : U now) : U (deT a b now cap v) := by
  unfold deT; split <;> assumption

theorem leakyParts_walk (k0 a0 b0 now most v x k : Int) (w : World) (h1 : U a0) (h2 : U b0) (h3 : U now) (h4 : U most) (hv : 0 ≤ v ∧ v ≤ 4294967295) (hx : 0 ≤ x ∧ x ≤ 4294967295) (h6 : 0 ≤ k ∧ k ≤ 255) :
    Calls Try.prog 6 #[sta k0 a0 b0, .int .u64 now, .int .u64 most, .int .u32 v, .int .u32 x, .int .u8 k] w fun e w' => e = .returned (.bool true) ∧ Kept w w' := by
  obtain ⟨s, hs⟩ : ∃ s : Nat, k % 64 = (s : Int) := ⟨(k % 64).toNat, by omega⟩
  have hs2 : s < 64 := by omega
  obtain ⟨P, hP⟩ : ∃ P : Int, (2 : Int) ^ s = P := ⟨_, rfl⟩
  have hP1 : 1 ≤ P := by rw [← hP]; have := pow_pos s; omega
  have um := div_pow_U most P h4 hP1
  obtain ⟨m, hm⟩ : ∃ m : Int, most / P = m := ⟨_, rfl⟩
  rw [hm] at um
  have uv : U v := by unfold U; omega
  have ux : U x := by unfold U; omega
  have uvx : U (v + x) := by unfold U; omega
  obtain ⟨y, hy, uy⟩ : ∃ y : Int, ((v < x ∧ y = v) ∨ (x < v ∧ y = x) ∨ (v = x ∧ y = v)) ∧ U y := by
    by_cases c : v < x
    · exact ⟨v, .inl ⟨c, rfl⟩, uv⟩
    · by_cases c2 : x < v
      · exact ⟨x, .inr (.inl ⟨c2, rfl⟩), ux⟩
      · exact ⟨v, .inr (.inr ⟨by omega, rfl⟩), uv⟩
  have uf := fiI_U a0 b0 now h1 h2 h3
  have uA := deA_U a0 b0 now m v h1 h2 h3 um uv
  have uT := deT_U a0 b0 now m v h2 h3
  refine parts_core k0 a0 b0 now most v x y m _ _ _ _ _ _ _ _ _ _ _ _ k s P _ _ _ _ w hv hx h4 h6 hs hs2 hP hP1 hm hy ?_ (Lib.hid fun w => decide_any k0 a0 b0 now m v w h1 h2 h3 um uv)
    (Lib.hid fun w => decide_any (deK k0 a0 b0 now m v) (deA a0 b0 now m v) (deT a0 b0 now m v) now m x w uA uT h3 um ux)
    (Lib.hid fun w => decide_any k0 a0 b0 now m (v + x) w h1 h2 h3 um uvx) (Lib.hid fun w => decide_any k0 a0 b0 now m y w h1 h2 h3 um uy)
  cases hp : deB a0 b0 now m v
  · right; right
    refine ⟨rfl, ?_⟩
    unfold deB ftB at *
    simp at *
    omega
  · have eA : deA a0 b0 now m v = fiI a0 b0 now + v := by simp [deA, hp]
    have eT : deT a0 b0 now m v = now := by simp [deT, hp]
    have eK : deK k0 a0 b0 now m v = 3 := by simp [deK, hp]
    have hl : deB a0 b0 now m y = true := by unfold deB ftB at *; simp at *; omega
    rw [eA] at uA
    have eF := fi_now (fiI a0 b0 now + v) now uA
    rw [eA, eT, eK]
    have hq : deB (fiI a0 b0 now + v) now now m x = deB a0 b0 now m (v + x) := by
      unfold deB; rw [eF]; unfold ftB; rw [Int.add_assoc]
    cases hr : deB a0 b0 now m (v + x)
    · right; left
      rw [hr] at hq
      exact ⟨rfl, hq, rfl, hl⟩
    · left
      rw [hr] at hq
      refine ⟨rfl, hq, rfl, hl, ?_, ?_, ?_⟩
      · simp [deK, hr, hq]
      · simp [deA, hr, hq, eF, Int.add_assoc]
      · simp [deT, hr, hq]

theorem leakyEmpty_walk (now most d : Int) (w : World) (h1 : U now) (h2 : 0 ≤ most ∧ most ≤ 4294967295) (h3 : 0 ≤ d ∧ d ≤ 4294967295) :
    Calls Try.prog 8 #[.int .u64 now, .int .u32 most, .int .u32 d] w fun e w' => e = .returned (.bool true) ∧ Kept w w' := by
  have ua : U (now / 4) := by unfold U at *; omega
  have u1 : U (now / 4 + d) := by unfold U at *; omega
  have um : U most := by unfold U; omega
  have um1 : U (most + 1) := by unfold U; omega
  have uo : U 1 := by unfold U; omega
  have f0 : fiI 0 0 (now / 4) = 0 := by unfold fiI sbI U at *; (repeat' split) <;> omega
  have q1 (w : World) := decide_yes 0 0 0 (now / 4) most most w U_zero U_zero ua um um (by unfold deB; rw [f0]; simp [ftB])
  have q2 (w : World) := decide_no 0 0 0 (now / 4) most (most + 1) w U_zero U_zero ua um um1 (by unfold deB; rw [f0]; unfold ftB; simp; omega)
  rw [f0, Int.zero_add] at q1
  clear f0
  have q3 (w : World) := fill_any 3 most (now / 4) (now / 4) most w um ua ua
  rw [fi_now _ _ um] at q3
  have q4 (w : World) := decide_any 3 most (now / 4) (now / 4 + d) most 1 w um ua u1 um uo
  have e4 : deB most (now / 4) (now / 4 + d) most 1 = (decide (0 < most) && decide (0 < d)) := by
    unfold deB; rw [fi_later _ _ _ h3.1]; unfold ftB sbI; rw [Bool.eq_iff_iff]; simp; split <;> omega
  rw [e4] at q4
  clear e4
  generalize deK 3 most (now / 4) (now / 4 + d) most 1 = x1 at *
  generalize deA most (now / 4) (now / 4 + d) most 1 = x2 at *
  generalize deT most (now / 4) (now / 4 + d) most 1 = x3 at *
  have F1 := Lib.hid q1
  have F2 := Lib.hid q2
  have F3 := Lib.hid q3
  unfold U at h1 ua u1 um um1
  by_cases c : 0 < most
  · by_cases c2 : 0 < d
    · simp only [c, c2, decide_true, Bool.and_self] at q4
      have F4 := Lib.hid q4
      clear q1 q2 q3 q4
      go_enter Try.func8, Try.ntmps8
      go_wp2_with (first
        | (go_at_call 14; ((with_reducible refine (F1.out _).mono ?_); rintro e w1 ⟨rfl, g1⟩))
        | (go_at_call 14; ((with_reducible refine (F2.out _).mono ?_); rintro e w2 ⟨rfl, g2⟩; obtain ⟨hc2, hf2⟩ := g2.reads; have hz2 : w1.heap.size < w2.heap.size := by (have := g2.size; simp at this; omega)))
        | (go_at_call 14; ((with_reducible refine (F4.out _).mono ?_); rintro e w3 ⟨rfl, g3⟩; obtain ⟨hc3, hf3⟩ := g3.reads; have hz3 : w1.heap.size < w3.heap.size := by (have := g3.size; simp at this; omega)))
        | (go_at_call 9; ((with_reducible refine (known_any _).mono ?_); rintro e w4 ⟨rfl, g4⟩; obtain ⟨hc4, hf4⟩ := g4.reads; have hz4 : w1.heap.size < w4.heap.size := by (have := g4.size; simp at this; omega)))
        | (go_at_call 12; ((with_reducible refine (F3.out _).mono ?_); rintro e w5 ⟨rfl, g5⟩)))
      go_ret
      exact ⟨rfl, (((((((g1.alloc _ _).trans g2).alloc _ _).trans g3).alloc _ _).trans g4).trans g5)⟩
    · obtain rfl : d = 0 := by omega
      simp only [c, decide_true, Bool.true_and, show decide ((0 : Int) < 0) = false from rfl] at q4
      have F4 := Lib.hid q4
      clear q1 q2 q3 q4 c2
      rw [Int.add_zero] at F4
      go_enter Try.func8, Try.ntmps8
      go_wp2_with (first
        | (go_at_call 14; ((with_reducible refine (F1.out _).mono ?_); rintro e w1 ⟨rfl, g1⟩))
        | (go_at_call 14; ((with_reducible refine (F2.out _).mono ?_); rintro e w2 ⟨rfl, g2⟩; obtain ⟨hc2, hf2⟩ := g2.reads; have hz2 : w1.heap.size < w2.heap.size := by (have := g2.size; simp at this; omega)))
        | (go_at_call 14; ((with_reducible refine (F4.out _).mono ?_); rintro e w3 ⟨rfl, g3⟩; obtain ⟨hc3, hf3⟩ := g3.reads; have hz3 : w1.heap.size < w3.heap.size := by (have := g3.size; simp at this; omega)))
        | (go_at_call 9; ((with_reducible refine (known_any _).mono ?_); rintro e w4 ⟨rfl, g4⟩; obtain ⟨hc4, hf4⟩ := g4.reads; have hz4 : w1.heap.size < w4.heap.size := by (have := g4.size; simp at this; omega)))
        | (go_at_call 12; ((with_reducible refine (F3.out _).mono ?_); rintro e w5 ⟨rfl, g5⟩)))
      go_ret
      exact ⟨rfl, (((((((g1.alloc _ _).trans g2).alloc _ _).trans g3).alloc _ _).trans g4).trans g5)⟩
  · obtain rfl : most = 0 := by omega
    simp only [Bool.false_and, show decide ((0 : Int) < 0) = false from rfl] at q4
    have F4 := Lib.hid q4
    clear q1 q2 q3 q4 c
    rw [Int.zero_add] at F2
    go_enter Try.func8, Try.ntmps8
    go_wp2_with (first
      | (go_at_call 14; ((with_reducible refine (F1.out _).mono ?_); rintro e w1 ⟨rfl, g1⟩))
      | (go_at_call 14; ((with_reducible refine (F2.out _).mono ?_); rintro e w2 ⟨rfl, g2⟩; obtain ⟨hc2, hf2⟩ := g2.reads; have hz2 : w1.heap.size < w2.heap.size := by (have := g2.size; simp at this; omega)))
      | (go_at_call 14; ((with_reducible refine (F4.out _).mono ?_); rintro e w3 ⟨rfl, g3⟩; obtain ⟨hc3, hf3⟩ := g3.reads; have hz3 : w1.heap.size < w3.heap.size := by (have := g3.size; simp at this; omega)))
      | (go_at_call 9; ((with_reducible refine (known_any _).mono ?_); rintro e w4 ⟨rfl, g4⟩; obtain ⟨hc4, hf4⟩ := g4.reads; have hz4 : w1.heap.size < w4.heap.size := by (have := g4.size; simp at this; omega)))
      | (go_at_call 12; ((with_reducible refine (F3.out _).mono ?_); rintro e w5 ⟨rfl, g5⟩)))
    go_ret
    exact ⟨rfl, (((((((g1.alloc _ _).trans g2).alloc _ _).trans g3).alloc _ _).trans g4).trans g5)⟩
end Go.Proofs.Ytjhemadigijeiaa.Wd
