/- The laws BucketParts and BucketEmpty answer true, for any state and any numbers; no conditions. -/
import Derived.Test.YtbhfhjdljgofjaaBucW2
namespace Go.Proofs.Ytbhfhjdljgofjaa.Wd
open Go.RowKit
set_option linter.unusedVariables false

set_option maxHeartbeats 4000000 in
theorem parts_core (k0 a0 b0 now most v x y m : Int) (ak aa ab bk ba bb ck ca cb lk la lb : Int) (k : Int) (s : Nat) (P : Int) (p q r l : Bool) (w : World)
    (hv : 0 ≤ v ∧ v ≤ 4294967295) (hx : 0 ≤ x ∧ x ≤ 4294967295) (hm : 0 ≤ most ∧ most ≤ 18446744073709551615)
    (h6 : 0 ≤ k ∧ k ≤ 255) (hs : k % 64 = (s : Int)) (hs2 : s < 64) (hP : (2 : Int) ^ s = P) (hP1 : 1 ≤ P) (hPm : most / P = m)
    (hmin : (v < x ∧ y = v) ∨ (x < v ∧ y = x) ∨ (v = x ∧ y = v))
    (hc : (p = true ∧ q = true ∧ r = true ∧ l = true ∧ ck = bk ∧ ca = ba ∧ cb = bb) ∨ (p = true ∧ q = false ∧ r = false ∧ l = true) ∨ (p = false ∧ r = false))
    (D1 : Hid (∀ w, Calls Try.prog 13 #[sta k0 a0 b0, .int .u64 now, .int .u64 m, .int .u64 v] w fun e w' => e = .returned (.tuple #[sta ak aa ab, .bool p]) ∧ Kept w w'))
    (D2 : Hid (∀ w, Calls Try.prog 13 #[sta ak aa ab, .int .u64 now, .int .u64 m, .int .u64 x] w fun e w' => e = .returned (.tuple #[sta bk ba bb, .bool q]) ∧ Kept w w'))
    (D3 : Hid (∀ w, Calls Try.prog 13 #[sta k0 a0 b0, .int .u64 now, .int .u64 m, .int .u64 (v + x)] w fun e w' => e = .returned (.tuple #[sta ck ca cb, .bool r]) ∧ Kept w w'))
    (D4 : Hid (∀ w, Calls Try.prog 13 #[sta k0 a0 b0, .int .u64 now, .int .u64 m, .int .u64 y] w fun e w' => e = .returned (.tuple #[sta lk la lb, .bool l]) ∧ Kept w w')) :
    Calls Try.prog 6 #[sta k0 a0 b0, .int .u64 now, .int .u64 most, .int .u32 v, .int .u32 x, .int .u8 k] w fun e w' => e = .returned (.bool true) ∧ Kept w w' := by
  rcases hmin with ⟨hlt, rfl⟩ | ⟨hlt, rfl⟩ | ⟨rfl, rfl⟩
  all_goals
    rcases hc with ⟨rfl, rfl, rfl, rfl, rfl, rfl, rfl⟩ | ⟨rfl, rfl, rfl, rfl⟩ | ⟨rfl, rfl⟩
  all_goals
    go_enter Try.func6, Try.ntmps6
    go_wp2_with fail
    refine (D1.out _).mono ?_
    rintro e w1 ⟨rfl, g1⟩
    obtain ⟨hc1, hf1⟩ := g1.reads
    have hz1 : w.heap.size < w1.heap.size := by (have := g1.size; simp at this; omega)
    go_wp2_with fail
    refine (D2.out _).mono ?_
    rintro e w2 ⟨rfl, g2⟩
    obtain ⟨hc2, hf2⟩ := g2.reads
    have hz2 : w.heap.size < w2.heap.size := by (have := g2.size; simp at this; omega)
    go_wp2_with fail
    refine (D3.out _).mono ?_
    rintro e w3 ⟨rfl, g3⟩
    obtain ⟨hc3, hf3⟩ := g3.reads
    have hz3 : w.heap.size < w3.heap.size ∧ w2.heap.size < w3.heap.size := by (have := g3.size; simp at this; omega)
    go_wp2_with fail
    refine (D4.out _).mono ?_
    rintro e w4 ⟨rfl, g4⟩
    obtain ⟨hc4, hf4⟩ := g4.reads
    have hz4 : w2.heap.size < w4.heap.size ∧ w3.heap.size < w4.heap.size := by (have := g4.size; simp at this; omega)
    go_wp2_with (go_at_call 9; ((with_reducible refine (known_any _).mono ?_); rintro e w5 ⟨rfl, g5⟩; obtain ⟨hc5, hf5⟩ := g5.reads))
    go_ret
    exact ⟨rfl, ((((((((((Kept.refl w).alloc _ _).trans g1).alloc _ _).trans g2).alloc _ _).trans g3).alloc _ _).trans g4).alloc _ _).trans g5⟩

theorem bdA_U (a b now cap v : Int) (ha : U a) (hb : U b) (hn : U now) (hc : U cap) (hv : U v) : U (bdA a b now cap v) := by
  have hf := tkI_U a b now cap ha hb hn hc
  unfold bdA
  split
  · rename_i h
    unfold bdB at h; simp at h
    unfold U at *; omega
  · exact ha
theorem bdT_U (a b now cap v : Int) (hb : U b) (hn : U now) : U (bdT a b now cap v) := by
  unfold bdT; split <;> assumption

theorem bucketParts_walk (k0 a0 b0 now most v x k : Int) (w : World) (h1 : U a0) (h2 : U b0) (h3 : U now) (h4 : U most) (hv : 0 ≤ v ∧ v ≤ 4294967295) (hx : 0 ≤ x ∧ x ≤ 4294967295) (h6 : 0 ≤ k ∧ k ≤ 255) :
    Calls Try.prog 6 #[sta k0 a0 b0, .int .u64 now, .int .u64 most, .int .u32 v, .int .u32 x, .int .u8 k] w fun e w' => e = .returned (.bool true) ∧ Kept w w' := by
  obtain ⟨s, hs⟩ : ∃ s : Nat, k % 64 = (s : Int) := ⟨(k % 64).toNat, by omega⟩
  have hs2 : s < 64 := by omega
  obtain ⟨P, hP⟩ : ∃ P : Int, (2 : Int) ^ s = P := ⟨_, rfl⟩
  have hP1 : 1 ≤ P := by rw [← hP]; have := pow_pos s; omega
  have um := div_pow_U most P h4 hP1
  obtain ⟨m, hm⟩ : ∃ m : Int, most / P = m := ⟨_, rfl⟩
  rw [hm] at um
  have uv : U v := by unfold U; omega
  have ux : U x := by unfold U; omega
  have uvx : U (v + x) := by unfold U; omega
  obtain ⟨y, hy, uy⟩ : ∃ y : Int, ((v < x ∧ y = v) ∨ (x < v ∧ y = x) ∨ (v = x ∧ y = v)) ∧ U y := by
    by_cases c : v < x
    · exact ⟨v, .inl ⟨c, rfl⟩, uv⟩
    · by_cases c2 : x < v
      · exact ⟨x, .inr (.inl ⟨c2, rfl⟩), ux⟩
      · exact ⟨v, .inr (.inr ⟨by omega, rfl⟩), uv⟩
  have un := tkI_U a0 b0 now m h1 h2 h3 um
  have ln := tkI_le a0 b0 now m
  have uA := bdA_U a0 b0 now m v h1 h2 h3 um uv
  have uT := bdT_U a0 b0 now m v h2 h3
  refine parts_core k0 a0 b0 now most v x y m _ _ _ _ _ _ _ _ _ _ _ _ k s P _ _ _ _ w hv hx h4 h6 hs hs2 hP hP1 hm hy ?_ (Lib.hid fun w => bdecide_any k0 a0 b0 now m v w h1 h2 h3 um uv)
    (Lib.hid fun w => bdecide_any (bdK k0 a0 b0 now m v) (bdA a0 b0 now m v) (bdT a0 b0 now m v) now m x w uA uT h3 um ux)
    (Lib.hid fun w => bdecide_any k0 a0 b0 now m (v + x) w h1 h2 h3 um uvx) (Lib.hid fun w => bdecide_any k0 a0 b0 now m y w h1 h2 h3 um uy)
  cases hp : bdB a0 b0 now m v
  · right; right
    refine ⟨rfl, ?_⟩
    unfold bdB at *
    simp at *
    omega
  · have eA : bdA a0 b0 now m v = tkI a0 b0 now m - v := by simp [bdA, hp]
    have eT : bdT a0 b0 now m v = now := by simp [bdT, hp]
    have eK : bdK k0 a0 b0 now m v = 2 := by simp [bdK, hp]
    have hl : bdB a0 b0 now m y = true := by unfold bdB at *; simp at *; omega
    rw [eA] at uA
    have eF : tkI (tkI a0 b0 now m - v) now now m = tkI a0 b0 now m - v := by
      generalize tkI a0 b0 now m = n at *
      unfold tkI; rw [sb_self]; split <;> omega
    rw [eA, eT, eK]
    have hq : bdB (tkI a0 b0 now m - v) now now m x = bdB a0 b0 now m (v + x) := by
      unfold bdB; rw [eF]; rw [Bool.eq_iff_iff]; simp only [decide_eq_true_eq]; omega
    cases hr : bdB a0 b0 now m (v + x)
    · right; left
      rw [hr] at hq
      exact ⟨rfl, hq, rfl, hl⟩
    · left
      rw [hr] at hq
      refine ⟨rfl, hq, rfl, hl, ?_, ?_, ?_⟩
      · simp [bdK, hr, hq]
      · simp [bdA, hr, hq, eF]; omega
      · simp [bdT, hr, hq]

theorem empty_core (now most d x1 x2 x3 : Int) (p : Bool) (w : World) (h1 : U now) (h2 : 0 ≤ most ∧ most ≤ 4294967295) (h3 : 0 ≤ d ∧ d ≤ 4294967295)
    (hp : (0 < most ∧ 0 < d ∧ p = true) ∨ (0 < most ∧ d = 0 ∧ p = false) ∨ (most = 0 ∧ p = false))
    (F1 : Hid (∀ w, Calls Try.prog 13 #[sta 2 most (now / 4), .int .u64 (now / 4), .int .u64 most, .int .u64 most] w fun e w' => e = .returned (.tuple #[sta 2 0 (now / 4), .bool true]) ∧ Kept w w'))
    (F2 : Hid (∀ w, Calls Try.prog 13 #[sta 2 most (now / 4), .int .u64 (now / 4), .int .u64 most, .int .u64 (most + 1)] w fun e w' => e = .returned (.tuple #[sta 2 most (now / 4), .bool false]) ∧ Kept w w'))
    (F3 : Hid (∀ w, Calls Try.prog 12 #[sta 2 0 (now / 4), .int .u64 (now / 4), .int .u64 most] w fun e w' => e = .returned (.int .u64 most) ∧ Kept w w'))
    (F4 : Hid (∀ w, Calls Try.prog 13 #[sta 2 0 (now / 4), .int .u64 (now / 4 + d), .int .u64 most, .int .u64 1] w fun e w' => e = .returned (.tuple #[sta x1 x2 x3, .bool p]) ∧ Kept w w')) :
    Calls Try.prog 8 #[.int .u64 now, .int .u32 most, .int .u32 d] w fun e w' => e = .returned (.bool true) ∧ Kept w w' := by
  have ua : U (now / 4) := by unfold U at *; omega
  have u1 : U (now / 4 + d) := by unfold U at *; omega
  have um : U most := by unfold U; omega
  have um1 : U (most + 1) := by unfold U; omega
  unfold U at *
  rcases hp with ⟨c1, c2, rfl⟩ | ⟨c1, rfl, rfl⟩ | ⟨rfl, rfl⟩
  · go_enter Try.func8, Try.ntmps8
    go_wp2_with (first
      | (go_at_call 13; ((with_reducible refine (F1.out _).mono ?_); rintro e w1 ⟨rfl, g1⟩; obtain ⟨hc1, hf1⟩ := g1.reads; have hz1 : w.heap.size < w1.heap.size := by (have := g1.size; simp at this; omega)))
      | (go_at_call 13; ((with_reducible refine (F2.out _).mono ?_); rintro e w2 ⟨rfl, g2⟩; obtain ⟨hc2, hf2⟩ := g2.reads; have hz2 : w1.heap.size < w2.heap.size := by (have := g2.size; simp at this; omega)))
      | (go_at_call 13; ((with_reducible refine (F4.out _).mono ?_); rintro e w3 ⟨rfl, g3⟩; obtain ⟨hc3, hf3⟩ := g3.reads; have hz3 : w1.heap.size < w3.heap.size := by (have := g3.size; simp at this; omega)))
      | (go_at_call 9; ((with_reducible refine (known_any _).mono ?_); rintro e w4 ⟨rfl, g4⟩; obtain ⟨hc4, hf4⟩ := g4.reads; have hz4 : w1.heap.size < w4.heap.size := by (have := g4.size; simp at this; omega)))
      | (go_at_call 12; ((with_reducible refine (F3.out _).mono ?_); rintro e w5 ⟨rfl, g5⟩)))
    go_ret
    exact ⟨rfl, ((((((((((Kept.refl w).alloc _ _).trans g1).alloc _ _).trans g2).alloc _ _).trans g3).alloc _ _).trans g4).trans g5)⟩
  · rw [Int.add_zero] at F4
    go_enter Try.func8, Try.ntmps8
    go_wp2_with (first
      | (go_at_call 13; ((with_reducible refine (F1.out _).mono ?_); rintro e w1 ⟨rfl, g1⟩; obtain ⟨hc1, hf1⟩ := g1.reads; have hz1 : w.heap.size < w1.heap.size := by (have := g1.size; simp at this; omega)))
      | (go_at_call 13; ((with_reducible refine (F2.out _).mono ?_); rintro e w2 ⟨rfl, g2⟩; obtain ⟨hc2, hf2⟩ := g2.reads; have hz2 : w1.heap.size < w2.heap.size := by (have := g2.size; simp at this; omega)))
      | (go_at_call 13; ((with_reducible refine (F4.out _).mono ?_); rintro e w3 ⟨rfl, g3⟩; obtain ⟨hc3, hf3⟩ := g3.reads; have hz3 : w1.heap.size < w3.heap.size := by (have := g3.size; simp at this; omega)))
      | (go_at_call 9; ((with_reducible refine (known_any _).mono ?_); rintro e w4 ⟨rfl, g4⟩; obtain ⟨hc4, hf4⟩ := g4.reads; have hz4 : w1.heap.size < w4.heap.size := by (have := g4.size; simp at this; omega)))
      | (go_at_call 12; ((with_reducible refine (F3.out _).mono ?_); rintro e w5 ⟨rfl, g5⟩)))
    go_ret
    exact ⟨rfl, ((((((((((Kept.refl w).alloc _ _).trans g1).alloc _ _).trans g2).alloc _ _).trans g3).alloc _ _).trans g4).trans g5)⟩
  · rw [Int.zero_add] at F2
    go_enter Try.func8, Try.ntmps8
    go_wp2_with (first
      | (go_at_call 13; ((with_reducible refine (F1.out _).mono ?_); rintro e w1 ⟨rfl, g1⟩; obtain ⟨hc1, hf1⟩ := g1.reads; have hz1 : w.heap.size < w1.heap.size := by (have := g1.size; simp at this; omega)))
      | (go_at_call 13; ((with_reducible refine (F2.out _).mono ?_); rintro e w2 ⟨rfl, g2⟩; obtain ⟨hc2, hf2⟩ := g2.reads; have hz2 : w1.heap.size < w2.heap.size := by (have := g2.size; simp at this; omega)))
      | (go_at_call 13; ((with_reducible refine (F4.out _).mono ?_); rintro e w3 ⟨rfl, g3⟩; obtain ⟨hc3, hf3⟩ := g3.reads; have hz3 : w1.heap.size < w3.heap.size := by (have := g3.size; simp at this; omega)))
      | (go_at_call 9; ((with_reducible refine (known_any _).mono ?_); rintro e w4 ⟨rfl, g4⟩; obtain ⟨hc4, hf4⟩ := g4.reads; have hz4 : w1.heap.size < w4.heap.size := by (have := g4.size; simp at this; omega)))
      | (go_at_call 12; ((with_reducible refine (F3.out _).mono ?_); rintro e w5 ⟨rfl, g5⟩)))
    go_ret
    exact ⟨rfl, ((((((((((Kept.refl w).alloc _ _).trans g1).alloc _ _).trans g2).alloc _ _).trans g3).alloc _ _).trans g4).trans g5)⟩

theorem bucketEmpty_walk (now most d : Int) (w : World) (h1 : U now) (h2 : 0 ≤ most ∧ most ≤ 4294967295) (h3 : 0 ≤ d ∧ d ≤ 4294967295) :
    Calls Try.prog 8 #[.int .u64 now, .int .u32 most, .int .u32 d] w fun e w' => e = .returned (.bool true) ∧ Kept w w' := by
  have ua : U (now / 4) := by unfold U at *; omega
  have u1 : U (now / 4 + d) := by unfold U at *; omega
  have um : U most := by unfold U; omega
  have um1 : U (most + 1) := by unfold U; omega
  have uo : U 1 := by unfold U; omega
  have e1 : tkI most (now / 4) (now / 4) most = most := by unfold tkI; rw [sb_self]; split <;> omega
  have e2 : tkI 0 (now / 4) (now / 4) most = 0 := by unfold tkI; rw [sb_self]; split <;> omega
  have e3 : tkI 0 (now / 4) (now / 4 + d) most = if d ≤ most then d else most := by unfold tkI; rw [sb_add _ _ h3.1, Int.zero_add]
  have q1 (w : World) := bdecide_yes 2 most (now / 4) (now / 4) most most w um ua ua um um (by unfold bdB; rw [e1]; simp)
  have q2 (w : World) := bdecide_no 2 most (now / 4) (now / 4) most (most + 1) w um ua ua um um1 (by unfold bdB; rw [e1]; simp; omega)
  have q3 (w : World) := bfill_any 2 0 (now / 4) (now / 4) most w U_zero ua ua um
  have q4 (w : World) := bdecide_any 2 0 (now / 4) (now / 4 + d) most 1 w U_zero ua u1 um uo
  rw [e1, Int.sub_self] at q1
  rw [show biI 0 (now / 4) (now / 4) most = most by unfold biI; rw [e2]; omega] at q3
  refine empty_core now most d _ _ _ _ w h1 h2 h3 ?_ (Lib.hid q1) (Lib.hid q2) (Lib.hid q3) (Lib.hid q4)
  unfold bdB
  rw [e3]
  by_cases c : most = 0
  · exact .inr (.inr ⟨c, by simp; split <;> omega⟩)
  · by_cases c2 : d = 0
    · exact .inr (.inl ⟨by omega, c2, by simp; split <;> omega⟩)
    · exact .inl ⟨by omega, by omega, by simp; split <;> omega⟩
end Go.Proofs.Ytbhfhjdljgofjaa.Wd
