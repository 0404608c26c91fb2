/- The laws LeakyTime and LeakyComes answer true, for any state and any numbers; no conditions. -/
import Derived.Test.YtjhemadigijeiaaLeaW1
namespace Go.Proofs.Ytjhemadigijeiaa.Wd
open Go.RowKit
set_option linter.unusedVariables false

theorem fi_later (fill at' d : Int) (hd : 0 ≤ d) : fiI fill at' (at' + d) = sbI fill d := by
  unfold fiI sbI; (repeat' split) <;> omega
theorem fi_now (fill at' : Int) (hf : U fill) : fiI fill at' at' = fill := by
  unfold fiI sbI U at *; (repeat' split) <;> omega
theorem fi_nought (fill at' : Int) (hf : U fill) (ha : 0 ≤ at') : fiI fill at' 0 = fill := by
  unfold fiI sbI U at *; (repeat' split) <;> omega
theorem sb_sb (a d e : Int) (hd : 0 ≤ d) (he : 0 ≤ e) : sbI (sbI a d) e = sbI a (d + e) := by
  unfold sbI; (repeat' split) <;> omega

theorem leakyTime_walk (now fill most d e : Int) (w : World) (h1 : U now) (h2 : U fill) (h3 : U most) (h4 : 0 ≤ d ∧ d ≤ 4294967295) (h5 : 0 ≤ e ∧ e ≤ 4294967295) :
    Calls Try.prog 4 #[.int .u64 now, .int .u64 fill, .int .u64 most, .int .u32 d, .int .u32 e] w fun e w' => e = .returned (.bool true) ∧ Kept w w' := by
  have ua : U (now / 4) := by unfold U at *; omega
  have u1 : U (now / 4 + d) := by unfold U at *; omega
  have u2 : U (now / 4 + d + e) := by unfold U at *; omega
  have ud : U d := by unfold U; omega
  have ue : U e := by unfold U; omega
  have ux := sbI_U fill d h2 ud
  have o1 := Lib.hid (fun w => of_any (now / 4) most fill w)
  have q1 (w : World) := fill_any 3 fill (now / 4) (now / 4 + d) most w h2 ua u1
  have q2 (w : World) := fill_any 3 fill (now / 4) (now / 4 + d + e) most w h2 ua u2
  have q3 (w : World) := fill_any 3 fill (now / 4) (now / 4) most w h2 ua ua
  have q4 (w : World) := fill_any 3 fill (now / 4) 0 most w h2 ua U_zero
  have q5 (w : World) := ref_sub fill d w h2 ud
  have q6 (w : World) := ref_sub (sbI fill d) e w ux ue
  rw [fi_later _ _ _ h4.1] at q1
  rw [show now / 4 + d + e = now / 4 + (d + e) by omega, fi_later _ _ _ (by omega), ← sb_sb _ _ _ h4.1 h5.1, show now / 4 + (d + e) = now / 4 + d + e by omega] at q2
  rw [fi_now _ _ h2] at q3
  rw [fi_nought _ _ h2 ua.1] at q4
  generalize sbI fill d = x at *
  generalize sbI x e = y at *
  have f1 := Lib.hid q1
  have f2 := Lib.hid q2
  have f3 := Lib.hid q3
  have f4 := Lib.hid q4
  have f5 := Lib.hid q5
  have f6 := Lib.hid q6
  clear q1 q2 q3 q4 q5 q6 ux ud ue
  unfold U at h1 h2 h3 ua u1 u2
  go_enter Try.func4, Try.ntmps4
  go_wp2_with (first
    | (go_at_call 11; ((with_reducible refine (o1.out _).mono ?_); rintro e w1 ⟨rfl, g1⟩))
    | (go_at_call 12; ((with_reducible refine (f1.out _).mono ?_); rintro e w2 ⟨rfl, g2⟩; obtain ⟨hc2, hf2⟩ := g2.reads; have hz2 : w1.heap.size < w2.heap.size := by (have := g2.size; simp at this; omega)))
    | (go_at_call 12; ((with_reducible refine (f2.out _).mono ?_); rintro e w3 ⟨rfl, g3⟩; obtain ⟨hc3, hf3⟩ := g3.reads; have hz3 : w1.heap.size < w3.heap.size := by (have := g3.size; omega)))
    | (go_at_call 9; ((with_reducible refine (known_any _).mono ?_); rintro e w4 ⟨rfl, g4⟩; obtain ⟨hc4, hf4⟩ := g4.reads; have hz4 : w1.heap.size < w4.heap.size := by (have := g4.size; omega)))
    | (go_at_call 12; ((with_reducible refine (f3.out _).mono ?_); rintro e w5 ⟨rfl, g5⟩; obtain ⟨hc5, hf5⟩ := g5.reads; have hz5 : w1.heap.size < w5.heap.size := by (have := g5.size; omega)))
    | (go_at_call 13; first | ((with_reducible refine (f5.out _).mono ?_); rintro e w' ⟨rfl, rfl⟩) | ((with_reducible refine (f6.out _).mono ?_); rintro e w' ⟨rfl, rfl⟩))
    | (go_at_call 12; ((with_reducible refine (f4.out _).mono ?_); rintro e w6 ⟨rfl, g6⟩)))
  go_ret
  exact ⟨rfl, ((((((g1.alloc _ _).trans g2).trans g3).trans g4).trans g5).trans g6)⟩

theorem ft_add (a b c : Int) (hb : 0 ≤ b) (ha : 0 ≤ a) (h : ftB a b c = true) : a + b ≤ c ∧ 0 ≤ a + b := by
  unfold ftB at h; simp at h; omega
theorem ft_not (a b c : Int) (h : ftB a b c = false) : c < a + b := by
  unfold ftB at h; simp at h; omega

theorem leakyComes_walk (k0 a0 b0 now most v k : Int) (w : World) (h1 : U a0) (h2 : U b0) (h3 : U now) (h4 : U most) (h5 : U v) (h6 : 0 ≤ k ∧ k ≤ 255) :
    Calls Try.prog 5 #[sta k0 a0 b0, .int .u64 now, .int .u64 most, .int .u64 v, .int .u8 k] w fun e w' => e = .returned (.bool true) ∧ Kept w w' := by
  obtain ⟨s, hs⟩ : ∃ s : Nat, k % 64 = (s : Int) := ⟨(k % 64).toNat, by omega⟩
  have hs2 : s < 64 := by omega
  obtain ⟨P, hP⟩ : ∃ P : Int, (2 : Int) ^ s = P := ⟨_, rfl⟩
  have hP1 : 1 ≤ P := by rw [← hP]; have := pow_pos s; omega
  have uv := div_pow_U v P h5 hP1
  obtain ⟨x, hx⟩ : ∃ x : Int, v / P = x := ⟨_, rfl⟩
  rw [hx] at uv
  have uf := fiI_U a0 b0 now h1 h2 h3
  have q1 (w : World) := fill_any k0 a0 b0 now most w h1 h2 h3
  cases hb : deB a0 b0 now most x
  · have q2 (w : World) := decide_no k0 a0 b0 now most x w h1 h2 h3 h4 uv hb
    have lt := ft_not _ _ _ hb
    clear hb
    generalize fiI a0 b0 now = f at *
    have f1 := Lib.hid q1
    have f2 := Lib.hid q2
    clear q1 q2
    unfold U at h1 h2 h3 h4 h5 uv uf
    by_cases c : most < x
    · go_enter Try.func5, Try.ntmps5
      go_wp2_with (first
        | (go_at_call 12; ((with_reducible refine (f1.out _).mono ?_); rintro e w1 ⟨rfl, g1⟩; obtain ⟨hc1, hf1⟩ := g1.reads; have hz1 : w.heap.size < w1.heap.size := by (have := g1.size; simp at this; omega)))
        | (go_at_call 14; ((with_reducible refine (f2.out _).mono ?_); rintro e w2 ⟨rfl, g2⟩; obtain ⟨hc2, hf2⟩ := g2.reads; have hz2 : w.heap.size < w2.heap.size := by (have := g2.size; omega)))
        | (go_at_call 9; ((with_reducible refine (known_any _).mono ?_); rintro e w3 ⟨rfl, g3⟩; obtain ⟨hc3, hf3⟩ := g3.reads)))
      go_ret
      exact ⟨rfl, ((((((Kept.refl w).alloc _ _).trans g1).trans g2).alloc _ _).trans g3)⟩
    · have lt2 : most - x < f := by omega
      go_enter Try.func5, Try.ntmps5
      go_wp2_with (first
        | (go_at_call 12; ((with_reducible refine (f1.out _).mono ?_); rintro e w1 ⟨rfl, g1⟩; obtain ⟨hc1, hf1⟩ := g1.reads; have hz1 : w.heap.size < w1.heap.size := by (have := g1.size; simp at this; omega)))
        | (go_at_call 14; ((with_reducible refine (f2.out _).mono ?_); rintro e w2 ⟨rfl, g2⟩; obtain ⟨hc2, hf2⟩ := g2.reads; have hz2 : w.heap.size < w2.heap.size := by (have := g2.size; omega)))
        | (go_at_call 9; ((with_reducible refine (known_any _).mono ?_); rintro e w3 ⟨rfl, g3⟩; obtain ⟨hc3, hf3⟩ := g3.reads)))
      go_ret
      exact ⟨rfl, ((((((Kept.refl w).alloc _ _).trans g1).trans g2).alloc _ _).trans g3)⟩
  · have q2 (w : World) := decide_yes k0 a0 b0 now most x w h1 h2 h3 h4 uv hb
    have le := ft_add _ _ _ uv.1 uf.1 hb
    have us : U (fiI a0 b0 now + x) := by unfold U at *; omega
    have q3 (w : World) := fill_any 3 (fiI a0 b0 now + x) now now most w us h3 h3
    rw [fi_now _ _ us] at q3
    clear hb
    generalize fiI a0 b0 now = f at *
    have f1 := Lib.hid q1
    have f2 := Lib.hid q2
    have f3 := Lib.hid q3
    clear q1 q2 q3
    unfold U at h1 h2 h3 h4 h5 uv uf us
    go_enter Try.func5, Try.ntmps5
    go_wp2_with (first
      | (go_at_call 12; ((with_reducible refine (f1.out _).mono ?_); rintro e w1 ⟨rfl, g1⟩; obtain ⟨hc1, hf1⟩ := g1.reads; have hz1 : w.heap.size < w1.heap.size := by (have := g1.size; simp at this; omega)))
      | (go_at_call 14; ((with_reducible refine (f2.out _).mono ?_); rintro e w2 ⟨rfl, g2⟩))
      | (go_at_call 9; ((with_reducible refine (known_any _).mono ?_); rintro e w3 ⟨rfl, g3⟩; obtain ⟨hc3, hf3⟩ := g3.reads; have hz3 : w2.heap.size < w3.heap.size := by (have := g3.size; simp at this; omega)))
      | (go_at_call 12; ((with_reducible refine (f3.out _).mono ?_); rintro e w4 ⟨rfl, g4⟩; obtain ⟨hc4, hf4⟩ := g4.reads)))
    go_ret
    exact ⟨rfl, (((((((Kept.refl w).alloc _ _).trans g1).trans g2).alloc _ _).trans g3).trans g4)⟩
end Go.Proofs.Ytjhemadigijeiaa.Wd
