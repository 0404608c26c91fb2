/- The laws GcraTime and GcraComes answer true, for any state and any numbers; no conditions. -/
import Derived.Test.YtomdiidolgofmaaGcrW1
namespace Go.Proofs.Ytomdiidolgofmaa.Wd
open Go.RowKit
set_option linter.unusedVariables false

theorem sat_id (x : Int) (h : x ≤ 18446744073709551615) : sat x = x := by unfold sat; split <;> omega
theorem sb_shift (a f d : Int) : sbI (a + f) (a + d) = sbI f d := by unfold sbI; (repeat' split) <;> omega
theorem sb_here (a f : Int) (hf : 0 ≤ f) : sbI (a + f) a = f := by unfold sbI; split <;> omega
theorem sb_sb (a d e : Int) (hd : 0 ≤ d) (he : 0 ≤ e) : sbI (sbI a d) e = sbI a (d + e) := by
  unfold sbI; (repeat' split) <;> omega
theorem sb_min (a d : Int) (hd : 0 ≤ d) (ha : 0 ≤ a) : sbI a d = a - (if d < a then d else a) := by
  unfold sbI; (repeat' split) <;> omega

theorem time_core (now fill most d e' x y m2 m3 : Int) (w : World) (h1 : U now) (h2 : U fill) (h3 : U most) (h4 : 0 ≤ d ∧ d ≤ 4294967295) (h5 : 0 ≤ e' ∧ e' ≤ 4294967295)
    (hm2 : (if d < fill / 4 then d else fill / 4) = m2) (hm3 : (if e' < x then e' else x) = m3) (hx : fill / 4 - m2 = x) (hy : x - m3 = y) (ux : U x) (uy : U y)
    (O1 : Hid (∀ w, Calls Try.prog 11 #[.int .u64 (now / 4), .int .u64 most, .int .u64 (fill / 4)] w fun e w' => e = .returned (sta 1 (now / 4 + fill / 4) 0) ∧ Kept w w'))
    (F1 : Hid (∀ w, Calls Try.prog 12 #[sta 1 (now / 4 + fill / 4) 0, .int .u64 (now / 4 + d), .int .u64 most] w fun e w' => e = .returned (.int .u64 x) ∧ Kept w w'))
    (F2 : Hid (∀ w, Calls Try.prog 12 #[sta 1 (now / 4 + fill / 4) 0, .int .u64 (now / 4 + d + e'), .int .u64 most] w fun e w' => e = .returned (.int .u64 y) ∧ Kept w w'))
    (F3 : Hid (∀ w, Calls Try.prog 12 #[sta 1 (now / 4 + fill / 4) 0, .int .u64 (now / 4), .int .u64 most] w fun e w' => e = .returned (.int .u64 (fill / 4)) ∧ Kept w w')) :
    Calls Try.prog 4 #[.int .u64 now, .int .u64 fill, .int .u64 most, .int .u32 d, .int .u32 e'] w fun e w' => e = .returned (.bool true) ∧ Kept w w' := by
  have ua : U (now / 4) := by unfold U at *; omega
  have uf : U (fill / 4) := by unfold U at *; omega
  have us : U (now / 4 + fill / 4) := by unfold U at *; omega
  have u1 : U (now / 4 + d) := by unfold U at *; omega
  have u2 : U (now / 4 + d + e') := by unfold U at *; omega
  unfold U at *
  go_enter Try.func4, Try.ntmps4
  go_wp2_with (first
    | (go_at_call 11; ((with_reducible refine (O1.out _).mono ?_); rintro e w1 ⟨rfl, g1⟩))
    | (go_at_call 12; ((with_reducible refine (F1.out _).mono ?_); rintro e w2 ⟨rfl, g2⟩; obtain ⟨hc2, hf2⟩ := g2.reads; have hz2 : w1.heap.size < w2.heap.size := by (have := g2.size; simp at this; omega)))
    | (go_at_call 12; ((with_reducible refine (F2.out _).mono ?_); rintro e w3 ⟨rfl, g3⟩; obtain ⟨hc3, hf3⟩ := g3.reads; have hz3 : w1.heap.size < w3.heap.size := by (have := g3.size; omega)))
    | (go_at_call 9; ((with_reducible refine (known_any _).mono ?_); rintro e w4 ⟨rfl, g4⟩; obtain ⟨hc4, hf4⟩ := g4.reads; have hz4 : w1.heap.size < w4.heap.size := by (have := g4.size; omega)))
    | (go_at_call 12; ((with_reducible refine (F3.out _).mono ?_); rintro e w5 ⟨rfl, g5⟩)))
  go_ret
  exact ⟨rfl, (((((g1.alloc _ _).trans g2).trans g3).trans g4).trans g5)⟩

theorem gcraTime_walk (now fill most d e' : Int) (w : World) (h1 : U now) (h2 : U fill) (h3 : U most) (h4 : 0 ≤ d ∧ d ≤ 4294967295) (h5 : 0 ≤ e' ∧ e' ≤ 4294967295) :
    Calls Try.prog 4 #[.int .u64 now, .int .u64 fill, .int .u64 most, .int .u32 d, .int .u32 e'] w fun e w' => e = .returned (.bool true) ∧ Kept w w' := by
  have ua : U (now / 4) := by unfold U at *; omega
  have uf : U (fill / 4) := by unfold U at *; omega
  have us : U (now / 4 + fill / 4) := by unfold U at *; omega
  have u1 : U (now / 4 + d) := by unfold U at *; omega
  have u2 : U (now / 4 + d + e') := by unfold U at *; omega
  have ud : U d := by unfold U; omega
  have ue : U e' := by unfold U; omega
  have ux := sbI_U (fill / 4) d uf ud
  have uy := sbI_U (sbI (fill / 4) d) e' ux ue
  have q0 (w : World) := gof_any (now / 4) most (fill / 4) w ua uf
  rw [sat_id _ us.2] at q0
  have q1 (w : World) := gfill_any 1 (now / 4 + fill / 4) 0 (now / 4 + d) most w us u1
  have q2 (w : World) := gfill_any 1 (now / 4 + fill / 4) 0 (now / 4 + d + e') most w us u2
  have q3 (w : World) := gfill_any 1 (now / 4 + fill / 4) 0 (now / 4) most w us ua
  rw [sb_shift] at q1
  rw [Int.add_assoc (now / 4) d e', sb_shift, ← sb_sb _ _ _ h4.1 h5.1, ← Int.add_assoc] at q2
  rw [sb_here _ _ uf.1] at q3
  have hx := (sb_min (fill / 4) d h4.1 uf.1).symm
  have hy := (sb_min (sbI (fill / 4) d) e' h5.1 ux.1).symm
  exact time_core now fill most d e' _ _ _ _ w h1 h2 h3 h4 h5 rfl rfl hx hy ux uy (Lib.hid q0) (Lib.hid q1) (Lib.hid q2) (Lib.hid q3)

theorem gcraComes_walk (k0 a0 b0 now most v k : Int) (w : World) (h1 : U a0) (h2 : U b0) (h3 : U now) (h4 : U most) (h5 : U v) (h6 : 0 ≤ k ∧ k ≤ 255) :
    Calls Try.prog 5 #[sta k0 a0 b0, .int .u64 now, .int .u64 most, .int .u64 v, .int .u8 k] w fun e w' => e = .returned (.bool true) ∧ Kept w w' := by
  obtain ⟨s, hs⟩ : ∃ s : Nat, k % 64 = (s : Int) := ⟨(k % 64).toNat, by omega⟩
  have hs2 : s < 64 := by omega
  obtain ⟨P, hP⟩ : ∃ P : Int, (2 : Int) ^ s = P := ⟨_, rfl⟩
  have hP1 : 1 ≤ P := by rw [← hP]; have := pow_pos s; omega
  have uv := div_pow_U v P h5 hP1
  obtain ⟨x, hx⟩ : ∃ x : Int, v / P = x := ⟨_, rfl⟩
  rw [hx] at uv
  have ua : U (now / 4) := by unfold U at *; omega
  have um : U (most / 4) := by unfold U at *; omega
  have uf := sbI_U a0 (now / 4) h1 ua
  have q1 (w : World) := gfill_any k0 a0 b0 (now / 4) (most / 4) w h1 ua
  have ht := thI_eq a0 (now / 4)
  have hm : (if a0 < now / 4 then now / 4 else a0) = thI a0 (now / 4) := rfl
  cases hb : gdB a0 (now / 4) (most / 4) x
  · have q2 (w : World) := gdecide_no k0 a0 b0 (now / 4) (most / 4) x w h1 h2 ua um uv hb
    have lt : most / 4 < sbI a0 (now / 4) + x := by unfold gdB ftB at hb; simp at hb; omega
    clear hb ht hm
    generalize sbI a0 (now / 4) = f at *
    have f1 := Lib.hid q1
    have f2 := Lib.hid q2
    clear q1 q2
    unfold U at h1 h2 h3 h4 h5 uv uf
    by_cases hvm : most / 4 < x
    · go_enter Try.func5, Try.ntmps5
      go_wp2_with (first
        | (go_at_call 12; ((with_reducible refine (f1.out _).mono ?_); rintro e w1 ⟨rfl, g1⟩; obtain ⟨hc1, hf1⟩ := g1.reads; have hz1 : w.heap.size < w1.heap.size := by (have := g1.size; simp at this; omega)))
        | (go_at_call 13; ((with_reducible refine (f2.out _).mono ?_); rintro e w2 ⟨rfl, g2⟩; obtain ⟨hc2, hf2⟩ := g2.reads; have hz2 : w.heap.size < w2.heap.size := by (have := g2.size; omega)))
        | (go_at_call 9; ((with_reducible refine (known_any _).mono ?_); rintro e w3 ⟨rfl, g3⟩; obtain ⟨hc3, hf3⟩ := g3.reads)))
      go_ret
      exact ⟨rfl, ((((((Kept.refl w).alloc _ _).trans g1).trans g2).alloc _ _).trans g3)⟩
    · have hlt : most / 4 - x < f := by omega
      go_enter Try.func5, Try.ntmps5
      go_wp2_with (first
        | (go_at_call 12; ((with_reducible refine (f1.out _).mono ?_); rintro e w1 ⟨rfl, g1⟩; obtain ⟨hc1, hf1⟩ := g1.reads; have hz1 : w.heap.size < w1.heap.size := by (have := g1.size; simp at this; omega)))
        | (go_at_call 13; ((with_reducible refine (f2.out _).mono ?_); rintro e w2 ⟨rfl, g2⟩; obtain ⟨hc2, hf2⟩ := g2.reads; have hz2 : w.heap.size < w2.heap.size := by (have := g2.size; omega)))
        | (go_at_call 9; ((with_reducible refine (known_any _).mono ?_); rintro e w3 ⟨rfl, g3⟩; obtain ⟨hc3, hf3⟩ := g3.reads)))
      go_ret
      exact ⟨rfl, ((((((Kept.refl w).alloc _ _).trans g1).trans g2).alloc _ _).trans g3)⟩
  · have q2 (w : World) := gdecide_yes k0 a0 b0 (now / 4) (most / 4) x w h1 h2 ua um uv hb
    have le : sbI a0 (now / 4) + x ≤ most / 4 := by unfold gdB ftB at hb; simp at hb; omega
    have ut : U (thI a0 (now / 4) + x) := by unfold U at *; omega
    have ut0 := thI_U a0 (now / 4) h1 ua
    rw [sat_id _ ut.2] at q2
    have q3 (w : World) := gfill_any 1 (thI a0 (now / 4) + x) 0 (now / 4) (most / 4) w ut ua
    have e3 : sbI (thI a0 (now / 4) + x) (now / 4) = sbI a0 (now / 4) + x := by
      rw [ht, Int.add_assoc, sb_here]; unfold U at *; omega
    rw [e3] at q3
    clear hb e3 ht
    generalize sbI a0 (now / 4) = f at *
    generalize thI a0 (now / 4) = t at *
    have f1 := Lib.hid q1
    have f2 := Lib.hid q2
    have f3 := Lib.hid q3
    clear q1 q2 q3
    unfold U at h1 h2 h3 h4 h5 uv uf ut ut0
    go_enter Try.func5, Try.ntmps5
    go_wp2_with (first
      | (go_at_call 12; ((with_reducible refine (f1.out _).mono ?_); rintro e w1 ⟨rfl, g1⟩; obtain ⟨hc1, hf1⟩ := g1.reads; have hz1 : w.heap.size < w1.heap.size := by (have := g1.size; simp at this; omega)))
      | (go_at_call 13; ((with_reducible refine (f2.out _).mono ?_); rintro e w2 ⟨rfl, g2⟩; obtain ⟨hc2, hf2⟩ := g2.reads; have hz2 : w.heap.size < w2.heap.size := by (have := g2.size; omega)))
      | (go_at_call 9; ((with_reducible refine (known_any _).mono ?_); rintro e w3 ⟨rfl, g3⟩; obtain ⟨hc3, hf3⟩ := g3.reads; have hz3 : w.heap.size < w3.heap.size ∧ w2.heap.size < w3.heap.size := by (have := g3.size; simp at this; omega)))
      | (go_at_call 12; ((with_reducible refine (f3.out _).mono ?_); rintro e w4 ⟨rfl, g4⟩; obtain ⟨hc4, hf4⟩ := g4.reads; have hz4 : w.heap.size < w4.heap.size ∧ w2.heap.size < w4.heap.size := by (have := g4.size; omega))))
    go_ret
    exact ⟨rfl, (((((((Kept.refl w).alloc _ _).trans g1).trans g2).alloc _ _).trans g3).trans g4)⟩
end Go.Proofs.Ytomdiidolgofmaa.Wd
