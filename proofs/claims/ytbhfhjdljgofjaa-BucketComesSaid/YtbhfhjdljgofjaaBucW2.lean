/- The laws BucketTime and BucketComes answer true, for any state and any numbers; no conditions. -/
import Derived.Test.YtbhfhjdljgofjaaBucW1
namespace Go.Proofs.Ytbhfhjdljgofjaa.Wd
open Go.RowKit
set_option linter.unusedVariables false

theorem bi_of (most f at' t : Int) (hf : 0 ≤ f) (hm : f ≤ most) : biI (sbI most f) at' t most = sbI f (sbI t at') := by
  unfold biI tkI sbI; (repeat' split) <;> omega
theorem sb_add (a d : Int) (hd : 0 ≤ d) : sbI (a + d) a = d := by unfold sbI; split <;> omega
theorem sb_self (a : Int) : sbI a a = 0 := by unfold sbI; split <;> omega
theorem sb_zero (a : Int) (ha : 0 ≤ a) : sbI a 0 = a := by unfold sbI; split <;> omega
theorem sb_sb (a d e : Int) (hd : 0 ≤ d) (he : 0 ≤ e) : sbI (sbI a d) e = sbI a (d + e) := by
  unfold sbI; (repeat' split) <;> omega
theorem sb_min (a d : Int) (hd : 0 ≤ d) (ha : 0 ≤ a) : sbI a d = a - (if d < a then d else a) := by
  unfold sbI; (repeat' split) <;> omega

theorem time_core (now fill most d e' A f x y z m2 m3 : Int) (w : World) (h1 : U now) (h2 : U fill) (h3 : U most) (h4 : 0 ≤ d ∧ d ≤ 4294967295) (h5 : 0 ≤ e' ∧ e' ≤ 4294967295)
    (hm1 : (if most < fill then most else fill) = f) (hm2 : (if d < f then d else f) = m2) (hm3 : (if e' < x then e' else x) = m3) (hx : f - m2 = x) (hy : x - m3 = y) (hz : z ≤ most) (uf : U f) (ux : U x) (uy : U y)
    (O1 : Hid (∀ w, Calls Try.prog 11 #[.int .u64 (now / 4), .int .u64 most, .int .u64 f] w fun e w' => e = .returned (sta 2 A (now / 4)) ∧ Kept w w'))
    (F1 : Hid (∀ w, Calls Try.prog 12 #[sta 2 A (now / 4), .int .u64 (now / 4 + d), .int .u64 most] w fun e w' => e = .returned (.int .u64 x) ∧ Kept w w'))
    (F2 : Hid (∀ w, Calls Try.prog 12 #[sta 2 A (now / 4), .int .u64 (now / 4 + d + e'), .int .u64 most] w fun e w' => e = .returned (.int .u64 y) ∧ Kept w w'))
    (F3 : Hid (∀ w, Calls Try.prog 12 #[sta 2 A (now / 4), .int .u64 (now / 4), .int .u64 most] w fun e w' => e = .returned (.int .u64 f) ∧ Kept w w'))
    (F4 : Hid (∀ w, Calls Try.prog 12 #[sta 2 A (now / 4), .int .u64 now, .int .u64 most] w fun e w' => e = .returned (.int .u64 z) ∧ Kept w w')) :
    Calls Try.prog 4 #[.int .u64 now, .int .u64 fill, .int .u64 most, .int .u32 d, .int .u32 e'] w fun e w' => e = .returned (.bool true) ∧ Kept w w' := by
  have ua : U (now / 4) := by unfold U at *; omega
  have u1 : U (now / 4 + d) := by unfold U at *; omega
  have u2 : U (now / 4 + d + e') := by unfold U at *; omega
  unfold U at *
  go_enter Try.func4, Try.ntmps4
  go_wp2_with (first
    | (go_at_call 11; ((with_reducible refine (O1.out _).mono ?_); rintro e w1 ⟨rfl, g1⟩))
    | (go_at_call 12; ((with_reducible refine (F1.out _).mono ?_); rintro e w2 ⟨rfl, g2⟩; obtain ⟨hc2, hf2⟩ := g2.reads; have hz2 : w1.heap.size < w2.heap.size := by (have := g2.size; simp at this; omega)))
    | (go_at_call 12; ((with_reducible refine (F2.out _).mono ?_); rintro e w3 ⟨rfl, g3⟩; obtain ⟨hc3, hf3⟩ := g3.reads; have hz3 : w1.heap.size < w3.heap.size := by (have := g3.size; omega)))
    | (go_at_call 9; ((with_reducible refine (known_any _).mono ?_); rintro e w4 ⟨rfl, g4⟩; obtain ⟨hc4, hf4⟩ := g4.reads; have hz4 : w1.heap.size < w4.heap.size := by (have := g4.size; omega)))
    | (go_at_call 12; ((with_reducible refine (F3.out _).mono ?_); rintro e w5 ⟨rfl, g5⟩; obtain ⟨hc5, hf5⟩ := g5.reads; have hz5 : w1.heap.size < w5.heap.size := by (have := g5.size; omega)))
    | (go_at_call 12; ((with_reducible refine (F4.out _).mono ?_); rintro e w6 ⟨rfl, g6⟩)))
  go_ret
  exact ⟨rfl, ((((((g1.alloc _ _).trans g2).trans g3).trans g4).trans g5).trans g6)⟩

theorem bucketTime_walk (now fill most d e' : Int) (w : World) (h1 : U now) (h2 : U fill) (h3 : U most) (h4 : 0 ≤ d ∧ d ≤ 4294967295) (h5 : 0 ≤ e' ∧ e' ≤ 4294967295) :
    Calls Try.prog 4 #[.int .u64 now, .int .u64 fill, .int .u64 most, .int .u32 d, .int .u32 e'] w fun e w' => e = .returned (.bool true) ∧ Kept w w' := by
  have ua : U (now / 4) := by unfold U at *; omega
  have u1 : U (now / 4 + d) := by unfold U at *; omega
  have u2 : U (now / 4 + d + e') := by unfold U at *; omega
  have ud : U d := by unfold U; omega
  have ue : U e' := by unfold U; omega
  obtain ⟨f, hf⟩ : ∃ f : Int, (if most < fill then most else fill) = f := ⟨_, rfl⟩
  have uf : U f := by rw [← hf]; split <;> assumption
  have lf : f ≤ most := by rw [← hf]; split <;> omega
  have ux := sbI_U f d uf ud
  have uy := sbI_U (sbI f d) e' ux ue
  have uA := sbI_U most f h3 uf
  have q1 (w : World) := bfill_any 2 (sbI most f) (now / 4) (now / 4 + d) most w uA ua u1 h3
  have q2 (w : World) := bfill_any 2 (sbI most f) (now / 4) (now / 4 + d + e') most w uA ua u2 h3
  have q3 (w : World) := bfill_any 2 (sbI most f) (now / 4) (now / 4) most w uA ua ua h3
  rw [bi_of _ _ _ _ uf.1 lf, sb_add _ _ h4.1] at q1
  rw [bi_of _ _ _ _ uf.1 lf, Int.add_assoc, sb_add _ _ (by omega), ← sb_sb _ _ _ h4.1 h5.1, ← Int.add_assoc] at q2
  rw [bi_of _ _ _ _ uf.1 lf, sb_self, sb_zero _ uf.1] at q3
  have hx : f - (if d < f then d else f) = sbI f d := (sb_min f d h4.1 uf.1).symm
  have hy : sbI f d - (if e' < sbI f d then e' else sbI f d) = sbI (sbI f d) e' := (sb_min _ e' h5.1 ux.1).symm
  have uz := tkI_U (sbI most f) (now / 4) now most uA ua h1 h3
  refine time_core now fill most d e' (sbI most f) f _ _ (biI (sbI most f) (now / 4) now most) _ _ w h1 h2 h3 h4 h5 hf rfl rfl hx hy ?_ uf ux uy (Lib.hid fun w => bof_any (now / 4) most f w h3 uf) (Lib.hid q1) (Lib.hid q2) (Lib.hid q3)
    (Lib.hid fun w => bfill_any 2 (sbI most f) (now / 4) now most w uA ua h1 h3)
  unfold biI U at *; omega

theorem bucketComes_walk (k0 a0 b0 now most v k : Int) (w : World) (h1 : U a0) (h2 : U b0) (h3 : U now) (h4 : U most) (h5 : U v) (h6 : 0 ≤ k ∧ k ≤ 255) :
    Calls Try.prog 5 #[sta k0 a0 b0, .int .u64 now, .int .u64 most, .int .u64 v, .int .u8 k] w fun e w' => e = .returned (.bool true) ∧ Kept w w' := by
  obtain ⟨s, hs⟩ : ∃ s : Nat, k % 64 = (s : Int) := ⟨(k % 64).toNat, by omega⟩
  have hs2 : s < 64 := by omega
  obtain ⟨P, hP⟩ : ∃ P : Int, (2 : Int) ^ s = P := ⟨_, rfl⟩
  have hP1 : 1 ≤ P := by rw [← hP]; have := pow_pos s; omega
  have uv := div_pow_U v P h5 hP1
  obtain ⟨x, hx⟩ : ∃ x : Int, v / P = x := ⟨_, rfl⟩
  rw [hx] at uv
  have uf := biI_U a0 b0 now most h1 h2 h3 h4
  have un := tkI_U a0 b0 now most h1 h2 h3 h4
  have ln := tkI_le a0 b0 now most
  have q1 (w : World) := bfill_any k0 a0 b0 now most w h1 h2 h3 h4
  have ef : biI a0 b0 now most = most - tkI a0 b0 now most := rfl
  cases hb : bdB a0 b0 now most x
  · have q2 (w : World) := bdecide_no k0 a0 b0 now most x w h1 h2 h3 h4 uv hb
    have lt : most - biI a0 b0 now most < x := by unfold bdB at hb; simp at hb; omega
    have le : biI a0 b0 now most ≤ most := by unfold U at *; omega
    clear hb ef ln un
    generalize biI a0 b0 now most = f at *
    have f1 := Lib.hid q1
    have f2 := Lib.hid q2
    clear q1 q2
    unfold U at h1 h2 h3 h4 h5 uv uf
    go_enter Try.func5, Try.ntmps5
    go_wp2_with (first
      | (go_at_call 12; ((with_reducible refine (f1.out _).mono ?_); rintro e w1 ⟨rfl, g1⟩; obtain ⟨hc1, hf1⟩ := g1.reads; have hz1 : w.heap.size < w1.heap.size := by (have := g1.size; simp at this; omega)))
      | (go_at_call 13; ((with_reducible refine (f2.out _).mono ?_); rintro e w2 ⟨rfl, g2⟩; obtain ⟨hc2, hf2⟩ := g2.reads; have hz2 : w.heap.size < w2.heap.size := by (have := g2.size; omega)))
      | (go_at_call 9; ((with_reducible refine (known_any _).mono ?_); rintro e w3 ⟨rfl, g3⟩; obtain ⟨hc3, hf3⟩ := g3.reads)))
    go_ret
    exact ⟨rfl, ((((((Kept.refl w).alloc _ _).trans g1).trans g2).alloc _ _).trans g3)⟩
  · have q2 (w : World) := bdecide_yes k0 a0 b0 now most x w h1 h2 h3 h4 uv hb
    have le : x ≤ tkI a0 b0 now most := by unfold bdB at hb; simp at hb; omega
    have us : U (tkI a0 b0 now most - x) := by unfold U at *; omega
    have q3 (w : World) := bfill_any 2 (tkI a0 b0 now most - x) now now most w us h3 h3 h4
    have e3 : biI (tkI a0 b0 now most - x) now now most = biI a0 b0 now most + x := by
      rw [ef]; generalize tkI a0 b0 now most = n at *; unfold U at *; unfold biI tkI; rw [sb_self]; split <;> omega
    have l2 : biI a0 b0 now most + x ≤ most := by omega
    rw [e3] at q3
    clear hb e3
    generalize biI a0 b0 now most = f at *
    generalize tkI a0 b0 now most = n at *
    clear ef
    have f1 := Lib.hid q1
    have f2 := Lib.hid q2
    have f3 := Lib.hid q3
    clear q1 q2 q3
    unfold U at h1 h2 h3 h4 h5 uv uf us
    go_enter Try.func5, Try.ntmps5
    go_wp2_with (first
      | (go_at_call 12; ((with_reducible refine (f1.out _).mono ?_); rintro e w1 ⟨rfl, g1⟩; obtain ⟨hc1, hf1⟩ := g1.reads; have hz1 : w.heap.size < w1.heap.size := by (have := g1.size; simp at this; omega)))
      | (go_at_call 13; ((with_reducible refine (f2.out _).mono ?_); rintro e w2 ⟨rfl, g2⟩))
      | (go_at_call 9; ((with_reducible refine (known_any _).mono ?_); rintro e w3 ⟨rfl, g3⟩; obtain ⟨hc3, hf3⟩ := g3.reads; have hz3 : w2.heap.size < w3.heap.size := by (have := g3.size; simp at this; omega)))
      | (go_at_call 12; ((with_reducible refine (f3.out _).mono ?_); rintro e w4 ⟨rfl, g4⟩; obtain ⟨hc4, hf4⟩ := g4.reads)))
    go_ret
    exact ⟨rfl, (((((((Kept.refl w).alloc _ _).trans g1).trans g2).alloc _ _).trans g3).trans g4)⟩
end Go.Proofs.Ytbhfhjdljgofjaa.Wd
