/- The law GcraAsks answers true, for any state and any numbers; no conditions. -/
import Derived.Test.YtomdiidolgofmaaGcrQ
namespace Go.Proofs.Ytomdiidolgofmaa.Wd
open Go.RowKit

/-- A number that is shifted down is a number. -/
theorem div_pow_U (a P : Int) (ha : U a) (hP : 1 ≤ P) : U (a / P) := by
  unfold U at *
  have h1 := Int.ediv_nonneg ha.1 (show 0 ≤ P by omega)
  have h2 := Int.ediv_le_self P ha.1
  omega

theorem gcraAsks_walk (k0 a0 b0 now most v k a b c d : Int) (w : World) (h1 : U a0) (h2 : U b0) (h3 : U now) (h4 : U most) (h5 : U v)
    (h6 : 0 ≤ k ∧ k ≤ 255) (h7 : 0 ≤ a ∧ a ≤ 65535) (h8 : 0 ≤ b ∧ b ≤ 65535) (h9 : 0 ≤ c ∧ c ≤ 65535) (h10 : 0 ≤ d ∧ d ≤ 65535) :
    Calls Try.prog 3 #[sta k0 a0 b0, .int .u64 now, .int .u64 most, .int .u64 v, .int .u8 k, .int .u16 a, .int .u16 b, .int .u16 c, .int .u16 d] w fun e w' => e = .returned (.bool true) ∧ Kept w w' := by
  obtain ⟨s, hs⟩ : ∃ s : Nat, k % 64 = (s : Int) := ⟨(k % 64).toNat, by omega⟩
  have hs2 : s < 64 := by omega
  obtain ⟨P, hP⟩ : ∃ P : Int, (2 : Int) ^ s = P := ⟨_, rfl⟩
  have hP1 : 1 ≤ P := by rw [← hP]; have := pow_pos s; omega
  have u7 : U a := by unfold U; omega
  have u8 : U b := by unfold U; omega
  have u9 : U c := by unfold U; omega
  have u10 : U d := by unfold U; omega
  have uv := div_pow_U v P h5 hP1
  have um := div_pow_U most P h4 hP1
  have e1 := Lib.hid (fun w => asks_any k0 a0 b0 now most v w h1 h2 h3 h4 h5)
  have e2 := Lib.hid (fun w => asks_any (k % 5) a b c d (v / P) w u7 u8 u9 u10 uv)
  have e3 := Lib.hid (fun w => asks_any k0 a0 b0 now most (most / P) w h1 h2 h3 h4 um)
  have e4 := Lib.hid (fun w => asks_any (k % 5) a b c most d w u7 u8 u9 h4 u10)
  clear uv um u7 u8 u9 u10
  unfold U at h1 h2 h3 h4 h5
  go_enter Try.func3, Try.ntmps3
  go_wp2_with (first
    | (go_at_call 9; ((with_reducible refine (known_any _).mono ?_); rintro e w1 ⟨rfl, g1⟩; obtain ⟨hc1, hf1⟩ := g1.reads; have hz1 : w.heap.size < w1.heap.size ∧ w.heap.size + 1 < w1.heap.size := by (have := g1.size; simp at this; omega)))
    | (go_at_call 10; ((with_reducible refine (e1.out _).mono ?_); rintro e w2 ⟨rfl, g2⟩; obtain ⟨hc2, hf2⟩ := g2.reads; have hz2 : w.heap.size < w2.heap.size ∧ w.heap.size + 1 < w2.heap.size := by (have := g2.size; omega)))
    | (go_at_call 10; ((with_reducible refine (e2.out _).mono ?_); rintro e w3 ⟨rfl, g3⟩; obtain ⟨hc3, hf3⟩ := g3.reads; have hz3 : w.heap.size < w3.heap.size ∧ w.heap.size + 1 < w3.heap.size := by (have := g3.size; omega)))
    | (go_at_call 10; ((with_reducible refine (e3.out _).mono ?_); rintro e w4 ⟨rfl, g4⟩; obtain ⟨hc4, hf4⟩ := g4.reads; have hz4 : w.heap.size < w4.heap.size ∧ w.heap.size + 1 < w4.heap.size := by (have := g4.size; omega)))
    | (go_at_call 10; ((with_reducible refine (e4.out _).mono ?_); rintro e w5 ⟨rfl, g5⟩)))
  go_ret
  exact ⟨rfl, (((((((Kept.refl w).alloc _ _).alloc _ _).trans g1).trans g2).trans g3).trans g4).trans g5⟩
end Go.Proofs.Ytomdiidolgofmaa.Wd
