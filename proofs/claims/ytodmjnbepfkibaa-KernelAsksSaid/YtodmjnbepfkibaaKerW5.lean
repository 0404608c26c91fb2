/- The law KernelAsks answers true, for any state and any numbers; no conditions. -/
import Derived.Test.YtodmjnbepfkibaaKerQ
namespace Go.Proofs.Ytodmjnbepfkibaa.Wd
open Go.RowKit
set_option linter.unusedVariables false

theorem kernelAsks_walk (k0 a0 b0 kind now most v ev k a b c d : Int) (w : World) (h1 : U a0) (h2 : U b0) (hk : 0 ≤ kind ∧ kind ≤ 255) (h3 : U now) (h4 : U most) (h5 : U v) (h11 : U ev)
    (h6 : 0 ≤ k ∧ k ≤ 255) (h7 : 0 ≤ a ∧ a ≤ 65535) (h8 : 0 ≤ b ∧ b ≤ 65535) (h9 : 0 ≤ c ∧ c ≤ 65535) (h10 : 0 ≤ d ∧ d ≤ 65535) :
    Calls Try.prog 3 #[sta k0 a0 b0, .int .u8 kind, .int .u64 now, .int .u64 most, .int .u64 v, .int .u64 ev, .int .u8 k, .int .u16 a, .int .u16 b, .int .u16 c, .int .u16 d] w fun e w' => e = .returned (.bool true) ∧ Kept w w' := by
  obtain ⟨s, hs⟩ : ∃ s : Nat, k % 64 = (s : Int) := ⟨(k % 64).toNat, by omega⟩
  have hs2 : s < 64 := by omega
  obtain ⟨P, hP⟩ : ∃ P : Int, (2 : Int) ^ s = P := ⟨_, rfl⟩
  have hP1 : 1 ≤ P := by rw [← hP]; have := pow_pos s; omega
  have u7 : U a := by unfold U; omega
  have u8 : U b := by unfold U; omega
  have u9 : U c := by unfold U; omega
  have u10 : U d := by unfold U; omega
  have uv := div_pow_U v P h5 hP1
  have uw := div_pow_U ev P h11 hP1
  have um := div_pow_U most P h4 hP1
  have e1 := Lib.hid (fun w => asks_any k0 a0 b0 kind now most v ev w h1 h2 h3 h4 h5 h11)
  have e2 := Lib.hid (fun w => asks_any (k % 5) a b (kind % 5) c d (v / P) (ev / P) w u7 u8 u9 u10 uv uw)
  have e3 := Lib.hid (fun w => asks_any (1 + k % 3) a0 b0 (kind % 4) now most (most / P) 7 w h1 h2 h3 h4 um ⟨by omega, by omega⟩)
  have R1 := Lib.hid (fun w => right_any kind w)
  have R2 := Lib.hid (fun w => rright_any kind w)
  generalize isK kind = rr at *
  clear uv um uw u7 u8 u9 u10
  unfold U at h1 h2 h3 h4 h5 h11
  go_enter Try.func3, Try.ntmps3
  go_wp2_with (first
    | (go_at_call 10; ((with_reducible refine (known_any _).mono ?_); rintro e w1 ⟨rfl, g1⟩; obtain ⟨hc1, hf1⟩ := g1.reads; have hz1 : w.heap.size < w1.heap.size ∧ w.heap.size + 1 < w1.heap.size ∧ w.heap.size + 2 < w1.heap.size := by (have := g1.size; simp at this; omega)))
    | (go_at_call 11; ((with_reducible refine (e1.out _).mono ?_); rintro e w2 ⟨rfl, g2⟩; obtain ⟨hc2, hf2⟩ := g2.reads; have hz2 : w.heap.size < w2.heap.size ∧ w.heap.size + 1 < w2.heap.size ∧ w.heap.size + 2 < w2.heap.size := by (have := g2.size; omega)))
    | (go_at_call 11; ((with_reducible refine (e2.out _).mono ?_); rintro e w3 ⟨rfl, g3⟩; obtain ⟨hc3, hf3⟩ := g3.reads; have hz3 : w.heap.size < w3.heap.size ∧ w.heap.size + 1 < w3.heap.size ∧ w.heap.size + 2 < w3.heap.size := by (have := g3.size; omega)))
    | (go_at_call 11; ((with_reducible refine (e3.out _).mono ?_); rintro e w4 ⟨rfl, g4⟩))
    | (go_at_call 12; ((with_reducible refine (R1.out _).mono ?_); rintro e w5 ⟨rfl, g5⟩))
    | (go_at_call 13; ((with_reducible refine (R2.out _).mono ?_); rintro e w6 ⟨rfl, rfl⟩)))
  go_ret
  exact ⟨rfl, ((((((((Kept.refl w).alloc _ _).alloc _ _).alloc _ _).trans g1).trans g2).trans g3).trans g4).trans g5⟩
end Go.Proofs.Ytodmjnbepfkibaa.Wd
