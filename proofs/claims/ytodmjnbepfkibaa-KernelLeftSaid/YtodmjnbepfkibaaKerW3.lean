/- The law KernelLeft answers true, for any numbers; no conditions. -/
import Derived.Test.YtodmjnbepfkibaaKerW1
namespace Go.Proofs.Ytodmjnbepfkibaa.Wd
open Go.RowKit
set_option linter.unusedVariables false

theorem left_core (kind now every burst fill a b t c m f n q r dk da dt ek ea et : Int) (w : World) (hk : 0 ≤ kind ∧ kind ≤ 255) (u1 : U now) (h2 : 0 ≤ every ∧ every ≤ 4294967295) (h3 : 0 ≤ burst ∧ burst ≤ 4294967295) (h4 : 0 ≤ fill ∧ fill ≤ 4294967295)
    (ht : 1 + every = t) (ht2 : 1 ≤ t ∧ t ≤ 4294967296) (hc : burst % 1000 + 1 = c) (hc2 : 1 ≤ c ∧ c ≤ 1000) (hm : (if m < fill then m else fill) = f) (um : U m) (uf : U f)
    (hn : 0 ≤ n ∧ n ≤ c) (hq : n * t = q) (hr : (n + 1) * t = r) (uq : U q) (ur : U r)
    (L : Hid (∀ w, Calls Try.prog 20 #[.int .u64 t, .int .u64 c] w fun e w' => e = .returned (.int .u64 m) ∧ w = w'))
    (O : Hid (∀ w, Calls Try.prog 14 #[.int .u8 (1 + kind % 3), .int .u64 (now / 4), .int .u64 m, .int .u64 f] w fun e w' => e = .returned (.tuple #[sta (1 + kind % 3) a b, .int .u16 0]) ∧ Kept w w'))
    (N : Hid (∀ w, Calls Try.prog 21 #[sta (1 + kind % 3) a b, .int .u64 (now / 4), .int .u64 m, .int .u64 t] w fun e w' => e = .returned (.int .u64 n) ∧ Kept w w'))
    (D1 : Hid (∀ w, Calls Try.prog 16 #[sta (1 + kind % 3) a b, .int .u64 (now / 4), .int .u64 m, .int .u64 q] w fun e w' => e = .returned (.tuple #[sta dk da dt, .bool true]) ∧ Kept w w'))
    (D2 : Hid (∀ w, Calls Try.prog 16 #[sta (1 + kind % 3) a b, .int .u64 (now / 4), .int .u64 m, .int .u64 r] w fun e w' => e = .returned (.tuple #[sta ek ea et, .bool false]) ∧ Kept w w')) :
    Calls Try.prog 7 #[.int .u8 kind, .int .u64 now, .int .u32 every, .int .u32 burst, .int .u32 fill] w fun e w' => e = .returned (.bool true) ∧ Kept w w' := by
  unfold U at *
  go_enter Try.func7, Try.ntmps7
  go_wp2_with (first
    | (go_at_call 20; ((with_reducible refine (L.out _).mono ?_); rintro e w9 ⟨rfl, rfl⟩))
    | (go_at_call 14; ((with_reducible refine (O.out _).mono ?_); rintro e w1 ⟨rfl, g1⟩; have s1 := row3_new w1 24 (.int .u8 (1 + kind % 3)) (.int .u64 a) (.int .u64 b)))
    | (go_at_call 21; ((with_reducible refine (N.out _).mono ?_); rintro e w2 ⟨rfl, g2⟩; (first | with_reducible (replace s1 := s1.kept g2) | with_reducible (replace s1 := s1.kept (((Kept.refl _).alloc _ _).trans g2)) | with_reducible (replace s1 := s1.kept ((((Kept.refl _).alloc _ _).alloc _ _).trans g2))); obtain ⟨⟨s10_2, s11_2, s12_2⟩, s1f_2⟩ := id s1; have s1z_2 := s1.lt))
    | (go_at_call 16; ((with_reducible refine (D1.out _).mono ?_); rintro e w3 ⟨rfl, g3⟩; (first | with_reducible (replace s1 := s1.kept g3) | with_reducible (replace s1 := s1.kept (((Kept.refl _).alloc _ _).trans g3)) | with_reducible (replace s1 := s1.kept ((((Kept.refl _).alloc _ _).alloc _ _).trans g3))); obtain ⟨⟨s10_3, s11_3, s12_3⟩, s1f_3⟩ := id s1; have s1z_3 := s1.lt))
    | (go_at_call 16; ((with_reducible refine (D2.out _).mono ?_); rintro e w4 ⟨rfl, g4⟩))
    | (go_at_call 10; ((with_reducible refine (known_any _).mono ?_); rintro e w5 ⟨rfl, g5⟩)))
  go_ret
  exact ⟨rfl, (((((g1.alloc _ _).trans g2).trans g3).alloc _ _).trans g4 |>.alloc _ _).trans g5⟩

theorem kernelLeft_walk (kind now every burst fill : Int) (w : World) (hk : 0 ≤ kind ∧ kind ≤ 255) (u1 : U now) (h2 : 0 ≤ every ∧ every ≤ 4294967295) (h3 : 0 ≤ burst ∧ burst ≤ 4294967295) (h4 : 0 ≤ fill ∧ fill ≤ 4294967295) :
    Calls Try.prog 7 #[.int .u8 kind, .int .u64 now, .int .u32 every, .int .u32 burst, .int .u32 fill] w fun e w' => e = .returned (.bool true) ∧ Kept w w' := by
  obtain ⟨t, ht⟩ : ∃ t, 1 + every = t := ⟨_, rfl⟩
  obtain ⟨c, hc⟩ : ∃ c, burst % 1000 + 1 = c := ⟨_, rfl⟩
  have ht2 : 1 ≤ t ∧ t ≤ 4294967296 := by omega
  have hc2 : 1 ≤ c ∧ c ≤ 1000 := by omega
  have p0 : 0 ≤ t * c := Int.mul_nonneg (by omega) (by omega)
  have p1 : t * c ≤ 4294967296 * 1000 := Int.mul_le_mul ht2.2 hc2.2 (by omega) (by omega)
  have l (w : World) := ref_mul t c w (by unfold U; omega) (by unfold U; omega)
  rw [sat_id _ (by omega)] at l
  obtain ⟨m, em⟩ : ∃ m, t * c = m := ⟨_, rfl⟩
  rw [em] at l p0 p1
  obtain ⟨f, hm⟩ : ∃ f, (if m < fill then m else fill) = f := ⟨_, rfl⟩
  have hf : 0 ≤ f ∧ f ≤ m := by rw [← hm]; split <;> omega
  have k3 := is3_mod kind hk.1
  have ua : U (now / 4) := by unfold U at *; omega
  have um : U m := by unfold U; omega
  have uf : U f := by unfold U; omega
  have ut : U t := by unfold U; omega
  have hT := tells_of k3 (now / 4) m f ua.1 hf.1 hf.2 (by unfold U at *; omega)
  have uA := koA_U (1 + kind % 3) (now / 4) m f ua um uf
  have uB := koB_U (1 + kind % 3) (now / 4) ua
  have o (w : World) := kof_any (1 + kind % 3) (now / 4) m f w ua um uf
  rw [koK_is k3, koE_is k3] at o
  generalize koA (1 + kind % 3) (now / 4) m f = a at *
  generalize koB (1 + kind % 3) (now / 4) = b at *
  have n (w : World) := kleft_any (1 + kind % 3) a b (now / 4) m t w uA uB ua um ut
  rw [hT.here ua hf.1] at n
  have es : sbI m f = m - f := by unfold sbI; split <;> omega
  have ed : dvI (m - f) t = (m - f) / t := by unfold dvI; rw [if_neg (by omega)]
  rw [es, ed] at n
  obtain ⟨x, hx⟩ : ∃ x, (m - f) / t = x := ⟨_, rfl⟩
  rw [hx] at n
  have x0 : 0 ≤ x := by rw [← hx]; exact Int.ediv_nonneg (by omega) (by omega)
  have x1 : x * t ≤ m - f := by rw [← hx]; exact Int.ediv_mul_le _ (by omega)
  have x2 : m - f < (x + 1) * t := by rw [← hx]; exact Int.lt_ediv_add_one_mul_self _ (by omega)
  have x3 : x ≤ c := by
    have : x * t ≤ c * t := by rw [Int.mul_comm c t, em]; omega
    exact Int.le_of_mul_le_mul_right this (by omega)
  have q0 : 0 ≤ x * t := Int.mul_nonneg x0 (by omega)
  have r1 : (x + 1) * t = x * t + t := by rw [Int.add_mul, Int.one_mul]
  have uq : U (x * t) := by unfold U; omega
  have ur : U ((x + 1) * t) := by unfold U; omega
  have d1 (w : World) := kdecide_any (1 + kind % 3) a b (now / 4) m (x * t) w uA uB ua um uq
  have d2 (w : World) := kdecide_any (1 + kind % 3) a b (now / 4) m ((x + 1) * t) w uA uB ua um ur
  rw [kdB_is k3, hT.here ua hf.1] at d1 d2
  have e1 : ftB f (x * t) m = true := by unfold ftB; simp; omega
  have e2 : ftB f ((x + 1) * t) m = false := by unfold ftB; simp; omega
  rw [e1] at d1
  rw [e2] at d2
  exact left_core kind now every burst fill a b t c m f x _ _ _ _ _ _ _ _ w hk u1 h2 h3 h4 ht ht2 hc hc2 hm um uf ⟨x0, x3⟩ rfl rfl uq ur (Lib.hid l) (Lib.hid o) (Lib.hid n) (Lib.hid d1) (Lib.hid d2)
end Go.Proofs.Ytodmjnbepfkibaa.Wd
