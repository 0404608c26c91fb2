/- The laws KernelUntil, KernelWaits and KernelLeft answer true, for any numbers; no conditions. -/
import Derived.Test.YtodmjnbepfkibaaKerW1
namespace Go.Proofs.Ytodmjnbepfkibaa.Wd
open Go.RowKit
set_option linter.unusedVariables false

theorem until_zero (kind now most fill a b : Int) (w : World) (hk : 0 ≤ kind ∧ kind ≤ 255) (u1 : U now) (h2 : 0 ≤ most ∧ most ≤ 4294967295) (h3 : 0 ≤ fill ∧ fill ≤ 4294967295)
    (hm : (if most < fill then most else fill) = 0)
    (O : Hid (∀ w, Calls Try.prog 14 #[.int .u8 (1 + kind % 3), .int .u64 (now / 4), .int .u64 most, .int .u64 0] w fun e w' => e = .returned (.tuple #[sta (1 + kind % 3) a b, .int .u16 0]) ∧ Kept w w'))
    (N : Hid (∀ w, Calls Try.prog 18 #[sta (1 + kind % 3) a b, .int .u64 (now / 4), .int .u64 most] w fun e w' => e = .returned (.int .u64 0) ∧ Kept w w')) :
    Calls Try.prog 8 #[.int .u8 kind, .int .u64 now, .int .u32 most, .int .u32 fill] w fun e w' => e = .returned (.bool true) ∧ Kept w w' := by
  unfold U at *
  go_enter Try.func8, Try.ntmps8
  go_wp2_with (first
    | (go_at_call 14; ((with_reducible refine (O.out _).mono ?_); rintro e w1 ⟨rfl, g1⟩; have s1 := row3_new w1 24 (.int .u8 (1 + kind % 3)) (.int .u64 a) (.int .u64 b)))
    | (go_at_call 18; ((with_reducible refine (N.out _).mono ?_); rintro e w2 ⟨rfl, g2⟩; (first | with_reducible (replace s1 := s1.kept g2) | with_reducible (replace s1 := s1.kept (((Kept.refl _).alloc _ _).trans g2)) | with_reducible (replace s1 := s1.kept ((((Kept.refl _).alloc _ _).alloc _ _).trans g2))); obtain ⟨⟨s10_2, s11_2, s12_2⟩, s1f_2⟩ := id s1; have s1z_2 := s1.lt))
    | (go_at_call 10; ((with_reducible refine (known_any _).mono ?_); rintro e w3 ⟨rfl, g3⟩; (first | with_reducible (replace s1 := s1.kept g3) | with_reducible (replace s1 := s1.kept (((Kept.refl _).alloc _ _).trans g3)) | with_reducible (replace s1 := s1.kept ((((Kept.refl _).alloc _ _).alloc _ _).trans g3))); obtain ⟨⟨s10_3, s11_3, s12_3⟩, s1f_3⟩ := id s1; have s1z_3 := s1.lt)))
  go_ret
  exact ⟨rfl, ((g1.alloc _ _).trans g2).trans g3⟩

theorem until_some (kind now most fill a b f : Int) (w : World) (hk : 0 ≤ kind ∧ kind ≤ 255) (u1 : U now) (h2 : 0 ≤ most ∧ most ≤ 4294967295) (h3 : 0 ≤ fill ∧ fill ≤ 4294967295)
    (hm : (if most < fill then most else fill) = f) (hf : 0 < f) (hf2 : f ≤ 4294967295) (hf3 : (f == 0) = false)
    (O : Hid (∀ w, Calls Try.prog 14 #[.int .u8 (1 + kind % 3), .int .u64 (now / 4), .int .u64 most, .int .u64 f] w fun e w' => e = .returned (.tuple #[sta (1 + kind % 3) a b, .int .u16 0]) ∧ Kept w w'))
    (N : Hid (∀ w, Calls Try.prog 18 #[sta (1 + kind % 3) a b, .int .u64 (now / 4), .int .u64 most] w fun e w' => e = .returned (.int .u64 (now / 4 + f)) ∧ Kept w w'))
    (F1 : Hid (∀ w, Calls Try.prog 17 #[sta (1 + kind % 3) a b, .int .u64 (now / 4 + f), .int .u64 most] w fun e w' => e = .returned (.int .u64 0) ∧ Kept w w'))
    (F2 : Hid (∀ w, Calls Try.prog 17 #[sta (1 + kind % 3) a b, .int .u64 (now / 4 + f - 1), .int .u64 most] w fun e w' => e = .returned (.int .u64 1) ∧ Kept w w')) :
    Calls Try.prog 8 #[.int .u8 kind, .int .u64 now, .int .u32 most, .int .u32 fill] w fun e w' => e = .returned (.bool true) ∧ Kept w w' := by
  unfold U at *
  go_enter Try.func8, Try.ntmps8
  go_wp2_with (first
    | (go_at_call 14; ((with_reducible refine (O.out _).mono ?_); rintro e w1 ⟨rfl, g1⟩; have s1 := row3_new w1 24 (.int .u8 (1 + kind % 3)) (.int .u64 a) (.int .u64 b)))
    | (go_at_call 18; ((with_reducible refine (N.out _).mono ?_); rintro e w2 ⟨rfl, g2⟩; (first | with_reducible (replace s1 := s1.kept g2) | with_reducible (replace s1 := s1.kept (((Kept.refl _).alloc _ _).trans g2)) | with_reducible (replace s1 := s1.kept ((((Kept.refl _).alloc _ _).alloc _ _).trans g2))); obtain ⟨⟨s10_2, s11_2, s12_2⟩, s1f_2⟩ := id s1; have s1z_2 := s1.lt))
    | (go_at_call 10; ((with_reducible refine (known_any _).mono ?_); rintro e w3 ⟨rfl, g3⟩; (first | with_reducible (replace s1 := s1.kept g3) | with_reducible (replace s1 := s1.kept (((Kept.refl _).alloc _ _).trans g3)) | with_reducible (replace s1 := s1.kept ((((Kept.refl _).alloc _ _).alloc _ _).trans g3))); obtain ⟨⟨s10_3, s11_3, s12_3⟩, s1f_3⟩ := id s1; have s1z_3 := s1.lt))
    | (go_at_call 17; ((with_reducible refine (F1.out _).mono ?_); rintro e w4 ⟨rfl, g4⟩; (first | with_reducible (replace s1 := s1.kept g4) | with_reducible (replace s1 := s1.kept (((Kept.refl _).alloc _ _).trans g4)) | with_reducible (replace s1 := s1.kept ((((Kept.refl _).alloc _ _).alloc _ _).trans g4))); obtain ⟨⟨s10_4, s11_4, s12_4⟩, s1f_4⟩ := id s1; have s1z_4 := s1.lt))
    | (go_at_call 17; ((with_reducible refine (F2.out _).mono ?_); rintro e w5 ⟨rfl, g5⟩)))
  go_ret
  exact ⟨rfl, ((((g1.alloc _ _).trans g2).trans g3).trans g4).trans g5⟩

theorem kernelUntil_walk (kind now most fill : Int) (w : World) (hk : 0 ≤ kind ∧ kind ≤ 255) (u1 : U now) (h2 : 0 ≤ most ∧ most ≤ 4294967295) (h3 : 0 ≤ fill ∧ fill ≤ 4294967295) :
    Calls Try.prog 8 #[.int .u8 kind, .int .u64 now, .int .u32 most, .int .u32 fill] w fun e w' => e = .returned (.bool true) ∧ Kept w w' := by
  obtain ⟨f, hm⟩ : ∃ f, (if most < fill then most else fill) = f := ⟨_, rfl⟩
  have hf : 0 ≤ f ∧ f ≤ most ∧ f ≤ 4294967295 := by rw [← hm]; split <;> omega
  have k3 := is3_mod kind hk.1
  have ua : U (now / 4) := by unfold U at *; omega
  have uf : U f := by unfold U; omega
  have um : U most := by unfold U; omega
  have hT := tells_of k3 (now / 4) most f ua.1 hf.1 hf.2.1 (by unfold U at *; omega)
  have uA := koA_U (1 + kind % 3) (now / 4) most f ua um uf
  have uB := koB_U (1 + kind % 3) (now / 4) ua
  have o (w : World) := kof_any (1 + kind % 3) (now / 4) most f w ua um uf
  rw [koK_is k3, koE_is k3] at o
  generalize koA (1 + kind % 3) (now / 4) most f = a at *
  generalize koB (1 + kind % 3) (now / 4) = b at *
  have n (w : World) := kuntil_any (1 + kind % 3) a b (now / 4) most w uA uB ua um
  rw [hT.here ua hf.1] at n
  by_cases c : f = 0
  · subst c
    exact until_zero kind now most fill a b w hk u1 h2 h3 hm (Lib.hid o) (Lib.hid n)
  · have en : kuI (now / 4) f = now / 4 + f := by unfold kuI; rw [if_neg c, sat_id]; unfold U at *; omega
    rw [en] at n
    have u5 : U (now / 4 + f) := by unfold U at *; omega
    have u6 : U (now / 4 + f - 1) := by unfold U at *; omega
    have f1 (w : World) := kfill_any (1 + kind % 3) a b (now / 4 + f) most w uA uB u5 um
    have f2 (w : World) := kfill_any (1 + kind % 3) a b (now / 4 + f - 1) most w uA uB u6 um
    rw [hT _ (by omega) u5] at f1
    rw [hT _ (by omega) u6] at f2
    have e1 : sbI f (now / 4 + f - now / 4) = 0 := by unfold sbI; split <;> omega
    have e2 : sbI f (now / 4 + f - 1 - now / 4) = 1 := by unfold sbI; split <;> omega
    rw [e1] at f1
    rw [e2] at f2
    exact until_some kind now most fill a b f w hk u1 h2 h3 hm (by omega) (by omega) (by simpa using c) (Lib.hid o) (Lib.hid n) (Lib.hid f1) (Lib.hid f2)

/-! ### KernelWaits -/
theorem waits_now (kind now most fill v k s a b f x d' dk da dt : Int) (p : Bool) (w : World) (hk : 0 ≤ kind ∧ kind ≤ 255) (u1 : U now) (u2 : U most) (u3 : U fill) (u4 : U v) (h5 : 0 ≤ k ∧ k ≤ 255) (s' : Nat) (P y : Int) (hs : k % 64 = (s' : Int)) (hs2 : s' < 64) (hP : (2 : Int) ^ s' = P) (hx : v / P = x) (hy : fill / P = y)
    (hm : (if most / 4 < y then most / 4 else y) = f) (uf : U f) (ux : U x) (uy : U y) (hp : p = decide (x ≤ most / 4))
    (O : Hid (∀ w, Calls Try.prog 14 #[.int .u8 (1 + kind % 3), .int .u64 (now / 4), .int .u64 (most / 4), .int .u64 f] w fun e w' => e = .returned (.tuple #[sta (1 + kind % 3) a b, .int .u16 0]) ∧ Kept w w'))
    (N : Hid (∀ w, Calls Try.prog 19 #[sta (1 + kind % 3) a b, .int .u64 (now / 4), .int .u64 (most / 4), .int .u64 x] w fun e w' => e = .returned (.tuple #[.int .u64 0, .bool false]) ∧ Kept w w'))
    (D : Hid (∀ w, Calls Try.prog 16 #[sta (1 + kind % 3) a b, .int .u64 (now / 4), .int .u64 (most / 4), .int .u64 x] w fun e w' => e = .returned (.tuple #[sta dk da dt, .bool p]) ∧ Kept w w')) :
    Calls Try.prog 6 #[.int .u8 kind, .int .u64 now, .int .u64 most, .int .u64 fill, .int .u64 v, .int .u8 k] w fun e w' => e = .returned (.bool true) ∧ Kept w w' := by
  have hp1 : (p == decide (x ≤ most / 4)) = true := by rw [hp]; simp
  clear hp
  unfold U at *
  go_enter Try.func6, Try.ntmps6
  go_wp2_with (first
    | (go_at_call 14; ((with_reducible refine (O.out _).mono ?_); rintro e w1 ⟨rfl, g1⟩; have s1 := row3_new w1 24 (.int .u8 (1 + kind % 3)) (.int .u64 a) (.int .u64 b)))
    | (go_at_call 19; ((with_reducible refine (N.out _).mono ?_); rintro e w2 ⟨rfl, g2⟩; (first | with_reducible (replace s1 := s1.kept g2) | with_reducible (replace s1 := s1.kept (((Kept.refl _).alloc _ _).trans g2)) | with_reducible (replace s1 := s1.kept ((((Kept.refl _).alloc _ _).alloc _ _).trans g2))); obtain ⟨⟨s10_2, s11_2, s12_2⟩, s1f_2⟩ := id s1; have s1z_2 := s1.lt))
    | (go_at_call 16; ((with_reducible refine (D.out _).mono ?_); rintro e w3 ⟨rfl, g3⟩))
    | (go_at_call 10; ((with_reducible refine (known_any _).mono ?_); rintro e w4 ⟨rfl, g4⟩)))
  go_ret
  exact ⟨rfl, (((g1.alloc _ _).trans g2).trans g3 |>.alloc _ _).trans g4⟩

theorem waits_then (kind now most fill v k a b f x d' dk da dt ek ea et hk' ha ht : Int) (w : World) (hk : 0 ≤ kind ∧ kind ≤ 255) (u1 : U now) (u2 : U most) (u3 : U fill) (u4 : U v) (h5 : 0 ≤ k ∧ k ≤ 255) (s' : Nat) (P y : Int) (hs : k % 64 = (s' : Int)) (hs2 : s' < 64) (hP : (2 : Int) ^ s' = P) (hx : v / P = x) (hy : fill / P = y)
    (hm : (if most / 4 < y then most / 4 else y) = f) (uf : U f) (ux : U x) (uy : U y) (hd : 0 < d') (hd2 : d' ≤ 4611686018427387903)
    (O : Hid (∀ w, Calls Try.prog 14 #[.int .u8 (1 + kind % 3), .int .u64 (now / 4), .int .u64 (most / 4), .int .u64 f] w fun e w' => e = .returned (.tuple #[sta (1 + kind % 3) a b, .int .u16 0]) ∧ Kept w w'))
    (N : Hid (∀ w, Calls Try.prog 19 #[sta (1 + kind % 3) a b, .int .u64 (now / 4), .int .u64 (most / 4), .int .u64 x] w fun e w' => e = .returned (.tuple #[.int .u64 d', .bool true]) ∧ Kept w w'))
    (D1 : Hid (∀ w, Calls Try.prog 16 #[sta (1 + kind % 3) a b, .int .u64 (now / 4), .int .u64 (most / 4), .int .u64 x] w fun e w' => e = .returned (.tuple #[sta dk da dt, .bool false]) ∧ Kept w w'))
    (D2 : Hid (∀ w, Calls Try.prog 16 #[sta (1 + kind % 3) a b, .int .u64 (now / 4 + d'), .int .u64 (most / 4), .int .u64 x] w fun e w' => e = .returned (.tuple #[sta ek ea et, .bool true]) ∧ Kept w w'))
    (D3 : Hid (∀ w, Calls Try.prog 16 #[sta (1 + kind % 3) a b, .int .u64 (now / 4 + d' - 1), .int .u64 (most / 4), .int .u64 x] w fun e w' => e = .returned (.tuple #[sta hk' ha ht, .bool false]) ∧ Kept w w')) :
    Calls Try.prog 6 #[.int .u8 kind, .int .u64 now, .int .u64 most, .int .u64 fill, .int .u64 v, .int .u8 k] w fun e w' => e = .returned (.bool true) ∧ Kept w w' := by
  unfold U at *
  go_enter Try.func6, Try.ntmps6
  go_wp2_with (first
    | (go_at_call 14; ((with_reducible refine (O.out _).mono ?_); rintro e w1 ⟨rfl, g1⟩; have s1 := row3_new w1 24 (.int .u8 (1 + kind % 3)) (.int .u64 a) (.int .u64 b)))
    | (go_at_call 19; ((with_reducible refine (N.out _).mono ?_); rintro e w2 ⟨rfl, g2⟩; (first | with_reducible (replace s1 := s1.kept g2) | with_reducible (replace s1 := s1.kept (((Kept.refl _).alloc _ _).trans g2)) | with_reducible (replace s1 := s1.kept ((((Kept.refl _).alloc _ _).alloc _ _).trans g2))); obtain ⟨⟨s10_2, s11_2, s12_2⟩, s1f_2⟩ := id s1; have s1z_2 := s1.lt))
    | (go_at_call 16; ((with_reducible refine (D1.out _).mono ?_); rintro e w3 ⟨rfl, g3⟩; (first | with_reducible (replace s1 := s1.kept g3) | with_reducible (replace s1 := s1.kept (((Kept.refl _).alloc _ _).trans g3)) | with_reducible (replace s1 := s1.kept ((((Kept.refl _).alloc _ _).alloc _ _).trans g3))); obtain ⟨⟨s10_3, s11_3, s12_3⟩, s1f_3⟩ := id s1; have s1z_3 := s1.lt))
    | (go_at_call 16; ((with_reducible refine (D2.out _).mono ?_); rintro e w4 ⟨rfl, g4⟩; (first | with_reducible (replace s1 := s1.kept g4) | with_reducible (replace s1 := s1.kept (((Kept.refl _).alloc _ _).trans g4)) | with_reducible (replace s1 := s1.kept ((((Kept.refl _).alloc _ _).alloc _ _).trans g4))); obtain ⟨⟨s10_4, s11_4, s12_4⟩, s1f_4⟩ := id s1; have s1z_4 := s1.lt))
    | (go_at_call 16; ((with_reducible refine (D3.out _).mono ?_); rintro e w5 ⟨rfl, g5⟩))
    | (go_at_call 10; ((with_reducible refine (known_any _).mono ?_); rintro e w6 ⟨rfl, g6⟩)))
  go_ret
  exact ⟨rfl, (((((((g1.alloc _ _).trans g2).trans g3).alloc _ _).trans g4).alloc _ _).trans g5 |>.alloc _ _).trans g6⟩

theorem kernelWaits_walk (kind now most fill v k : Int) (w : World) (hk : 0 ≤ kind ∧ kind ≤ 255) (u1 : U now) (u2 : U most) (u3 : U fill) (u4 : U v) (h5 : 0 ≤ k ∧ k ≤ 255) :
    Calls Try.prog 6 #[.int .u8 kind, .int .u64 now, .int .u64 most, .int .u64 fill, .int .u64 v, .int .u8 k] w fun e w' => e = .returned (.bool true) ∧ Kept w w' := by
  obtain ⟨s, hs⟩ : ∃ s : Nat, k % 64 = (s : Int) := ⟨(k % 64).toNat, by omega⟩
  have hs2 : s < 64 := by omega
  obtain ⟨P, hP⟩ : ∃ P : Int, (2 : Int) ^ s = P := ⟨_, rfl⟩
  have hP1 : 1 ≤ P := by rw [← hP]; have := pow_pos s; omega
  have ux := div_pow_U v P u4 hP1
  have uy := div_pow_U fill P u3 hP1
  obtain ⟨x, hx⟩ : ∃ x : Int, v / P = x := ⟨_, rfl⟩
  obtain ⟨y, hy⟩ : ∃ y : Int, fill / P = y := ⟨_, rfl⟩
  rw [hx] at ux
  rw [hy] at uy
  obtain ⟨f, hm⟩ : ∃ f, (if most / 4 < y then most / 4 else y) = f := ⟨_, rfl⟩
  have hf : 0 ≤ f ∧ f ≤ most / 4 := by unfold U at *; rw [← hm]; split <;> omega
  have k3 := is3_mod kind hk.1
  have ua : U (now / 4) := by unfold U at *; omega
  have um : U (most / 4) := by unfold U at *; omega
  have uf : U f := by unfold U at *; omega
  have hT := tells_of k3 (now / 4) (most / 4) f ua.1 hf.1 hf.2 (by unfold U at *; omega)
  have uA := koA_U (1 + kind % 3) (now / 4) (most / 4) f ua um uf
  have uB := koB_U (1 + kind % 3) (now / 4) ua
  have o (w : World) := kof_any (1 + kind % 3) (now / 4) (most / 4) f w ua um uf
  rw [koK_is k3, koE_is k3] at o
  generalize koA (1 + kind % 3) (now / 4) (most / 4) f = a at *
  generalize koB (1 + kind % 3) (now / 4) = b at *
  have n (w : World) := kwait_any (1 + kind % 3) a b (now / 4) (most / 4) x w uA uB ua um ux
  rw [hT.here ua hf.1] at n
  have d1 (w : World) := kdecide_any (1 + kind % 3) a b (now / 4) (most / 4) x w uA uB ua um ux
  rw [kdB_is k3, hT.here ua hf.1] at d1
  cases c : kwB f (most / 4) x
  · have e : kwI f (most / 4) x = 0 := by unfold kwI; rw [c]; rfl
    rw [e, c] at n
    refine waits_now kind now most fill v k 0 a b f x 0 _ _ _ _ w hk u1 u2 u3 u4 h5 s P y hs hs2 hP hx hy hm uf ux uy ?_ (Lib.hid o) (Lib.hid n) (Lib.hid d1)
    unfold ftB kwB at *
    rw [Bool.eq_iff_iff]
    simp at c ⊢
    omega
  · have e : kwI f (most / 4) x = f + x - most / 4 := by unfold kwI; rw [c]; rfl
    have c1 : x ≤ most / 4 ∧ most / 4 < f + x := by unfold kwB at c; simpa using c
    rw [e, c] at n
    have g1 : ftB f x (most / 4) = false := by unfold ftB; simp; omega
    rw [g1] at d1
    have u5 : U (now / 4 + (f + x - most / 4)) := by unfold U at *; omega
    have u6 : U (now / 4 + (f + x - most / 4) - 1) := by unfold U at *; omega
    have d2 (w : World) := kdecide_any (1 + kind % 3) a b (now / 4 + (f + x - most / 4)) (most / 4) x w uA uB u5 um ux
    have d3 (w : World) := kdecide_any (1 + kind % 3) a b (now / 4 + (f + x - most / 4) - 1) (most / 4) x w uA uB u6 um ux
    rw [kdB_is k3, hT _ (by omega) u5] at d2
    rw [kdB_is k3, hT _ (by omega) u6] at d3
    have g2 : ftB (sbI f (now / 4 + (f + x - most / 4) - now / 4)) x (most / 4) = true := by unfold ftB sbI; simp; split <;> omega
    have g3 : ftB (sbI f (now / 4 + (f + x - most / 4) - 1 - now / 4)) x (most / 4) = false := by unfold ftB sbI; simp; split <;> omega
    rw [g2] at d2
    rw [g3] at d3
    exact waits_then kind now most fill v k a b f x (f + x - most / 4) _ _ _ _ _ _ _ _ _ w hk u1 u2 u3 u4 h5 s P y hs hs2 hP hx hy hm uf ux uy (by omega) (by unfold U at *; omega) (Lib.hid o) (Lib.hid n) (Lib.hid d1) (Lib.hid d2) (Lib.hid d3)
end Go.Proofs.Ytodmjnbepfkibaa.Wd
