/- The law KernelMoves answers true, for any numbers; no conditions. -/
import Derived.Test.YtodmjnbepfkibaaKerW1
namespace Go.Proofs.Ytodmjnbepfkibaa.Wd
open Go.RowKit
set_option linter.unusedVariables false

set_option maxHeartbeats 1000000 in
theorem moves_core (kind to via now most fill d f a b a2 b2 a3 b3 x y : Int) (w : World) (hk : 0 ≤ kind ∧ kind ≤ 255) (hk2 : 0 ≤ to ∧ to ≤ 255) (hk3 : 0 ≤ via ∧ via ≤ 255) (u1 : U now) (u2 : U most) (u3 : U fill) (h4 : 0 ≤ d ∧ d ≤ 4294967295)
    (hm : (if most / 4 < fill then most / 4 else fill) = f) (uf : U f)
    (O : Hid (∀ w, Calls Try.prog 14 #[.int .u8 (1 + kind % 3), .int .u64 (now / 4), .int .u64 (most / 4), .int .u64 f] w fun e w' => e = .returned (.tuple #[sta (1 + kind % 3) a b, .int .u16 0]) ∧ Kept w w'))
    (M1 : Hid (∀ w, Calls Try.prog 15 #[sta (1 + kind % 3) a b, .int .u8 (1 + to % 3), .int .u64 (now / 4 + d), .int .u64 (most / 4)] w fun e w' => e = .returned (.tuple #[sta (1 + to % 3) a2 b2, .int .u16 0]) ∧ Kept w w'))
    (M2 : Hid (∀ w, Calls Try.prog 15 #[sta (1 + to % 3) a2 b2, .int .u8 (1 + via % 3), .int .u64 (now / 4 + d), .int .u64 (most / 4)] w fun e w' => e = .returned (.tuple #[sta (1 + via % 3) a3 b3, .int .u16 0]) ∧ Kept w w'))
    (M3 : Hid (∀ w, Calls Try.prog 15 #[sta (1 + kind % 3) a b, .int .u8 0, .int .u64 (now / 4), .int .u64 (most / 4)] w fun e w' => e = .returned (.tuple #[sta 0 0 0, .int .u16 27]) ∧ Kept w w'))
    (M4 : Hid (∀ w, Calls Try.prog 15 #[sta 9 0 0, .int .u8 1, .int .u64 (now / 4), .int .u64 (most / 4)] w fun e w' => e = .returned (.tuple #[sta 0 0 0, .int .u16 27]) ∧ Kept w w'))
    (F1 : Hid (∀ w, Calls Try.prog 17 #[sta (1 + kind % 3) a b, .int .u64 (now / 4), .int .u64 (most / 4)] w fun e w' => e = .returned (.int .u64 f) ∧ Kept w w'))
    (F2 : Hid (∀ w, Calls Try.prog 17 #[sta (1 + to % 3) a2 b2, .int .u64 (now / 4 + d), .int .u64 (most / 4)] w fun e w' => e = .returned (.int .u64 x) ∧ Kept w w'))
    (F3 : Hid (∀ w, Calls Try.prog 17 #[sta (1 + kind % 3) a b, .int .u64 (now / 4 + d), .int .u64 (most / 4)] w fun e w' => e = .returned (.int .u64 x) ∧ Kept w w'))
    (F4 : Hid (∀ w, Calls Try.prog 17 #[sta (1 + via % 3) a3 b3, .int .u64 (now / 4 + 2 * d), .int .u64 (most / 4)] w fun e w' => e = .returned (.int .u64 y) ∧ Kept w w'))
    (F5 : Hid (∀ w, Calls Try.prog 17 #[sta (1 + kind % 3) a b, .int .u64 (now / 4 + 2 * d), .int .u64 (most / 4)] w fun e w' => e = .returned (.int .u64 y) ∧ Kept w w')) :
    Calls Try.prog 5 #[.int .u8 kind, .int .u8 to, .int .u8 via, .int .u64 now, .int .u64 most, .int .u64 fill, .int .u32 d] w fun e w' => e = .returned (.bool true) ∧ Kept w w' := by
  unfold U at *
  go_enter Try.func5, Try.ntmps5
  go_wp2_with (first
    | (go_at_call 14; ((with_reducible refine (O.out _).mono ?_); rintro e w1 ⟨rfl, g1⟩; have s1 := row3_new w1 24 (.int .u8 (1 + kind % 3)) (.int .u64 a) (.int .u64 b)))
    | (go_at_call 15; ((with_reducible refine (M1.out _).mono ?_); rintro e w2 ⟨rfl, g2⟩; (first | with_reducible (replace s1 := s1.kept g2) | with_reducible (replace s1 := s1.kept (((Kept.refl _).alloc _ _).trans g2)) | with_reducible (replace s1 := s1.kept ((((Kept.refl _).alloc _ _).alloc _ _).trans g2))); obtain ⟨⟨s10_2, s11_2, s12_2⟩, s1f_2⟩ := id s1; have s1z_2 := s1.lt; have s2 := row3_new w2 24 (.int .u8 (1 + to % 3)) (.int .u64 a2) (.int .u64 b2)))
    | (go_at_call 15; ((with_reducible refine (M2.out _).mono ?_); rintro e w3 ⟨rfl, g3⟩; (first | with_reducible (replace s1 := s1.kept g3) | with_reducible (replace s1 := s1.kept (((Kept.refl _).alloc _ _).trans g3)) | with_reducible (replace s1 := s1.kept ((((Kept.refl _).alloc _ _).alloc _ _).trans g3))); obtain ⟨⟨s10_3, s11_3, s12_3⟩, s1f_3⟩ := id s1; have s1z_3 := s1.lt; (first | with_reducible (replace s2 := s2.kept g3) | with_reducible (replace s2 := s2.kept (((Kept.refl _).alloc _ _).trans g3)) | with_reducible (replace s2 := s2.kept ((((Kept.refl _).alloc _ _).alloc _ _).trans g3))); obtain ⟨⟨s20_3, s21_3, s22_3⟩, s2f_3⟩ := id s2; have s2z_3 := s2.lt; have s3 := row3_new w3 24 (.int .u8 (1 + via % 3)) (.int .u64 a3) (.int .u64 b3)))
    | (go_at_call 15; ((with_reducible refine (M3.out _).mono ?_); rintro e w4 ⟨rfl, g4⟩; (first | with_reducible (replace s1 := s1.kept g4) | with_reducible (replace s1 := s1.kept (((Kept.refl _).alloc _ _).trans g4)) | with_reducible (replace s1 := s1.kept ((((Kept.refl _).alloc _ _).alloc _ _).trans g4))); obtain ⟨⟨s10_4, s11_4, s12_4⟩, s1f_4⟩ := id s1; have s1z_4 := s1.lt; (first | with_reducible (replace s2 := s2.kept g4) | with_reducible (replace s2 := s2.kept (((Kept.refl _).alloc _ _).trans g4)) | with_reducible (replace s2 := s2.kept ((((Kept.refl _).alloc _ _).alloc _ _).trans g4))); obtain ⟨⟨s20_4, s21_4, s22_4⟩, s2f_4⟩ := id s2; have s2z_4 := s2.lt; (first | with_reducible (replace s3 := s3.kept g4) | with_reducible (replace s3 := s3.kept (((Kept.refl _).alloc _ _).trans g4)) | with_reducible (replace s3 := s3.kept ((((Kept.refl _).alloc _ _).alloc _ _).trans g4))); obtain ⟨⟨s30_4, s31_4, s32_4⟩, s3f_4⟩ := id s3; have s3z_4 := s3.lt))
    | (go_at_call 15; ((with_reducible refine (M4.out _).mono ?_); rintro e w5 ⟨rfl, g5⟩; (first | with_reducible (replace s1 := s1.kept g5) | with_reducible (replace s1 := s1.kept (((Kept.refl _).alloc _ _).trans g5)) | with_reducible (replace s1 := s1.kept ((((Kept.refl _).alloc _ _).alloc _ _).trans g5))); obtain ⟨⟨s10_5, s11_5, s12_5⟩, s1f_5⟩ := id s1; have s1z_5 := s1.lt; (first | with_reducible (replace s2 := s2.kept g5) | with_reducible (replace s2 := s2.kept (((Kept.refl _).alloc _ _).trans g5)) | with_reducible (replace s2 := s2.kept ((((Kept.refl _).alloc _ _).alloc _ _).trans g5))); obtain ⟨⟨s20_5, s21_5, s22_5⟩, s2f_5⟩ := id s2; have s2z_5 := s2.lt; (first | with_reducible (replace s3 := s3.kept g5) | with_reducible (replace s3 := s3.kept (((Kept.refl _).alloc _ _).trans g5)) | with_reducible (replace s3 := s3.kept ((((Kept.refl _).alloc _ _).alloc _ _).trans g5))); obtain ⟨⟨s30_5, s31_5, s32_5⟩, s3f_5⟩ := id s3; have s3z_5 := s3.lt)))
  have kW := ((((((((g1.alloc (#[.int .u8 (1 + kind % 3), .int .u64 a, .int .u64 b]) 24).trans g2).alloc _ _).trans g3).alloc _ _).trans g4).alloc _ _).trans g5).alloc (#[.int .u8 0, .int .u64 0, .int .u64 0]) 24
  have gW := (Kept.refl w5).alloc (#[.int .u8 0, .int .u64 0, .int .u64 0]) 24
  replace s1 := (s1.kept gW).1
  replace s2 := (s2.kept gW).1
  replace s3 := (s3.kept gW).1
  generalize hW : World.alloc w5 _ = W at *
  generalize hP1 : w1.heap.size = P1 at *
  generalize hP2 : w2.heap.size = P2 at *
  generalize hP3 : w3.heap.size = P3 at *
  clear hP1 hP2 hP3 hW gW g1 g2 g3 g4 g5
  obtain ⟨s1_0, s1_1, s1_2⟩ := s1
  obtain ⟨s2_0, s2_1, s2_2⟩ := s2
  obtain ⟨s3_0, s3_1, s3_2⟩ := s3
  clear s10_2 s11_2 s12_2 s1f_2 s1z_2 s10_3 s11_3 s12_3 s1f_3 s1z_3 s20_3 s21_3 s22_3 s2f_3 s2z_3 s10_4 s11_4 s12_4 s1f_4 s1z_4 s20_4 s21_4 s22_4 s2f_4 s2z_4 s30_4 s31_4 s32_4 s3f_4 s3z_4 s10_5 s11_5 s12_5 s1f_5 s1z_5 s20_5 s21_5 s22_5 s2f_5 s2z_5 s30_5 s31_5 s32_5 s3f_5 s3z_5
  have e1 : IntKind.u64.wrap d = d := by rw [IntKind.wrap_u64]; omega
  have e2 : IntKind.u64.wrap (now / 4 + d) = now / 4 + d := by rw [IntKind.wrap_u64]; omega
  have e3 : IntKind.u8.wrap (1 + to % 3) = 1 + to % 3 := IntWalk.u8_in _ (by omega)
  have e4 : to.tmod 3 = to % 3 := Int.tmod_eq_emod_of_nonneg hk2.1
  go_region_held3 (fun w' => Kept w w' ∧ w'.cell? ⟨P1, 0, none⟩ = some (.int .u8 (1 + kind % 3)) ∧ w'.cell? ⟨P1, 1, none⟩ = some (.int .u64 a) ∧ w'.cell? ⟨P1, 2, none⟩ = some (.int .u64 b) ∧ w'.cell? ⟨P2, 0, none⟩ = some (.int .u8 (1 + to % 3)) ∧ w'.cell? ⟨P2, 1, none⟩ = some (.int .u64 a2) ∧ w'.cell? ⟨P2, 2, none⟩ = some (.int .u64 b2) ∧ w'.cell? ⟨P3, 0, none⟩ = some (.int .u8 (1 + via % 3)) ∧ w'.cell? ⟨P3, 1, none⟩ = some (.int .u64 a3) ∧ w'.cell? ⟨P3, 2, none⟩ = some (.int .u64 b3))
    (first | with_reducible exact ⟨kW, s1_0, s1_1, s1_2, s2_0, s2_1, s2_2, s3_0, s3_1, s3_2⟩ | with_reducible exact ⟨kW.drew, (Kept.refl _).drew.cell s1_0, (Kept.refl _).drew.cell s1_1, (Kept.refl _).drew.cell s1_2, (Kept.refl _).drew.cell s2_0, (Kept.refl _).drew.cell s2_1, (Kept.refl _).drew.cell s2_2, (Kept.refl _).drew.cell s3_0, (Kept.refl _).drew.cell s3_1, (Kept.refl _).drew.cell s3_2⟩)
    (first
    | (go_at_call 10; ((with_reducible refine (known_any _).mono ?_); rintro e w' ⟨rfl, g⟩; (first | with_reducible (replace kW := kW.trans g) | (with_reducible (replace kW := kW.drew.trans g); replace g := (Kept.refl _).drew.trans g)); replace s1_0 := g.cell s1_0; replace s1_1 := g.cell s1_1; replace s1_2 := g.cell s1_2; replace s2_0 := g.cell s2_0; replace s2_1 := g.cell s2_1; replace s2_2 := g.cell s2_2; replace s3_0 := g.cell s3_0; replace s3_1 := g.cell s3_1; replace s3_2 := g.cell s3_2; clear g))
    | (go_at_call 17; ((with_reducible refine (F1.out _).mono ?_); rintro e w' ⟨rfl, g⟩; (first | with_reducible (replace kW := kW.trans g) | (with_reducible (replace kW := kW.drew.trans g); replace g := (Kept.refl _).drew.trans g)); replace s1_0 := g.cell s1_0; replace s1_1 := g.cell s1_1; replace s1_2 := g.cell s1_2; replace s2_0 := g.cell s2_0; replace s2_1 := g.cell s2_1; replace s2_2 := g.cell s2_2; replace s3_0 := g.cell s3_0; replace s3_1 := g.cell s3_1; replace s3_2 := g.cell s3_2; clear g))
    | (go_at_call 17; ((with_reducible refine (F2.out _).mono ?_); rintro e w' ⟨rfl, g⟩; (first | with_reducible (replace kW := kW.trans g) | (with_reducible (replace kW := kW.drew.trans g); replace g := (Kept.refl _).drew.trans g)); replace s1_0 := g.cell s1_0; replace s1_1 := g.cell s1_1; replace s1_2 := g.cell s1_2; replace s2_0 := g.cell s2_0; replace s2_1 := g.cell s2_1; replace s2_2 := g.cell s2_2; replace s3_0 := g.cell s3_0; replace s3_1 := g.cell s3_1; replace s3_2 := g.cell s3_2; clear g))
    | (go_at_call 17; ((with_reducible refine (F3.out _).mono ?_); rintro e w' ⟨rfl, g⟩; (first | with_reducible (replace kW := kW.trans g) | (with_reducible (replace kW := kW.drew.trans g); replace g := (Kept.refl _).drew.trans g)); replace s1_0 := g.cell s1_0; replace s1_1 := g.cell s1_1; replace s1_2 := g.cell s1_2; replace s2_0 := g.cell s2_0; replace s2_1 := g.cell s2_1; replace s2_2 := g.cell s2_2; replace s3_0 := g.cell s3_0; replace s3_1 := g.cell s3_1; replace s3_2 := g.cell s3_2; clear g))
    | (go_at_call 17; ((with_reducible refine (F4.out _).mono ?_); rintro e w' ⟨rfl, g⟩; (first | with_reducible (replace kW := kW.trans g) | (with_reducible (replace kW := kW.drew.trans g); replace g := (Kept.refl _).drew.trans g)); replace s1_0 := g.cell s1_0; replace s1_1 := g.cell s1_1; replace s1_2 := g.cell s1_2; replace s2_0 := g.cell s2_0; replace s2_1 := g.cell s2_1; replace s2_2 := g.cell s2_2; replace s3_0 := g.cell s3_0; replace s3_1 := g.cell s3_1; replace s3_2 := g.cell s3_2; clear g))
    | (go_at_call 17; ((with_reducible refine (F5.out _).mono ?_); rintro e w' ⟨rfl, g⟩; (first | with_reducible (replace kW := kW.trans g) | (with_reducible (replace kW := kW.drew.trans g); replace g := (Kept.refl _).drew.trans g)); replace s1_0 := g.cell s1_0; replace s1_1 := g.cell s1_1; replace s1_2 := g.cell s1_2; replace s2_0 := g.cell s2_0; replace s2_1 := g.cell s2_1; replace s2_2 := g.cell s2_2; replace s3_0 := g.cell s3_0; replace s3_1 := g.cell s3_1; replace s3_2 := g.cell s3_2; clear g)))
  rename_i hH
  have gF := hH.1
  clear hH
  go_wp2
  go_ret
  exact ⟨rfl, gF⟩

theorem kernelMoves_walk (kind to via now most fill d : Int) (w : World) (hk : 0 ≤ kind ∧ kind ≤ 255) (hk2 : 0 ≤ to ∧ to ≤ 255) (hk3 : 0 ≤ via ∧ via ≤ 255) (u1 : U now) (u2 : U most) (u3 : U fill) (h4 : 0 ≤ d ∧ d ≤ 4294967295) :
    Calls Try.prog 5 #[.int .u8 kind, .int .u8 to, .int .u8 via, .int .u64 now, .int .u64 most, .int .u64 fill, .int .u32 d] w fun e w' => e = .returned (.bool true) ∧ Kept w w' := by
  obtain ⟨f, hm⟩ : ∃ f, (if most / 4 < fill then most / 4 else fill) = f := ⟨_, rfl⟩
  have hf : 0 ≤ f ∧ f ≤ most / 4 := by unfold U at *; rw [← hm]; split <;> omega
  have k3 := is3_mod kind hk.1
  have t3 := is3_mod to hk2.1
  have v3 := is3_mod via hk3.1
  have ua : U (now / 4) := by unfold U at *; omega
  have ud : U (now / 4 + d) := by unfold U at *; omega
  have ul : U (now / 4 + 2 * d) := by unfold U at *; omega
  have um : U (most / 4) := by unfold U at *; omega
  have uf : U f := by unfold U at *; omega
  have hT := tells_of k3 (now / 4) (most / 4) f ua.1 hf.1 hf.2 (by unfold U at *; omega)
  have uA := koA_U (1 + kind % 3) (now / 4) (most / 4) f ua um uf
  have uB := koB_U (1 + kind % 3) (now / 4) ua
  have o (w : World) := kof_any (1 + kind % 3) (now / 4) (most / 4) f w ua um uf
  rw [koK_is k3, koE_is k3] at o
  generalize koA (1 + kind % 3) (now / 4) (most / 4) f = a at *
  generalize koB (1 + kind % 3) (now / 4) = b at *
  -- over to another one
  have hT1 := hT.later (s := now / 4 + d) (by omega)
  obtain ⟨x, hx⟩ : ∃ x, sbI f (now / 4 + d - now / 4) = x := ⟨_, rfl⟩
  rw [hx] at hT1
  have x0 : 0 ≤ x ∧ x ≤ f := by rw [← hx]; unfold sbI; split <;> omega
  have ux : U x := by unfold U at *; omega
  have m1 (w : World) := kmigrate_any (1 + kind % 3) a b (1 + to % 3) (now / 4 + d) (most / 4) w uA uB ud um
  rw [kmK_is k3 t3, kmA_is k3, kmB_is k3, kmE_is k3 t3, hT1.here ud x0.1] at m1
  have hT2 := tells_of t3 (now / 4 + d) (most / 4) x ud.1 x0.1 (by omega) (by unfold U at *; omega)
  have uA2 := koA_U (1 + to % 3) (now / 4 + d) (most / 4) x ud um ux
  have uB2 := koB_U (1 + to % 3) (now / 4 + d) ud
  generalize koA (1 + to % 3) (now / 4 + d) (most / 4) x = a2 at *
  generalize koB (1 + to % 3) (now / 4 + d) = b2 at *
  have m2 (w : World) := kmigrate_any (1 + to % 3) a2 b2 (1 + via % 3) (now / 4 + d) (most / 4) w uA2 uB2 ud um
  rw [kmK_is t3 v3, kmA_is t3, kmB_is t3, kmE_is t3 v3, hT2.here ud x0.1] at m2
  have hT3 := tells_of v3 (now / 4 + d) (most / 4) x ud.1 x0.1 (by omega) (by unfold U at *; omega)
  have uA3 := koA_U (1 + via % 3) (now / 4 + d) (most / 4) x ud um ux
  have uB3 := koB_U (1 + via % 3) (now / 4 + d) ud
  generalize koA (1 + via % 3) (now / 4 + d) (most / 4) x = a3 at *
  generalize koB (1 + via % 3) (now / 4 + d) = b3 at *
  -- to none, and of none
  have m3 (w : World) := kmigrate_any (1 + kind % 3) a b 0 (now / 4) (most / 4) w uA uB ua um
  have m4 (w : World) := kmigrate_any 9 0 0 1 (now / 4) (most / 4) w U_zero U_zero ua um
  have e3 : kmK (1 + kind % 3) 0 = 0 ∧ kmA (1 + kind % 3) a b 0 (now / 4) (most / 4) = 0 ∧ kmB (1 + kind % 3) 0 (now / 4) = 0 ∧ kmE (1 + kind % 3) 0 = 27 := by
    unfold kmK kmA kmB kmE; rw [if_pos k3.isK, if_pos k3.isK, if_pos k3.isK, if_pos k3.isK]; exact ⟨rfl, rfl, rfl, rfl⟩
  rw [e3.1, e3.2.1, e3.2.2.1, e3.2.2.2] at m3
  -- how full they are
  have f1 (w : World) := kfill_any (1 + kind % 3) a b (now / 4) (most / 4) w uA uB ua um
  have f2 (w : World) := kfill_any (1 + to % 3) a2 b2 (now / 4 + d) (most / 4) w uA2 uB2 ud um
  have f3 (w : World) := kfill_any (1 + kind % 3) a b (now / 4 + d) (most / 4) w uA uB ud um
  have f4 (w : World) := kfill_any (1 + via % 3) a3 b3 (now / 4 + 2 * d) (most / 4) w uA3 uB3 ul um
  have f5 (w : World) := kfill_any (1 + kind % 3) a b (now / 4 + 2 * d) (most / 4) w uA uB ul um
  rw [hT.here ua hf.1] at f1
  rw [hT2.here ud x0.1] at f2
  rw [hT1.here ud x0.1] at f3
  rw [hT3 _ (by omega) ul] at f4
  rw [hT1 _ (by omega) ul] at f5
  exact moves_core kind to via now most fill d f a b a2 b2 a3 b3 x _ w hk hk2 hk3 u1 u2 u3 h4 hm uf (Lib.hid o) (Lib.hid m1) (Lib.hid m2) (Lib.hid m3) (Lib.hid m4) (Lib.hid f1) (Lib.hid f2) (Lib.hid f3) (Lib.hid f4) (Lib.hid f5)
end Go.Proofs.Ytodmjnbepfkibaa.Wd
