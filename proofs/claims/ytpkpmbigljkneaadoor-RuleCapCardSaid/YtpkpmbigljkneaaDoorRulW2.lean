/- RuleCap, walked; the kernels' names lie in the program's table. -/
import Derived.Test.YtpkpmbigljkneaaDoorRulOwn
namespace Go.Proofs.YtpkpmbigljkneaaDoor.Wd
open Go Go.RowKit
set_option linter.unusedVariables false

theorem cap_cases (E B k : Int) (hE : U E) (hB : U B) (hk : 1 ≤ k ∧ k ≤ 3) :
    (E = 0 ∧ sat (E * B) = 0 ∧ ruE ⟨#[]⟩ E B k = 24 ∧ caI ⟨#[]⟩ E B k = 0) ∨
    (0 < E ∧ B = 0 ∧ sat (E * B) = 0 ∧ ruE ⟨#[]⟩ E B k = 25 ∧ caI ⟨#[]⟩ E B k = 0) ∨
    (0 < E ∧ 0 < B ∧ 4611686018427387904 < sat (E * B) ∧ ruE ⟨#[]⟩ E B k = 26 ∧ caI ⟨#[]⟩ E B k = 0) ∨
    (0 < E ∧ 0 < B ∧ 0 < sat (E * B) ∧ sat (E * B) ≤ 4611686018427387904 ∧ ruE ⟨#[]⟩ E B k = 0 ∧ caI ⟨#[]⟩ E B k = sat (E * B)) := by
  have hpf : pfB ⟨#[]⟩ = true := by decide
  have hK : isK k = true := decide_eq_true hk
  have hr := ru_is ⟨#[]⟩ E B k
  rw [hpf, hK, if_neg (by decide)] at hr
  unfold U at *
  by_cases h1 : E = 0
  · left
    rw [if_pos (by omega)] at hr
    exact ⟨h1, by rw [h1, Int.zero_mul]; rfl, hr, by unfold caI; rw [hr]; rfl⟩
  · right
    rw [if_neg (by omega)] at hr
    by_cases h2 : B = 0
    · left
      rw [if_pos (by omega)] at hr
      exact ⟨by omega, h2, by rw [h2, Int.mul_zero]; rfl, hr, by unfold caI; rw [hr]; rfl⟩
    · right
      rw [if_neg (by omega)] at hr
      have hm : 0 < E * B := Int.mul_pos (by omega) (by omega)
      have hs : 0 < sat (E * B) := by unfold sat; split <;> omega
      by_cases h3 : sat (E * B) ≤ 4611686018427387904
      · right
        rw [if_neg (by omega), if_neg (by decide)] at hr
        exact ⟨by omega, by omega, hs, h3, hr, by unfold caI; rw [hr]; rfl⟩
      · left
        rw [if_pos h3] at hr
        exact ⟨by omega, by omega, by omega, hr, by unfold caI; rw [hr]; rfl⟩

set_option maxRecDepth 100000 in
set_option maxHeartbeats 2000000 in
theorem cap_walk (a b k d : Int) (w : World) (hN : Nam w) (ha : U a) (hb : U b) (hk : 0 ≤ k ∧ k ≤ 255) (hd : 0 ≤ d ∧ d ≤ 255) :
    Calls Tryd.prog 5 #[.int .u64 a, .int .u64 b, .int .u8 k, .int .u8 d] w fun r w' => r = .returned (.bool true) ∧ Below w.heap.size w w' := by
  have e1 : k.tmod 64 = k % 64 := Int.tmod_eq_emod_of_nonneg hk.1
  have e2 : IntKind.u8.wrap (k % 64) = k % 64 := IntWalk.u8_in _ (by omega)
  have e3 : IntKind.u64.wrap (k % 64) = k % 64 := IntWalk.u64_in _ (by omega)
  have e4 : k.tdiv 4 = k / 4 := Int.tdiv_eq_ediv_of_nonneg hk.1
  have e5 : IntKind.u8.wrap (k / 4) = k / 4 := IntWalk.u8_in _ (by omega)
  have e6 : IntKind.u64.wrap (k / 4) = k / 4 := IntWalk.u64_in _ (by omega)
  have e7 : d.tmod 3 = d % 3 := Int.tmod_eq_emod_of_nonneg hd.1
  have e8 : IntKind.u8.wrap (d % 3) = d % 3 := IntWalk.u8_in _ (by omega)
  have e9 : IntKind.u8.wrap (1 + d % 3) = 1 + d % 3 := IntWalk.u8_in _ (by omega)
  have hs1 : (0 : Int) ≤ k % 64 := by omega
  have hs2 : (0 : Int) ≤ k / 4 := by omega
  obtain ⟨E, hE⟩ : ∃ E, a / 2 ^ (k % 64).toNat = E := ⟨_, rfl⟩
  obtain ⟨B, hB⟩ : ∃ B, b / 2 ^ min (k / 4).toNat 64 = B := ⟨_, rfl⟩
  have uE : U E := by
    rw [← hE]; unfold U at *
    exact ⟨Int.ediv_nonneg ha.1 (Int.le_of_lt (Int.pow_pos (by omega))), Int.le_trans (Int.ediv_le_self _ ha.1) ha.2⟩
  have uB : U B := by
    rw [← hB]; unfold U at *
    exact ⟨Int.ediv_nonneg hb.1 (Int.le_of_lt (Int.pow_pos (by omega))), Int.le_trans (Int.ediv_le_self _ hb.1) hb.2⟩
  obtain ⟨c, hc⟩ : ∃ c, c = 1 + d % 3 := ⟨_, rfl⟩
  have CC := cap_cases E B (1 + d % 3) uE uB (by omega)
  have KN := Lib.hid (fun W (h : Nam W) => known_any W h)
  have C1 := Lib.hid (fun W => right_any ⟨#[]⟩ E B (1 + d % 3) W (by decide) uE uB)
  have C2 := Lib.hid (fun W => cap_any ⟨#[]⟩ E B (1 + d % 3) W (by decide) uE uB)
  have C3 := Lib.hid (fun W => ref_mul E B W uE uB)
  have HN := Lib.hid hN
  clear hN ha hb hk hd uE uB hc
  generalize ruE ⟨#[]⟩ E B (1 + d % 3) = R at *
  generalize caI ⟨#[]⟩ E B (1 + d % 3) = K at *
  generalize sat (E * B) = P at *
  rcases CC with ⟨rfl, rfl, rfl, rfl⟩ | ⟨h1, rfl, rfl, rfl, rfl⟩ | ⟨h1, h2, h3, rfl, rfl⟩ | ⟨h1, h2, h3, h4, rfl, rfl⟩
  · go_enter Tryd.func5, Tryd.ntmps5
    go_wp2_with (first
      | (go_at_call 23; ((with_reducible refine (C3.out _).mono ?_); rintro r w2 ⟨rfl, rfl⟩))
      | (go_at_call 24; ((with_reducible refine (C2.out _).mono ?_); rintro r w2 ⟨rfl, g1⟩; have kW := kbq ((Below.refl _ w).alloc (Nat.le_refl _) _) g1.2; replace HN := Lib.hid (HN.out.below kW); have b0 : w2.cell? ⟨w.heap.size, 0, none⟩ = some (.string ⟨#[]⟩) := g1.cell (by simp); have b1 : w2.cell? ⟨w.heap.size, 1, none⟩ = some (.int .u64 0) := g1.cell (by simp); have b2 : w2.cell? ⟨w.heap.size, 2, none⟩ = some (.int .u64 B) := g1.cell (by simp); have b3 : w2.cell? ⟨w.heap.size, 3, none⟩ = some (.int .u8 (1 + d % 3)) := g1.cell (by simp); clear g1))
      | (go_at_call 9; ((with_reducible refine (KN.out _ HN.out).mono ?_); rintro r w2 ⟨rfl, g⟩; replace b0 := celln g b0; replace b1 := celln g b1; replace b2 := celln g b2; replace b3 := celln g b3; replace kW := kbq kW g; replace HN := Lib.hid (HN.out.below g); clear g))
      | (go_at_call 21; ((with_reducible refine (C1.out _).mono ?_); rintro r w2 ⟨rfl, g⟩; replace g := g.2; replace b0 := celln g b0; replace b1 := celln g b1; replace b2 := celln g b2; replace b3 := celln g b3; replace kW := kbq kW g; replace HN := Lib.hid (HN.out.below g); clear g)))
    go_ret
    exact ⟨rfl, kW⟩
  · have q1 : (E == 0) = false := by simp; omega
    go_enter Tryd.func5, Tryd.ntmps5
    go_wp2_with (first
      | (go_at_call 23; ((with_reducible refine (C3.out _).mono ?_); rintro r w2 ⟨rfl, rfl⟩))
      | (go_at_call 24; ((with_reducible refine (C2.out _).mono ?_); rintro r w2 ⟨rfl, g1⟩; have kW := kbq ((Below.refl _ w).alloc (Nat.le_refl _) _) g1.2; replace HN := Lib.hid (HN.out.below kW); have b0 : w2.cell? ⟨w.heap.size, 0, none⟩ = some (.string ⟨#[]⟩) := g1.cell (by simp); have b1 : w2.cell? ⟨w.heap.size, 1, none⟩ = some (.int .u64 E) := g1.cell (by simp); have b2 : w2.cell? ⟨w.heap.size, 2, none⟩ = some (.int .u64 0) := g1.cell (by simp); have b3 : w2.cell? ⟨w.heap.size, 3, none⟩ = some (.int .u8 (1 + d % 3)) := g1.cell (by simp); clear g1))
      | (go_at_call 9; ((with_reducible refine (KN.out _ HN.out).mono ?_); rintro r w2 ⟨rfl, g⟩; replace b0 := celln g b0; replace b1 := celln g b1; replace b2 := celln g b2; replace b3 := celln g b3; replace kW := kbq kW g; replace HN := Lib.hid (HN.out.below g); clear g))
      | (go_at_call 21; ((with_reducible refine (C1.out _).mono ?_); rintro r w2 ⟨rfl, g⟩; replace g := g.2; replace b0 := celln g b0; replace b1 := celln g b1; replace b2 := celln g b2; replace b3 := celln g b3; replace kW := kbq kW g; replace HN := Lib.hid (HN.out.below g); clear g)))
    go_ret
    exact ⟨rfl, kW⟩
  · have q1 : (E == 0) = false := by simp; omega
    have q3 : (0 : Int) < P := by omega
    go_enter Tryd.func5, Tryd.ntmps5
    go_wp2_with (first
      | (go_at_call 23; ((with_reducible refine (C3.out _).mono ?_); rintro r w2 ⟨rfl, rfl⟩))
      | (go_at_call 24; ((with_reducible refine (C2.out _).mono ?_); rintro r w2 ⟨rfl, g1⟩; have kW := kbq ((Below.refl _ w).alloc (Nat.le_refl _) _) g1.2; replace HN := Lib.hid (HN.out.below kW); have b0 : w2.cell? ⟨w.heap.size, 0, none⟩ = some (.string ⟨#[]⟩) := g1.cell (by simp); have b1 : w2.cell? ⟨w.heap.size, 1, none⟩ = some (.int .u64 E) := g1.cell (by simp); have b2 : w2.cell? ⟨w.heap.size, 2, none⟩ = some (.int .u64 B) := g1.cell (by simp); have b3 : w2.cell? ⟨w.heap.size, 3, none⟩ = some (.int .u8 (1 + d % 3)) := g1.cell (by simp); clear g1))
      | (go_at_call 9; ((with_reducible refine (KN.out _ HN.out).mono ?_); rintro r w2 ⟨rfl, g⟩; replace b0 := celln g b0; replace b1 := celln g b1; replace b2 := celln g b2; replace b3 := celln g b3; replace kW := kbq kW g; replace HN := Lib.hid (HN.out.below g); clear g))
      | (go_at_call 21; ((with_reducible refine (C1.out _).mono ?_); rintro r w2 ⟨rfl, g⟩; replace g := g.2; replace b0 := celln g b0; replace b1 := celln g b1; replace b2 := celln g b2; replace b3 := celln g b3; replace kW := kbq kW g; replace HN := Lib.hid (HN.out.below g); clear g)))
    go_ret
    exact ⟨rfl, kW⟩
  · have q1 : (E == 0) = false := by simp; omega
    go_enter Tryd.func5, Tryd.ntmps5
    go_wp2_with (first
      | (go_at_call 23; ((with_reducible refine (C3.out _).mono ?_); rintro r w2 ⟨rfl, rfl⟩))
      | (go_at_call 24; ((with_reducible refine (C2.out _).mono ?_); rintro r w2 ⟨rfl, g1⟩; have kW := kbq ((Below.refl _ w).alloc (Nat.le_refl _) _) g1.2; replace HN := Lib.hid (HN.out.below kW); have b0 : w2.cell? ⟨w.heap.size, 0, none⟩ = some (.string ⟨#[]⟩) := g1.cell (by simp); have b1 : w2.cell? ⟨w.heap.size, 1, none⟩ = some (.int .u64 E) := g1.cell (by simp); have b2 : w2.cell? ⟨w.heap.size, 2, none⟩ = some (.int .u64 B) := g1.cell (by simp); have b3 : w2.cell? ⟨w.heap.size, 3, none⟩ = some (.int .u8 (1 + d % 3)) := g1.cell (by simp); clear g1))
      | (go_at_call 9; ((with_reducible refine (KN.out _ HN.out).mono ?_); rintro r w2 ⟨rfl, g⟩; replace b0 := celln g b0; replace b1 := celln g b1; replace b2 := celln g b2; replace b3 := celln g b3; replace kW := kbq kW g; replace HN := Lib.hid (HN.out.below g); clear g))
      | (go_at_call 21; ((with_reducible refine (C1.out _).mono ?_); rintro r w2 ⟨rfl, g⟩; replace g := g.2; replace b0 := celln g b0; replace b1 := celln g b1; replace b2 := celln g b2; replace b3 := celln g b3; replace kW := kbq kW g; replace HN := Lib.hid (HN.out.below g); clear g)))
    go_ret
    exact ⟨rfl, kW⟩
end Go.Proofs.YtpkpmbigljkneaaDoor.Wd
