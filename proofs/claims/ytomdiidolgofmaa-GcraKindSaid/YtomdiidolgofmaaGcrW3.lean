/- The law GcraKind answers true, for any state and any numbers; no conditions. -/
import Derived.Test.YtomdiidolgofmaaGcrW1
namespace Go.Proofs.Ytomdiidolgofmaa.Wd
open Go.RowKit
set_option linter.unusedVariables false

theorem kind_core (k0 a0 b0 k bb now most v f xk xa xb yk ya yb : Int) (p : Bool) (w : World)
    (hx : p = true → xk = yk ∧ xa = ya ∧ xb = yb) (hy : p = false → xk = k0 ∧ xa = a0 ∧ xb = b0 ∧ yk = k ∧ ya = a0 ∧ yb = bb)
    (D1 : Hid (∀ w, Calls Try.prog 13 #[sta k0 a0 b0, .int .u64 now, .int .u64 most, .int .u64 v] w fun e w' => e = .returned (.tuple #[sta xk xa xb, .bool p]) ∧ Kept w w'))
    (D2 : Hid (∀ w, Calls Try.prog 13 #[sta k a0 bb, .int .u64 now, .int .u64 most, .int .u64 v] w fun e w' => e = .returned (.tuple #[sta yk ya yb, .bool p]) ∧ Kept w w'))
    (F1 : Hid (∀ kk b2 w, Calls Try.prog 12 #[sta kk a0 b2, .int .u64 now, .int .u64 most] w fun e w' => e = .returned (.int .u64 f) ∧ Kept w w')) :
    Calls Try.prog 7 #[sta k0 a0 b0, .int .u8 k, .int .u64 bb, .int .u64 now, .int .u64 most, .int .u64 v] w fun e w' => e = .returned (.bool true) ∧ Kept w w' := by
  have HX := Lib.hid hx
  have HY := Lib.hid hy
  clear hx hy
  go_enter Try.func7, Try.ntmps7
  go_wp2_with fail
  refine (D1.out _).mono ?_
  rintro e w1 ⟨rfl, g1⟩
  obtain ⟨hc1, hf1⟩ := g1.reads
  have hz1 : w.heap.size < w1.heap.size ∧ w.heap.size + 1 < w1.heap.size := by (have := g1.size; simp at this; omega)
  go_wp2_with fail
  refine (D2.out _).mono ?_
  rintro e w2 ⟨rfl, g2⟩
  go_wp2_with fail
  clear hc1 hf1
  have k2 : Kept w w2 := ((((Kept.refl w).alloc _ _).alloc _ _).trans g1 |>.alloc _ _).trans g2
  have a0' : w2.cell? ⟨w.heap.size, 0, none⟩ = some (.int .u8 k0) := g2.cell (((Kept.refl w1).alloc _ _).cell (g1.cell (by simp)))
  have a1 : w2.cell? ⟨w.heap.size, 1, none⟩ = some (.int .u64 a0) := g2.cell (((Kept.refl w1).alloc _ _).cell (g1.cell (by simp)))
  have a2 : w2.cell? ⟨w.heap.size, 2, none⟩ = some (.int .u64 b0) := g2.cell (((Kept.refl w1).alloc _ _).cell (g1.cell (by simp)))
  have t0 : w2.cell? ⟨w.heap.size + 1, 0, none⟩ = some (.int .u8 k) := g2.cell (((Kept.refl w1).alloc _ _).cell (g1.cell (by simp)))
  have t1 : w2.cell? ⟨w.heap.size + 1, 1, none⟩ = some (.int .u64 a0) := g2.cell (((Kept.refl w1).alloc _ _).cell (g1.cell (by simp)))
  have t2 : w2.cell? ⟨w.heap.size + 1, 2, none⟩ = some (.int .u64 bb) := g2.cell (((Kept.refl w1).alloc _ _).cell (g1.cell (by simp)))
  have b0' : w2.cell? ⟨w1.heap.size, 0, none⟩ = some (.int .u8 xk) := g2.cell (by simp)
  have b1 : w2.cell? ⟨w1.heap.size, 1, none⟩ = some (.int .u64 xa) := g2.cell (by simp)
  have b2 : w2.cell? ⟨w1.heap.size, 2, none⟩ = some (.int .u64 xb) := g2.cell (by simp)
  clear g1 g2
  generalize hW : World.alloc _ _ = W
  have gW : Kept w2 W := by rw [← hW]; exact (Kept.refl _).alloc _ _
  have kW := k2.trans gW
  have c0 : W.cell? ⟨w2.heap.size, 0, none⟩ = some (.int .u8 yk) := by rw [← hW]; simp
  have c1 : W.cell? ⟨w2.heap.size, 1, none⟩ = some (.int .u64 ya) := by rw [← hW]; simp
  have c2 : W.cell? ⟨w2.heap.size, 2, none⟩ = some (.int .u64 yb) := by rw [← hW]; simp
  replace a0' := gW.cell a0'
  replace a1 := gW.cell a1
  replace a2 := gW.cell a2
  replace t0 := gW.cell t0
  replace t1 := gW.cell t1
  replace t2 := gW.cell t2
  replace b0' := gW.cell b0'
  replace b1 := gW.cell b1
  replace b2 := gW.cell b2
  clear hW gW k2
  go_region_held3 (fun w' => Kept w w' ∧ w'.cell? ⟨w.heap.size, 0, none⟩ = some (.int .u8 k0) ∧ w'.cell? ⟨w.heap.size, 1, none⟩ = some (.int .u64 a0) ∧ w'.cell? ⟨w.heap.size, 2, none⟩ = some (.int .u64 b0)
    ∧ w'.cell? ⟨w.heap.size + 1, 0, none⟩ = some (.int .u8 k) ∧ w'.cell? ⟨w.heap.size + 1, 1, none⟩ = some (.int .u64 a0) ∧ w'.cell? ⟨w.heap.size + 1, 2, none⟩ = some (.int .u64 bb)
    ∧ w'.cell? ⟨w1.heap.size, 0, none⟩ = some (.int .u8 xk) ∧ w'.cell? ⟨w1.heap.size, 1, none⟩ = some (.int .u64 xa) ∧ w'.cell? ⟨w1.heap.size, 2, none⟩ = some (.int .u64 xb)
    ∧ w'.cell? ⟨w2.heap.size, 0, none⟩ = some (.int .u8 yk) ∧ w'.cell? ⟨w2.heap.size, 1, none⟩ = some (.int .u64 ya) ∧ w'.cell? ⟨w2.heap.size, 2, none⟩ = some (.int .u64 yb))
    (first | exact ⟨kW, a0', a1, a2, t0, t1, t2, b0', b1, b2, c0, c1, c2⟩ | exact ⟨kW.drew, a0', a1, a2, t0, t1, t2, b0', b1, b2, c0, c1, c2⟩)
    (first
    | (go_at_call 12; ((with_reducible refine (F1.out _ _ _).mono ?_); rintro e w' ⟨rfl, g⟩; (first | replace kW := kW.trans g | replace kW := kW.drew.trans g); replace a0' := g.cell a0'; replace a1 := g.cell a1; replace a2 := g.cell a2; replace t0 := g.cell t0; replace t1 := g.cell t1; replace t2 := g.cell t2; replace b0' := g.cell b0'; replace b1 := g.cell b1; replace b2 := g.cell b2; replace c0 := g.cell c0; replace c1 := g.cell c1; replace c2 := g.cell c2; clear g)))
  rename_i hH
  obtain ⟨kF, e0, e1, e2, i0, i1, i2, l0, l1, l2, m0, m1, m2⟩ := hH
  clear a0' a1 a2 t0 t1 t2 b0' b1 b2 c0 c1 c2 kW
  cases p
  · obtain ⟨rfl, rfl, rfl, rfl, rfl, rfl⟩ := HY.out rfl
    go_wp2_with (go_at_call 9; ((with_reducible refine (known_any _).mono ?_); rintro e w3 ⟨rfl, g3⟩; replace e0 := g3.cell e0; replace e1 := g3.cell e1; replace e2 := g3.cell e2; replace i0 := g3.cell i0; replace i1 := g3.cell i1; replace i2 := g3.cell i2; replace l0 := g3.cell l0; replace l1 := g3.cell l1; replace l2 := g3.cell l2; replace m0 := g3.cell m0; replace m1 := g3.cell m1; replace m2 := g3.cell m2))
    go_ret
    exact ⟨rfl, kF.trans g3⟩
  · obtain ⟨rfl, rfl, rfl⟩ := HX.out rfl
    go_wp2_with (go_at_call 9; ((with_reducible refine (known_any _).mono ?_); rintro e w3 ⟨rfl, g3⟩; replace e0 := g3.cell e0; replace e1 := g3.cell e1; replace e2 := g3.cell e2; replace i0 := g3.cell i0; replace i1 := g3.cell i1; replace i2 := g3.cell i2; replace l0 := g3.cell l0; replace l1 := g3.cell l1; replace l2 := g3.cell l2; replace m0 := g3.cell m0; replace m1 := g3.cell m1; replace m2 := g3.cell m2))
    go_ret
    exact ⟨rfl, kF.trans g3⟩

theorem gcraKind_walk (k0 a0 b0 k bb now most v : Int) (w : World) (h1 : U a0) (h2 : U b0) (h6 : 0 ≤ k ∧ k ≤ 255) (h7 : U bb) (h3 : U now) (h4 : U most) (h5 : U v) :
    Calls Try.prog 7 #[sta k0 a0 b0, .int .u8 k, .int .u64 bb, .int .u64 now, .int .u64 most, .int .u64 v] w fun e w' => e = .returned (.bool true) ∧ Kept w w' := by
  refine kind_core k0 a0 b0 k bb now most v (sbI a0 now) _ _ _ _ _ _ (gdB a0 now most v) w ?_ ?_ (Lib.hid fun w => gdecide_any k0 a0 b0 now most v w h1 h2 h3 h4 h5) (Lib.hid fun w => gdecide_any k a0 bb now most v w h1 h7 h3 h4 h5)
    (Lib.hid fun kk b2 w => gfill_any kk a0 b2 now most w h1 h3)
  · intro h; unfold gdK gdT; rw [h]; exact ⟨rfl, rfl, rfl⟩
  · intro h; unfold gdK gdA gdT; rw [h]; exact ⟨rfl, rfl, rfl, rfl, rfl, rfl⟩
end Go.Proofs.Ytomdiidolgofmaa.Wd
