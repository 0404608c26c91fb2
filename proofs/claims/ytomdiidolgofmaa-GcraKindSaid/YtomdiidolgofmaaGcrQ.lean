/- asks of chapter 6 answers true, for any states and numbers of 64 bits. -/
import Derived.Test.YtomdiidolgofmaaGcrR
namespace Go.Proofs.Ytomdiidolgofmaa.Wd
open Go.RowKit

theorem asks_core (k a b now cap v f o dk da dt : Int) (p : Bool) (w : World)
    (D1 : Hid (∀ w, Calls Try.prog 13 #[sta k a b, .int .u64 now, .int .u64 cap, .int .u64 v] w fun e w' => e = .returned (.tuple #[sta dk da dt, .bool p]) ∧ Kept w w'))
    (D2 : Hid (∀ w, Calls Try.prog 14 #[sta k a b, .int .u64 now, .int .u64 cap, .int .u64 v] w fun e w' => e = .returned (.tuple #[sta dk da dt, .bool p]) ∧ Kept w w'))
    (F1 : Hid (∀ w, Calls Try.prog 12 #[sta k a b, .int .u64 now, .int .u64 cap] w fun e w' => e = .returned (.int .u64 f) ∧ Kept w w'))
    (F2 : Hid (∀ w, Calls Try.prog 15 #[sta k a b, .int .u64 now] w fun e w' => e = .returned (.int .u64 f) ∧ Kept w w'))
    (O1 : Hid (∀ w, Calls Try.prog 11 #[.int .u64 now, .int .u64 cap, .int .u64 v] w fun e w' => e = .returned (sta 1 o 0) ∧ Kept w w'))
    (O2 : Hid (∀ w, Calls Try.prog 16 #[.int .u64 now, .int .u64 v] w fun e w' => e = .returned (sta 1 o 0) ∧ Kept w w')) :
    Calls Try.prog 10 #[sta k a b, .int .u64 now, .int .u64 cap, .int .u64 v] w fun e w' => e = .returned (.bool true) ∧ Kept w w' := by
  go_enter Try.func10, Try.ntmps10
  go_wp2_with (first
    | (go_at_call 13; ((with_reducible refine (D1.out _).mono ?_); rintro e w1 ⟨rfl, g1⟩; obtain ⟨hc1, hf1⟩ := g1.reads; have hz1 : w.heap.size < w1.heap.size := by (have := g1.size; simp at this; omega)))
    | (go_at_call 14; ((with_reducible refine (D2.out _).mono ?_); rintro e w2 ⟨rfl, g2⟩)))
  clear hc1 hf1
  have k2 : Kept w w2 := (((Kept.refl w).alloc _ _).trans g1 |>.alloc _ _).trans g2
  have z2 : w1.heap.size < w2.heap.size := by (have := g2.size; simp at this; omega)
  have a0 : w2.cell? ⟨w.heap.size, 0, none⟩ = some (.int .u8 k) := g2.cell (((Kept.refl w1).alloc _ _).cell (g1.cell (by simp)))
  have a1 : w2.cell? ⟨w.heap.size, 1, none⟩ = some (.int .u64 a) := g2.cell (((Kept.refl w1).alloc _ _).cell (g1.cell (by simp)))
  have a2 : w2.cell? ⟨w.heap.size, 2, none⟩ = some (.int .u64 b) := g2.cell (((Kept.refl w1).alloc _ _).cell (g1.cell (by simp)))
  have b0 : w2.cell? ⟨w1.heap.size, 0, none⟩ = some (.int .u8 dk) := g2.cell (by simp)
  have b1 : w2.cell? ⟨w1.heap.size, 1, none⟩ = some (.int .u64 da) := g2.cell (by simp)
  have b2 : w2.cell? ⟨w1.heap.size, 2, none⟩ = some (.int .u64 dt) := g2.cell (by simp)
  clear g1 g2
  generalize hW : World.alloc _ _ = W
  have gW : Kept w2 W := by rw [← hW]; exact (Kept.refl _).alloc _ _
  have kW := k2.trans gW
  have c0 : W.cell? ⟨w2.heap.size, 0, none⟩ = some (.int .u8 dk) := by rw [← hW]; simp
  have c1 : W.cell? ⟨w2.heap.size, 1, none⟩ = some (.int .u64 da) := by rw [← hW]; simp
  have c2 : W.cell? ⟨w2.heap.size, 2, none⟩ = some (.int .u64 dt) := by rw [← hW]; simp
  replace a0 := gW.cell a0
  replace a1 := gW.cell a1
  replace a2 := gW.cell a2
  replace b0 := gW.cell b0
  replace b1 := gW.cell b1
  replace b2 := gW.cell b2
  clear hW gW k2
  go_region_held3 (fun w' => Kept w w' ∧ w'.cell? ⟨w.heap.size, 0, none⟩ = some (.int .u8 k) ∧ w'.cell? ⟨w.heap.size, 1, none⟩ = some (.int .u64 a) ∧ w'.cell? ⟨w.heap.size, 2, none⟩ = some (.int .u64 b)
    ∧ w'.cell? ⟨w1.heap.size, 0, none⟩ = some (.int .u8 dk) ∧ w'.cell? ⟨w1.heap.size, 1, none⟩ = some (.int .u64 da) ∧ w'.cell? ⟨w1.heap.size, 2, none⟩ = some (.int .u64 dt)
    ∧ w'.cell? ⟨w2.heap.size, 0, none⟩ = some (.int .u8 dk) ∧ w'.cell? ⟨w2.heap.size, 1, none⟩ = some (.int .u64 da) ∧ w'.cell? ⟨w2.heap.size, 2, none⟩ = some (.int .u64 dt))
    (first | exact ⟨kW, a0, a1, a2, b0, b1, b2, c0, c1, c2⟩ | exact ⟨kW.drew, a0, a1, a2, b0, b1, b2, c0, c1, c2⟩)
    (first
    | (go_at_call 12; ((with_reducible refine (F1.out _).mono ?_); rintro e w' ⟨rfl, g⟩; replace kW := kW.drew.trans g; replace a0 := g.cell a0; replace a1 := g.cell a1; replace a2 := g.cell a2; replace b0 := g.cell b0; replace b1 := g.cell b1; replace b2 := g.cell b2; replace c0 := g.cell c0; replace c1 := g.cell c1; replace c2 := g.cell c2; clear g))
    | (go_at_call 15; ((with_reducible refine (F2.out _).mono ?_); rintro e w' ⟨rfl, g⟩; replace kW := kW.trans g; replace a0 := g.cell a0; replace a1 := g.cell a1; replace a2 := g.cell a2; replace b0 := g.cell b0; replace b1 := g.cell b1; replace b2 := g.cell b2; replace c0 := g.cell c0; replace c1 := g.cell c1; replace c2 := g.cell c2; clear g))
    | (go_at_call 11; ((with_reducible refine (O1.out _).mono ?_); rintro e w' ⟨rfl, g⟩; replace kW := kW.trans g; replace a0 := g.cell a0; replace a1 := g.cell a1; replace a2 := g.cell a2; replace b0 := g.cell b0; replace b1 := g.cell b1; replace b2 := g.cell b2; replace c0 := g.cell c0; replace c1 := g.cell c1; replace c2 := g.cell c2; clear g))
    | (go_at_call 16; ((with_reducible refine (O2.out _).mono ?_); rintro e w' ⟨rfl, g⟩; replace kW := kW.trans g; replace a0 := g.cell a0; replace a1 := g.cell a1; replace a2 := g.cell a2; replace b0 := g.cell b0; replace b1 := g.cell b1; replace b2 := g.cell b2; replace c0 := g.cell c0; replace c1 := g.cell c1; replace c2 := g.cell c2; clear g)))
  rename_i hH
  have gF := hH.1
  clear hH
  go_wp2
  go_ret
  exact ⟨rfl, gF⟩

theorem asks_any (k a b now cap v : Int) (w : World) (ha : U a) (hb : U b) (hn : U now) (hc : U cap) (hv : U v) :
    Calls Try.prog 10 #[sta k a b, .int .u64 now, .int .u64 cap, .int .u64 v] w fun e w' => e = .returned (.bool true) ∧ Kept w w' :=
  asks_core k a b now cap v (sbI a now) (sat (now + v)) (gdK k a now cap v) (gdA a now cap v) (gdT a b now cap v) (gdB a now cap v) w
    (Lib.hid fun w => gdecide_any k a b now cap v w ha hb hn hc hv) (Lib.hid fun w => rdecide_any k a b now cap v w ha hb hn hc hv)
    (Lib.hid fun w => gfill_any k a b now cap w ha hn) (Lib.hid fun w => rfill_any k a b now w ha hn)
    (Lib.hid fun w => gof_any now cap v w hn hv) (Lib.hid fun w => rof_any now v w hn hv)
end Go.Proofs.Ytomdiidolgofmaa.Wd
