/- What kernel's Decide answers, for any states and numbers of 64 bits; no conditions. -/
import Derived.Test.YtodmjnbepfkibaaKerA
namespace Go.Proofs.Ytodmjnbepfkibaa.Wd
open Go.RowKit
set_option linter.unusedVariables false

/-- Three cells of one block, that may be written. -/
def Row3 (w : World) (B : Nat) (x y z : Value) : Prop := (w.cell? ⟨B, 0, none⟩ = some x ∧ w.cell? ⟨B, 1, none⟩ = some y ∧ w.cell? ⟨B, 2, none⟩ = some z) ∧ w.frozen? ⟨B, 0, none⟩ = false ∧ w.frozen? ⟨B, 1, none⟩ = false ∧ w.frozen? ⟨B, 2, none⟩ = false
theorem Row3.kept {w w' : World} {B : Nat} {x y z : Value} (h : Row3 w B x y z) (g : Kept w w') : Row3 w' B x y z :=
  ⟨⟨g.cell h.1.1, g.cell h.1.2.1, g.cell h.1.2.2⟩, (g.1.2.1 _).trans h.2.1, (g.1.2.1 _).trans h.2.2.1, (g.1.2.1 _).trans h.2.2.2⟩
theorem Row3.set3 {w : World} {B C : Nat} {x y z : Value} (h : Row3 w B x y z) (hb : B ≠ C) (a b c : Value) : Row3 (((w.setCell ⟨C, 0, none⟩ a).setCell ⟨C, 1, none⟩ b).setCell ⟨C, 2, none⟩ c) B x y z :=
  ⟨⟨cell_set3 hb h.1.1 _ _ _, cell_set3 hb h.1.2.1 _ _ _, cell_set3 hb h.1.2.2 _ _ _⟩, by simp only [World.frozen?_setCell]; exact h.2.1, by simp only [World.frozen?_setCell]; exact h.2.2.1, by simp only [World.frozen?_setCell]; exact h.2.2.2⟩

theorem kdecide_no (k a b now cap v : Int) (w : World) (hk : isK k = false) :
    Calls Try.prog 16 #[sta k a b, .int .u64 now, .int .u64 cap, .int .u64 v] w fun e w' => e = .returned (.tuple #[sta k a b, .bool false]) ∧ Kept w w' := by
  have e0 := kerV_no k hk
  go_enter Try.func16, Try.ntmps16
  go_wp2
  have kW : Kept w ((w.alloc (.cells #[.int .u8 k, .int .u64 a, .int .u64 b] 24)).alloc (.cells #[.int .u8 0, .int .u64 0, .int .u64 0] 24)) := ((Kept.refl w).alloc _ _).alloc _ _
  have c0 : ((w.alloc (.cells #[.int .u8 k, .int .u64 a, .int .u64 b] 24)).alloc (.cells #[.int .u8 0, .int .u64 0, .int .u64 0] 24)).cell? ⟨w.heap.size, 0, none⟩ = some (.int .u8 k) := by simp
  have s0 : Row3 ((w.alloc (.cells #[.int .u8 k, .int .u64 a, .int .u64 b] 24)).alloc (.cells #[.int .u8 0, .int .u64 0, .int .u64 0] 24)) w.heap.size (.int .u8 k) (.int .u64 a) (.int .u64 b) := ⟨⟨by simp, by simp, by simp⟩, by simp, by simp, by simp⟩
  have t0 : Row3 ((w.alloc (.cells #[.int .u8 k, .int .u64 a, .int .u64 b] 24)).alloc (.cells #[.int .u8 0, .int .u64 0, .int .u64 0] 24)) (w.heap.size + 1) (.int .u8 0) (.int .u64 0) (.int .u64 0) := ⟨⟨by simp, by simp, by simp⟩, by simp, by simp, by simp⟩
  have hzW : w.heap.size + 1 < ((w.alloc (.cells #[.int .u8 k, .int .u64 a, .int .u64 b] 24)).alloc (.cells #[.int .u8 0, .int .u64 0, .int .u64 0] 24)).heap.size := by simp
  generalize hW : World.alloc (World.alloc _ _) _ = W at *
  clear hW
  have hzW1 : w.heap.size ≤ W.heap.size := by omega
  have hzW2 : w.heap.size ≠ W.heap.size := by omega
  have hzW3 : w.heap.size + 1 ≠ W.heap.size := by omega
  go_region_held3 (fun w' => Kept w w' ∧ w'.cell? ⟨w.heap.size, 0, none⟩ = some (.int .u8 k) ∧ Row3 w' w.heap.size (.int .u8 k) (.int .u64 a) (.int .u64 b) ∧ Row3 w' (w.heap.size + 1) (.int .u8 0) (.int .u64 0) (.int .u64 0))
    (first | with_reducible exact ⟨kW, c0, s0, t0⟩ | with_reducible exact ⟨kW.drew, (Kept.refl _).drew.cell c0, s0.kept (Kept.refl _).drew, t0.kept (Kept.refl _).drew⟩ | with_reducible exact ⟨kW.alloc _ _, ((Kept.refl _).alloc _ _).cell c0, s0.kept ((Kept.refl _).alloc _ _), t0.kept ((Kept.refl _).alloc _ _)⟩ | with_reducible exact ⟨(kW.alloc _ _).drew, ((Kept.refl _).alloc _ _).drew.cell c0, s0.kept ((Kept.refl _).alloc _ _).drew, t0.kept ((Kept.refl _).alloc _ _).drew⟩ | with_reducible exact ⟨kW.set3 hzW1 _ _ _, cell_set3 hzW2 c0 _ _ _, s0.set3 hzW2 _ _ _, t0.set3 hzW3 _ _ _⟩)
    (first
    | (go_at_call 29; ((with_reducible refine (kernels_new _).mono ?_); rintro e w1 ⟨p, rfl, g, hl⟩; have hl1 (c : Array Value) (t : TypeId) := hl k _ ((Kept.refl _).alloc c t); replace hl := hl k _ (Kept.refl _); rw [e0, hk] at hl; simp only [e0, hk] at hl1; obtain ⟨hc1, hf1⟩ := g.reads; (first | (with_reducible (replace kW := kW.trans g); replace c0 := g.cell c0; replace s0 := s0.kept g; replace t0 := t0.kept g) | (with_reducible (replace kW := kW.drew.trans g); replace c0 := g.cell ((Kept.refl _).drew.cell c0); replace s0 := s0.kept ((Kept.refl _).drew.trans g); replace t0 := t0.kept ((Kept.refl _).drew.trans g)) | (have hz : W.heap.size < w1.heap.size := (by (have := g.size; simp at this; omega)); with_reducible (replace kW := (kW.alloc _ _).drew.trans g); replace c0 := g.cell (((Kept.refl _).alloc _ _).drew.cell c0); replace s0 := s0.kept (((Kept.refl _).alloc _ _).drew.trans g); replace t0 := t0.kept (((Kept.refl _).alloc _ _).drew.trans g))); clear g)))
  all_goals
    rename_i hH
    obtain ⟨hH, d0, s1, t1⟩ := hH
    obtain ⟨⟨a0, a1, a2⟩, b0, b1, b2⟩ := s1
    obtain ⟨⟨x0, x1, x2⟩, y0, y1, y2⟩ := t1
    go_wp2
    exact bodyPost_ret (v := .tuple #[sta k a b, .bool false]) (by simp [results, Try.results16, go_sem, *]) rfl
      ⟨rfl, hH.set3 (Nat.le_succ _) _ _ _⟩

theorem kdecide_core1 (a b now cap v dk da dt : Int) (pp : Bool) (w : World)
    (C : Hid (∀ w, Calls Try.prog 50 #[sta 1 a b, .int .u64 now, .int .u64 cap, .int .u64 v] w fun e w' => e = .returned (.tuple #[sta dk da dt, .bool pp]) ∧ Kept w w')) :
    Calls Try.prog 16 #[sta 1 a b, .int .u64 now, .int .u64 cap, .int .u64 v] w fun e w' => e = .returned (.tuple #[sta dk da dt, .bool pp]) ∧ Kept w w' := by
  have hk : isK 1 = true := rfl
  have e0 : kerV 1 = kern1 := rfl
  go_enter Try.func16, Try.ntmps16
  go_wp2
  have kW : Kept w ((w.alloc (.cells #[.int .u8 1, .int .u64 a, .int .u64 b] 24)).alloc (.cells #[.int .u8 0, .int .u64 0, .int .u64 0] 24)) := ((Kept.refl w).alloc _ _).alloc _ _
  have c0 : ((w.alloc (.cells #[.int .u8 1, .int .u64 a, .int .u64 b] 24)).alloc (.cells #[.int .u8 0, .int .u64 0, .int .u64 0] 24)).cell? ⟨w.heap.size, 0, none⟩ = some (.int .u8 1) := by simp
  have s0 : Row3 ((w.alloc (.cells #[.int .u8 1, .int .u64 a, .int .u64 b] 24)).alloc (.cells #[.int .u8 0, .int .u64 0, .int .u64 0] 24)) w.heap.size (.int .u8 1) (.int .u64 a) (.int .u64 b) := ⟨⟨by simp, by simp, by simp⟩, by simp, by simp, by simp⟩
  have t0 : Row3 ((w.alloc (.cells #[.int .u8 1, .int .u64 a, .int .u64 b] 24)).alloc (.cells #[.int .u8 0, .int .u64 0, .int .u64 0] 24)) (w.heap.size + 1) (.int .u8 0) (.int .u64 0) (.int .u64 0) := ⟨⟨by simp, by simp, by simp⟩, by simp, by simp, by simp⟩
  have hzW : w.heap.size + 1 < ((w.alloc (.cells #[.int .u8 1, .int .u64 a, .int .u64 b] 24)).alloc (.cells #[.int .u8 0, .int .u64 0, .int .u64 0] 24)).heap.size := by simp
  generalize hW : World.alloc (World.alloc _ _) _ = W at *
  clear hW
  have hzW1 : w.heap.size ≤ W.heap.size := by omega
  have hzW2 : w.heap.size ≠ W.heap.size := by omega
  have hzW3 : w.heap.size + 1 ≠ W.heap.size := by omega
  go_region_held3 (fun w' => Kept w w' ∧ w'.cell? ⟨w.heap.size, 0, none⟩ = some (.int .u8 1) ∧ Row3 w' w.heap.size (.int .u8 1) (.int .u64 a) (.int .u64 b) ∧ Row3 w' (w.heap.size + 1) (.int .u8 0) (.int .u64 0) (.int .u64 0))
    (first | with_reducible exact ⟨kW, c0, s0, t0⟩ | with_reducible exact ⟨kW.drew, (Kept.refl _).drew.cell c0, s0.kept (Kept.refl _).drew, t0.kept (Kept.refl _).drew⟩ | with_reducible exact ⟨kW.alloc _ _, ((Kept.refl _).alloc _ _).cell c0, s0.kept ((Kept.refl _).alloc _ _), t0.kept ((Kept.refl _).alloc _ _)⟩ | with_reducible exact ⟨(kW.alloc _ _).drew, ((Kept.refl _).alloc _ _).drew.cell c0, s0.kept ((Kept.refl _).alloc _ _).drew, t0.kept ((Kept.refl _).alloc _ _).drew⟩ | with_reducible exact ⟨kW.set3 hzW1 _ _ _, cell_set3 hzW2 c0 _ _ _, s0.set3 hzW2 _ _ _, t0.set3 hzW3 _ _ _⟩)
    (first
    | (go_at_call 29; ((with_reducible refine (kernels_new _).mono ?_); rintro e w1 ⟨p, rfl, g, hl⟩; have hl1 (c : Array Value) (t : TypeId) := hl 1 _ ((Kept.refl _).alloc c t); replace hl := hl 1 _ (Kept.refl _); rw [e0, hk] at hl; simp only [e0, hk] at hl1; obtain ⟨hc1, hf1⟩ := g.reads; (first | (with_reducible (replace kW := kW.trans g); replace c0 := g.cell c0; replace s0 := s0.kept g; replace t0 := t0.kept g) | (with_reducible (replace kW := kW.drew.trans g); replace c0 := g.cell ((Kept.refl _).drew.cell c0); replace s0 := s0.kept ((Kept.refl _).drew.trans g); replace t0 := t0.kept ((Kept.refl _).drew.trans g)) | (have hz : W.heap.size < w1.heap.size := (by (have := g.size; simp at this; omega)); with_reducible (replace kW := (kW.alloc _ _).drew.trans g); replace c0 := g.cell (((Kept.refl _).alloc _ _).drew.cell c0); replace s0 := s0.kept (((Kept.refl _).alloc _ _).drew.trans g); replace t0 := t0.kept (((Kept.refl _).alloc _ _).drew.trans g))); clear g)))
  all_goals
    rename_i hH
    obtain ⟨hH, d0, s1, t1⟩ := hH
    have a0 := s1.1
    obtain ⟨a0, a1, a2⟩ := a0
    go_wp2_with (go_at_call 50; ((with_reducible refine (C.out _).mono ?_); rintro e w5 ⟨rfl, g5⟩; replace t1 := t1.kept g5; obtain ⟨⟨x0, x1, x2⟩, y0, y1, y2⟩ := t1))
    exact bodyPost_ret (v := .tuple #[sta dk da dt, .bool pp]) (by simp [results, Try.results16, go_sem, *]) rfl
      ⟨rfl, (hH.trans g5).set3 (Nat.le_succ _) _ _ _⟩

theorem kdecide_core2 (a b now cap v dk da dt : Int) (pp : Bool) (w : World)
    (C : Hid (∀ w, Calls Try.prog 53 #[sta 2 a b, .int .u64 now, .int .u64 cap, .int .u64 v] w fun e w' => e = .returned (.tuple #[sta dk da dt, .bool pp]) ∧ Kept w w')) :
    Calls Try.prog 16 #[sta 2 a b, .int .u64 now, .int .u64 cap, .int .u64 v] w fun e w' => e = .returned (.tuple #[sta dk da dt, .bool pp]) ∧ Kept w w' := by
  have hk : isK 2 = true := rfl
  have e0 : kerV 2 = kern2 := rfl
  go_enter Try.func16, Try.ntmps16
  go_wp2
  have kW : Kept w ((w.alloc (.cells #[.int .u8 2, .int .u64 a, .int .u64 b] 24)).alloc (.cells #[.int .u8 0, .int .u64 0, .int .u64 0] 24)) := ((Kept.refl w).alloc _ _).alloc _ _
  have c0 : ((w.alloc (.cells #[.int .u8 2, .int .u64 a, .int .u64 b] 24)).alloc (.cells #[.int .u8 0, .int .u64 0, .int .u64 0] 24)).cell? ⟨w.heap.size, 0, none⟩ = some (.int .u8 2) := by simp
  have s0 : Row3 ((w.alloc (.cells #[.int .u8 2, .int .u64 a, .int .u64 b] 24)).alloc (.cells #[.int .u8 0, .int .u64 0, .int .u64 0] 24)) w.heap.size (.int .u8 2) (.int .u64 a) (.int .u64 b) := ⟨⟨by simp, by simp, by simp⟩, by simp, by simp, by simp⟩
  have t0 : Row3 ((w.alloc (.cells #[.int .u8 2, .int .u64 a, .int .u64 b] 24)).alloc (.cells #[.int .u8 0, .int .u64 0, .int .u64 0] 24)) (w.heap.size + 1) (.int .u8 0) (.int .u64 0) (.int .u64 0) := ⟨⟨by simp, by simp, by simp⟩, by simp, by simp, by simp⟩
  have hzW : w.heap.size + 1 < ((w.alloc (.cells #[.int .u8 2, .int .u64 a, .int .u64 b] 24)).alloc (.cells #[.int .u8 0, .int .u64 0, .int .u64 0] 24)).heap.size := by simp
  generalize hW : World.alloc (World.alloc _ _) _ = W at *
  clear hW
  have hzW1 : w.heap.size ≤ W.heap.size := by omega
  have hzW2 : w.heap.size ≠ W.heap.size := by omega
  have hzW3 : w.heap.size + 1 ≠ W.heap.size := by omega
  go_region_held3 (fun w' => Kept w w' ∧ w'.cell? ⟨w.heap.size, 0, none⟩ = some (.int .u8 2) ∧ Row3 w' w.heap.size (.int .u8 2) (.int .u64 a) (.int .u64 b) ∧ Row3 w' (w.heap.size + 1) (.int .u8 0) (.int .u64 0) (.int .u64 0))
    (first | with_reducible exact ⟨kW, c0, s0, t0⟩ | with_reducible exact ⟨kW.drew, (Kept.refl _).drew.cell c0, s0.kept (Kept.refl _).drew, t0.kept (Kept.refl _).drew⟩ | with_reducible exact ⟨kW.alloc _ _, ((Kept.refl _).alloc _ _).cell c0, s0.kept ((Kept.refl _).alloc _ _), t0.kept ((Kept.refl _).alloc _ _)⟩ | with_reducible exact ⟨(kW.alloc _ _).drew, ((Kept.refl _).alloc _ _).drew.cell c0, s0.kept ((Kept.refl _).alloc _ _).drew, t0.kept ((Kept.refl _).alloc _ _).drew⟩ | with_reducible exact ⟨kW.set3 hzW1 _ _ _, cell_set3 hzW2 c0 _ _ _, s0.set3 hzW2 _ _ _, t0.set3 hzW3 _ _ _⟩)
    (first
    | (go_at_call 29; ((with_reducible refine (kernels_new _).mono ?_); rintro e w1 ⟨p, rfl, g, hl⟩; have hl1 (c : Array Value) (t : TypeId) := hl 2 _ ((Kept.refl _).alloc c t); replace hl := hl 2 _ (Kept.refl _); rw [e0, hk] at hl; simp only [e0, hk] at hl1; obtain ⟨hc1, hf1⟩ := g.reads; (first | (with_reducible (replace kW := kW.trans g); replace c0 := g.cell c0; replace s0 := s0.kept g; replace t0 := t0.kept g) | (with_reducible (replace kW := kW.drew.trans g); replace c0 := g.cell ((Kept.refl _).drew.cell c0); replace s0 := s0.kept ((Kept.refl _).drew.trans g); replace t0 := t0.kept ((Kept.refl _).drew.trans g)) | (have hz : W.heap.size < w1.heap.size := (by (have := g.size; simp at this; omega)); with_reducible (replace kW := (kW.alloc _ _).drew.trans g); replace c0 := g.cell (((Kept.refl _).alloc _ _).drew.cell c0); replace s0 := s0.kept (((Kept.refl _).alloc _ _).drew.trans g); replace t0 := t0.kept (((Kept.refl _).alloc _ _).drew.trans g))); clear g)))
  all_goals
    rename_i hH
    obtain ⟨hH, d0, s1, t1⟩ := hH
    have a0 := s1.1
    obtain ⟨a0, a1, a2⟩ := a0
    go_wp2_with (go_at_call 53; ((with_reducible refine (C.out _).mono ?_); rintro e w5 ⟨rfl, g5⟩; replace t1 := t1.kept g5; obtain ⟨⟨x0, x1, x2⟩, y0, y1, y2⟩ := t1))
    exact bodyPost_ret (v := .tuple #[sta dk da dt, .bool pp]) (by simp [results, Try.results16, go_sem, *]) rfl
      ⟨rfl, (hH.trans g5).set3 (Nat.le_succ _) _ _ _⟩

theorem kdecide_core3 (a b now cap v dk da dt : Int) (pp : Bool) (w : World)
    (C : Hid (∀ w, Calls Try.prog 56 #[sta 3 a b, .int .u64 now, .int .u64 cap, .int .u64 v] w fun e w' => e = .returned (.tuple #[sta dk da dt, .bool pp]) ∧ Kept w w')) :
    Calls Try.prog 16 #[sta 3 a b, .int .u64 now, .int .u64 cap, .int .u64 v] w fun e w' => e = .returned (.tuple #[sta dk da dt, .bool pp]) ∧ Kept w w' := by
  have hk : isK 3 = true := rfl
  have e0 : kerV 3 = kern3 := rfl
  go_enter Try.func16, Try.ntmps16
  go_wp2
  have kW : Kept w ((w.alloc (.cells #[.int .u8 3, .int .u64 a, .int .u64 b] 24)).alloc (.cells #[.int .u8 0, .int .u64 0, .int .u64 0] 24)) := ((Kept.refl w).alloc _ _).alloc _ _
  have c0 : ((w.alloc (.cells #[.int .u8 3, .int .u64 a, .int .u64 b] 24)).alloc (.cells #[.int .u8 0, .int .u64 0, .int .u64 0] 24)).cell? ⟨w.heap.size, 0, none⟩ = some (.int .u8 3) := by simp
  have s0 : Row3 ((w.alloc (.cells #[.int .u8 3, .int .u64 a, .int .u64 b] 24)).alloc (.cells #[.int .u8 0, .int .u64 0, .int .u64 0] 24)) w.heap.size (.int .u8 3) (.int .u64 a) (.int .u64 b) := ⟨⟨by simp, by simp, by simp⟩, by simp, by simp, by simp⟩
  have t0 : Row3 ((w.alloc (.cells #[.int .u8 3, .int .u64 a, .int .u64 b] 24)).alloc (.cells #[.int .u8 0, .int .u64 0, .int .u64 0] 24)) (w.heap.size + 1) (.int .u8 0) (.int .u64 0) (.int .u64 0) := ⟨⟨by simp, by simp, by simp⟩, by simp, by simp, by simp⟩
  have hzW : w.heap.size + 1 < ((w.alloc (.cells #[.int .u8 3, .int .u64 a, .int .u64 b] 24)).alloc (.cells #[.int .u8 0, .int .u64 0, .int .u64 0] 24)).heap.size := by simp
  generalize hW : World.alloc (World.alloc _ _) _ = W at *
  clear hW
  have hzW1 : w.heap.size ≤ W.heap.size := by omega
  have hzW2 : w.heap.size ≠ W.heap.size := by omega
  have hzW3 : w.heap.size + 1 ≠ W.heap.size := by omega
  go_region_held3 (fun w' => Kept w w' ∧ w'.cell? ⟨w.heap.size, 0, none⟩ = some (.int .u8 3) ∧ Row3 w' w.heap.size (.int .u8 3) (.int .u64 a) (.int .u64 b) ∧ Row3 w' (w.heap.size + 1) (.int .u8 0) (.int .u64 0) (.int .u64 0))
    (first | with_reducible exact ⟨kW, c0, s0, t0⟩ | with_reducible exact ⟨kW.drew, (Kept.refl _).drew.cell c0, s0.kept (Kept.refl _).drew, t0.kept (Kept.refl _).drew⟩ | with_reducible exact ⟨kW.alloc _ _, ((Kept.refl _).alloc _ _).cell c0, s0.kept ((Kept.refl _).alloc _ _), t0.kept ((Kept.refl _).alloc _ _)⟩ | with_reducible exact ⟨(kW.alloc _ _).drew, ((Kept.refl _).alloc _ _).drew.cell c0, s0.kept ((Kept.refl _).alloc _ _).drew, t0.kept ((Kept.refl _).alloc _ _).drew⟩ | with_reducible exact ⟨kW.set3 hzW1 _ _ _, cell_set3 hzW2 c0 _ _ _, s0.set3 hzW2 _ _ _, t0.set3 hzW3 _ _ _⟩)
    (first
    | (go_at_call 29; ((with_reducible refine (kernels_new _).mono ?_); rintro e w1 ⟨p, rfl, g, hl⟩; have hl1 (c : Array Value) (t : TypeId) := hl 3 _ ((Kept.refl _).alloc c t); replace hl := hl 3 _ (Kept.refl _); rw [e0, hk] at hl; simp only [e0, hk] at hl1; obtain ⟨hc1, hf1⟩ := g.reads; (first | (with_reducible (replace kW := kW.trans g); replace c0 := g.cell c0; replace s0 := s0.kept g; replace t0 := t0.kept g) | (with_reducible (replace kW := kW.drew.trans g); replace c0 := g.cell ((Kept.refl _).drew.cell c0); replace s0 := s0.kept ((Kept.refl _).drew.trans g); replace t0 := t0.kept ((Kept.refl _).drew.trans g)) | (have hz : W.heap.size < w1.heap.size := (by (have := g.size; simp at this; omega)); with_reducible (replace kW := (kW.alloc _ _).drew.trans g); replace c0 := g.cell (((Kept.refl _).alloc _ _).drew.cell c0); replace s0 := s0.kept (((Kept.refl _).alloc _ _).drew.trans g); replace t0 := t0.kept (((Kept.refl _).alloc _ _).drew.trans g))); clear g)))
  all_goals
    rename_i hH
    obtain ⟨hH, d0, s1, t1⟩ := hH
    have a0 := s1.1
    obtain ⟨a0, a1, a2⟩ := a0
    go_wp2_with (go_at_call 56; ((with_reducible refine (C.out _).mono ?_); rintro e w5 ⟨rfl, g5⟩; replace t1 := t1.kept g5; obtain ⟨⟨x0, x1, x2⟩, y0, y1, y2⟩ := t1))
    exact bodyPost_ret (v := .tuple #[sta dk da dt, .bool pp]) (by simp [results, Try.results16, go_sem, *]) rfl
      ⟨rfl, (hH.trans g5).set3 (Nat.le_succ _) _ _ _⟩

end Go.Proofs.Ytodmjnbepfkibaa.Wd
