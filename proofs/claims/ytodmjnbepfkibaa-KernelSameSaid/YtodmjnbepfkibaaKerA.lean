/- What kernel's calls answer, for any states and numbers of 64 bits; no conditions. -/
import Derived.Test.YtodmjnbepfkibaaKerM
import Derived.Test.YtodmjnbepfkibaaLeaA
import Derived.Test.YtodmjnbepfkibaaBucA
import Derived.Test.YtodmjnbepfkibaaGcrA
namespace Go.Proofs.Ytodmjnbepfkibaa.Wd
open Go.RowKit
set_option linter.unusedVariables false

/-- Is it a kernel? -/
def isK (k : Int) : Bool := decide (1 ≤ k ∧ k ≤ 3)
def kerV (k : Int) : Value := if k = 1 then kern1 else if k = 2 then kern2 else if k = 3 then kern3 else .agg #[.nilFunc, .nilFunc, .nilFunc]
theorem run_look_any (w : World) (b : Nat) (k : Int) (hb : w.heap[b]? = some kerMap) :
    (Instr.lookup 60 (.map (some b)) (.int .u8 k) true).run Try.prog w = .ok (.tuple #[kerV k, .bool (isK k)]) w := by
  refine run_look w b k _ _ hb ?_
  unfold kerV isK
  by_cases h1 : k = 1
  · subst h1; left; simp
  by_cases h2 : k = 2
  · subst h2; right; left; simp
  by_cases h3 : k = 3
  · subst h3; right; right; left; simp
  right; right; right
  simp [h1, h2, h3]; omega
theorem kernels_new (w : World) :
    Calls Try.prog 29 #[] w fun e w' => ∃ p : Nat, e = .returned (.map (some p)) ∧ Kept w w' ∧ ∀ k w2, Kept w' w2 → (Instr.lookup 60 (.map (some p)) (.int .u8 k) true).run Try.prog w2 = .ok (.tuple #[kerV k, .bool (isK k)]) w2 := by
  refine (kernels_any w).mono ?_
  rintro e w' ⟨rfl, rfl⟩
  exact ⟨_, rfl, (Kept.refl w).allocMap _ _, fun k w2 h => run_look_any _ _ _ ((h.2.block _ (by simp)).trans (MapKept.heap_alloc w _).1)⟩
theorem kerV_no (k : Int) (h : isK k = false) : kerV k = .agg #[.nilFunc, .nilFunc, .nilFunc] := by
  unfold isK at h; simp at h
  unfold kerV; rw [if_neg (by omega), if_neg (by omega), if_neg (by omega)]
theorem isK_yes (k : Int) (h : isK k = true) : k = 1 ∨ k = 2 ∨ k = 3 := by
  unfold isK at h; simp at h; omega

theorem right_core (k : Int) (f g h : Value) (is : Bool) (w : World) (e0 : kerV k = .agg #[f, g, h]) (e1 : isK k = is)
    (hf : f = .nilFunc ∧ g = .nilFunc ∧ h = .nilFunc ∨ ∃ a b c : FuncId, f = .func (Fn.func a) #[] #[] ∧ g = .func (Fn.func b) #[] #[] ∧ h = .func (Fn.func c) #[] #[]) :
    Calls Try.prog 12 #[.int .u8 k] w fun e w' => e = .returned (.bool is) ∧ Kept w w' := by
  rcases hf with ⟨rfl, rfl, rfl⟩ | ⟨a, b, c, rfl, rfl, rfl⟩
  all_goals
    go_enter Try.func12, Try.ntmps12
    go_wp2_with (go_at_call 29; ((with_reducible refine (kernels_new _).mono ?_); rintro e w1 ⟨p, rfl, g1, hl⟩; replace hl := hl k _ (Kept.refl _); rw [e0, e1] at hl))
    go_ret
    exact ⟨rfl, g1.alloc _ _⟩
theorem right_any (k : Int) (w : World) :
    Calls Try.prog 12 #[.int .u8 k] w fun e w' => e = .returned (.bool (isK k)) ∧ Kept w w' := by
  cases h : isK k
  · exact right_core k _ _ _ _ w (kerV_no k h) h (.inl ⟨rfl, rfl, rfl⟩)
  · rcases isK_yes k h with rfl | rfl | rfl
    · exact right_core 1 _ _ _ _ w rfl h (.inr ⟨_, _, _, rfl, rfl, rfl⟩)
    · exact right_core 2 _ _ _ _ w rfl h (.inr ⟨_, _, _, rfl, rfl, rfl⟩)
    · exact right_core 3 _ _ _ _ w rfl h (.inr ⟨_, _, _, rfl, rfl, rfl⟩)

theorem Kept.set3 {w w' : World} (h : Kept w w') {B : Nat} (hB : w.heap.size ≤ B) (x y z : Value) : Kept w (((w'.setCell ⟨B, 0, none⟩ x).setCell ⟨B, 1, none⟩ y).setCell ⟨B, 2, none⟩ z) :=
  ((h.setCell hB x).setCell hB y).setCell hB z
theorem cell_set3 {w' : World} {B b o : Nat} {v : Value} (hb : b ≠ B) (c : w'.cell? ⟨b, o, none⟩ = some v) (x y z : Value) : (((w'.setCell ⟨B, 0, none⟩ x).setCell ⟨B, 1, none⟩ y).setCell ⟨B, 2, none⟩ z).cell? ⟨b, o, none⟩ = some v := by
  have n (w : World) (i : Nat) (u : Value) : (w.setCell ⟨B, i, none⟩ u).cell? ⟨b, o, none⟩ = w.cell? ⟨b, o, none⟩ := World.cell?_of_block (Below.heap_setCell _ _ _ _ hb)
  rw [n, n, n]; exact c

theorem kfill_no (k a b now cap : Int) (w : World) (hk : isK k = false) :
    Calls Try.prog 17 #[sta k a b, .int .u64 now, .int .u64 cap] w fun e w' => e = .returned (.int .u64 0) ∧ Kept w w' := by
  have e0 := kerV_no k hk
  go_enter Try.func17, Try.ntmps17
  go_wp2
  have kW : Kept w (w.alloc (.cells #[.int .u8 k, .int .u64 a, .int .u64 b] 24)) := (Kept.refl w).alloc _ _
  have c0 : (w.alloc (.cells #[.int .u8 k, .int .u64 a, .int .u64 b] 24)).cell? ⟨w.heap.size, 0, none⟩ = some (.int .u8 k) := by simp
  have hzW : w.heap.size < (w.alloc (.cells #[.int .u8 k, .int .u64 a, .int .u64 b] 24)).heap.size := by simp
  generalize hW : World.alloc _ _ = W at *
  clear hW
  have hzW1 := Nat.le_of_lt hzW
  have hzW2 := Nat.ne_of_lt hzW
  go_region_held3 (fun w' => Kept w w' ∧ w'.cell? ⟨w.heap.size, 0, none⟩ = some (.int .u8 k))
    (first | with_reducible exact ⟨kW, c0⟩ | with_reducible exact ⟨kW.drew, (Kept.refl _).drew.cell c0⟩ | with_reducible exact ⟨kW.alloc _ _, ((Kept.refl _).alloc _ _).cell c0⟩ | with_reducible exact ⟨(kW.alloc _ _).drew, ((Kept.refl _).alloc _ _).drew.cell c0⟩ | with_reducible exact ⟨kW.set3 hzW1 _ _ _, cell_set3 hzW2 c0 _ _ _⟩)
    (first
    | (go_at_call 29; ((with_reducible refine (kernels_new _).mono ?_); rintro e w1 ⟨p, rfl, g, hl⟩; have hl1 (c : Array Value) (t : TypeId) := hl k _ ((Kept.refl _).alloc c t); replace hl := hl k _ (Kept.refl _); rw [e0, hk] at hl; simp only [e0, hk] at hl1; obtain ⟨hc1, hf1⟩ := g.reads; (first | (with_reducible (replace kW := kW.trans g); replace c0 := g.cell c0) | (with_reducible (replace kW := kW.drew.trans g); replace c0 := g.cell ((Kept.refl _).drew.cell c0)) | (have hz : W.heap.size < w1.heap.size := (by (have := g.size; simp at this; omega)); with_reducible (replace kW := (kW.alloc _ _).drew.trans g); replace c0 := g.cell (((Kept.refl _).alloc _ _).drew.cell c0))); clear g)))
  all_goals
    rename_i hH
    replace hH := hH.1
    go_wp2
    go_ret
    exact ⟨rfl, hH⟩

theorem kfill_core1 (a b now cap r : Int) (w : World)
    (C : Hid (∀ w, Calls Try.prog 49 #[sta 1 a b, .int .u64 now, .int .u64 cap] w fun e w' => e = .returned (.int .u64 r) ∧ Kept w w')) :
    Calls Try.prog 17 #[sta 1 a b, .int .u64 now, .int .u64 cap] w fun e w' => e = .returned (.int .u64 r) ∧ Kept w w' := by
  have hk : isK 1 = true := rfl
  have e0 : kerV 1 = kern1 := rfl
  go_enter Try.func17, Try.ntmps17
  go_wp2
  have kW : Kept w (w.alloc (.cells #[.int .u8 1, .int .u64 a, .int .u64 b] 24)) := (Kept.refl w).alloc _ _
  have c0 : (w.alloc (.cells #[.int .u8 1, .int .u64 a, .int .u64 b] 24)).cell? ⟨w.heap.size, 0, none⟩ = some (.int .u8 1) := by simp
  have c1 : (w.alloc (.cells #[.int .u8 1, .int .u64 a, .int .u64 b] 24)).cell? ⟨w.heap.size, 1, none⟩ = some (.int .u64 a) := by simp
  have c2 : (w.alloc (.cells #[.int .u8 1, .int .u64 a, .int .u64 b] 24)).cell? ⟨w.heap.size, 2, none⟩ = some (.int .u64 b) := by simp
  have hzW : w.heap.size < (w.alloc (.cells #[.int .u8 1, .int .u64 a, .int .u64 b] 24)).heap.size := by simp
  generalize hW : World.alloc _ _ = W at *
  clear hW
  have hzW1 := Nat.le_of_lt hzW
  have hzW2 := Nat.ne_of_lt hzW
  go_region_held3 (fun w' => Kept w w' ∧ w'.cell? ⟨w.heap.size, 0, none⟩ = some (.int .u8 1) ∧ w'.cell? ⟨w.heap.size, 1, none⟩ = some (.int .u64 a) ∧ w'.cell? ⟨w.heap.size, 2, none⟩ = some (.int .u64 b))
    (first | with_reducible exact ⟨kW, c0, c1, c2⟩ | with_reducible exact ⟨kW.drew, (Kept.refl _).drew.cell c0, (Kept.refl _).drew.cell c1, (Kept.refl _).drew.cell c2⟩ | with_reducible exact ⟨kW.alloc _ _, ((Kept.refl _).alloc _ _).cell c0, ((Kept.refl _).alloc _ _).cell c1, ((Kept.refl _).alloc _ _).cell c2⟩ | with_reducible exact ⟨(kW.alloc _ _).drew, ((Kept.refl _).alloc _ _).drew.cell c0, ((Kept.refl _).alloc _ _).drew.cell c1, ((Kept.refl _).alloc _ _).drew.cell c2⟩ | with_reducible exact ⟨kW.set3 hzW1 _ _ _, cell_set3 hzW2 c0 _ _ _, cell_set3 hzW2 c1 _ _ _, cell_set3 hzW2 c2 _ _ _⟩)
    (first
    | (go_at_call 29; ((with_reducible refine (kernels_new _).mono ?_); rintro e w1 ⟨p, rfl, g, hl⟩; have hl1 (c : Array Value) (t : TypeId) := hl 1 _ ((Kept.refl _).alloc c t); replace hl := hl 1 _ (Kept.refl _); rw [e0, hk] at hl; simp only [e0, hk] at hl1; obtain ⟨hc1, hf1⟩ := g.reads; (first | (with_reducible (replace kW := kW.trans g); replace c0 := g.cell c0; replace c1 := g.cell c1; replace c2 := g.cell c2) | (with_reducible (replace kW := kW.drew.trans g); replace c0 := g.cell ((Kept.refl _).drew.cell c0); replace c1 := g.cell ((Kept.refl _).drew.cell c1); replace c2 := g.cell ((Kept.refl _).drew.cell c2)) | (have hz : W.heap.size < w1.heap.size := (by (have := g.size; simp at this; omega)); with_reducible (replace kW := (kW.alloc _ _).drew.trans g); replace c0 := g.cell (((Kept.refl _).alloc _ _).drew.cell c0); replace c1 := g.cell (((Kept.refl _).alloc _ _).drew.cell c1); replace c2 := g.cell (((Kept.refl _).alloc _ _).drew.cell c2))); clear g)))
  all_goals
    rename_i hH
    obtain ⟨hH, d0, d1, d2⟩ := hH
    go_wp2_with (go_at_call 49; ((with_reducible refine (C.out _).mono ?_); rintro e w5 ⟨rfl, g5⟩))
    go_ret
    exact ⟨rfl, hH.trans g5⟩
theorem kfill_core2 (a b now cap r : Int) (w : World)
    (C : Hid (∀ w, Calls Try.prog 52 #[sta 2 a b, .int .u64 now, .int .u64 cap] w fun e w' => e = .returned (.int .u64 r) ∧ Kept w w')) :
    Calls Try.prog 17 #[sta 2 a b, .int .u64 now, .int .u64 cap] w fun e w' => e = .returned (.int .u64 r) ∧ Kept w w' := by
  have hk : isK 2 = true := rfl
  have e0 : kerV 2 = kern2 := rfl
  go_enter Try.func17, Try.ntmps17
  go_wp2
  have kW : Kept w (w.alloc (.cells #[.int .u8 2, .int .u64 a, .int .u64 b] 24)) := (Kept.refl w).alloc _ _
  have c0 : (w.alloc (.cells #[.int .u8 2, .int .u64 a, .int .u64 b] 24)).cell? ⟨w.heap.size, 0, none⟩ = some (.int .u8 2) := by simp
  have c1 : (w.alloc (.cells #[.int .u8 2, .int .u64 a, .int .u64 b] 24)).cell? ⟨w.heap.size, 1, none⟩ = some (.int .u64 a) := by simp
  have c2 : (w.alloc (.cells #[.int .u8 2, .int .u64 a, .int .u64 b] 24)).cell? ⟨w.heap.size, 2, none⟩ = some (.int .u64 b) := by simp
  have hzW : w.heap.size < (w.alloc (.cells #[.int .u8 2, .int .u64 a, .int .u64 b] 24)).heap.size := by simp
  generalize hW : World.alloc _ _ = W at *
  clear hW
  have hzW1 := Nat.le_of_lt hzW
  have hzW2 := Nat.ne_of_lt hzW
  go_region_held3 (fun w' => Kept w w' ∧ w'.cell? ⟨w.heap.size, 0, none⟩ = some (.int .u8 2) ∧ w'.cell? ⟨w.heap.size, 1, none⟩ = some (.int .u64 a) ∧ w'.cell? ⟨w.heap.size, 2, none⟩ = some (.int .u64 b))
    (first | with_reducible exact ⟨kW, c0, c1, c2⟩ | with_reducible exact ⟨kW.drew, (Kept.refl _).drew.cell c0, (Kept.refl _).drew.cell c1, (Kept.refl _).drew.cell c2⟩ | with_reducible exact ⟨kW.alloc _ _, ((Kept.refl _).alloc _ _).cell c0, ((Kept.refl _).alloc _ _).cell c1, ((Kept.refl _).alloc _ _).cell c2⟩ | with_reducible exact ⟨(kW.alloc _ _).drew, ((Kept.refl _).alloc _ _).drew.cell c0, ((Kept.refl _).alloc _ _).drew.cell c1, ((Kept.refl _).alloc _ _).drew.cell c2⟩ | with_reducible exact ⟨kW.set3 hzW1 _ _ _, cell_set3 hzW2 c0 _ _ _, cell_set3 hzW2 c1 _ _ _, cell_set3 hzW2 c2 _ _ _⟩)
    (first
    | (go_at_call 29; ((with_reducible refine (kernels_new _).mono ?_); rintro e w1 ⟨p, rfl, g, hl⟩; have hl1 (c : Array Value) (t : TypeId) := hl 2 _ ((Kept.refl _).alloc c t); replace hl := hl 2 _ (Kept.refl _); rw [e0, hk] at hl; simp only [e0, hk] at hl1; obtain ⟨hc1, hf1⟩ := g.reads; (first | (with_reducible (replace kW := kW.trans g); replace c0 := g.cell c0; replace c1 := g.cell c1; replace c2 := g.cell c2) | (with_reducible (replace kW := kW.drew.trans g); replace c0 := g.cell ((Kept.refl _).drew.cell c0); replace c1 := g.cell ((Kept.refl _).drew.cell c1); replace c2 := g.cell ((Kept.refl _).drew.cell c2)) | (have hz : W.heap.size < w1.heap.size := (by (have := g.size; simp at this; omega)); with_reducible (replace kW := (kW.alloc _ _).drew.trans g); replace c0 := g.cell (((Kept.refl _).alloc _ _).drew.cell c0); replace c1 := g.cell (((Kept.refl _).alloc _ _).drew.cell c1); replace c2 := g.cell (((Kept.refl _).alloc _ _).drew.cell c2))); clear g)))
  all_goals
    rename_i hH
    obtain ⟨hH, d0, d1, d2⟩ := hH
    go_wp2_with (go_at_call 52; ((with_reducible refine (C.out _).mono ?_); rintro e w5 ⟨rfl, g5⟩))
    go_ret
    exact ⟨rfl, hH.trans g5⟩
theorem kfill_core3 (a b now cap r : Int) (w : World)
    (C : Hid (∀ w, Calls Try.prog 55 #[sta 3 a b, .int .u64 now, .int .u64 cap] w fun e w' => e = .returned (.int .u64 r) ∧ Kept w w')) :
    Calls Try.prog 17 #[sta 3 a b, .int .u64 now, .int .u64 cap] w fun e w' => e = .returned (.int .u64 r) ∧ Kept w w' := by
  have hk : isK 3 = true := rfl
  have e0 : kerV 3 = kern3 := rfl
  go_enter Try.func17, Try.ntmps17
  go_wp2
  have kW : Kept w (w.alloc (.cells #[.int .u8 3, .int .u64 a, .int .u64 b] 24)) := (Kept.refl w).alloc _ _
  have c0 : (w.alloc (.cells #[.int .u8 3, .int .u64 a, .int .u64 b] 24)).cell? ⟨w.heap.size, 0, none⟩ = some (.int .u8 3) := by simp
  have c1 : (w.alloc (.cells #[.int .u8 3, .int .u64 a, .int .u64 b] 24)).cell? ⟨w.heap.size, 1, none⟩ = some (.int .u64 a) := by simp
  have c2 : (w.alloc (.cells #[.int .u8 3, .int .u64 a, .int .u64 b] 24)).cell? ⟨w.heap.size, 2, none⟩ = some (.int .u64 b) := by simp
  have hzW : w.heap.size < (w.alloc (.cells #[.int .u8 3, .int .u64 a, .int .u64 b] 24)).heap.size := by simp
  generalize hW : World.alloc _ _ = W at *
  clear hW
  have hzW1 := Nat.le_of_lt hzW
  have hzW2 := Nat.ne_of_lt hzW
  go_region_held3 (fun w' => Kept w w' ∧ w'.cell? ⟨w.heap.size, 0, none⟩ = some (.int .u8 3) ∧ w'.cell? ⟨w.heap.size, 1, none⟩ = some (.int .u64 a) ∧ w'.cell? ⟨w.heap.size, 2, none⟩ = some (.int .u64 b))
    (first | with_reducible exact ⟨kW, c0, c1, c2⟩ | with_reducible exact ⟨kW.drew, (Kept.refl _).drew.cell c0, (Kept.refl _).drew.cell c1, (Kept.refl _).drew.cell c2⟩ | with_reducible exact ⟨kW.alloc _ _, ((Kept.refl _).alloc _ _).cell c0, ((Kept.refl _).alloc _ _).cell c1, ((Kept.refl _).alloc _ _).cell c2⟩ | with_reducible exact ⟨(kW.alloc _ _).drew, ((Kept.refl _).alloc _ _).drew.cell c0, ((Kept.refl _).alloc _ _).drew.cell c1, ((Kept.refl _).alloc _ _).drew.cell c2⟩ | with_reducible exact ⟨kW.set3 hzW1 _ _ _, cell_set3 hzW2 c0 _ _ _, cell_set3 hzW2 c1 _ _ _, cell_set3 hzW2 c2 _ _ _⟩)
    (first
    | (go_at_call 29; ((with_reducible refine (kernels_new _).mono ?_); rintro e w1 ⟨p, rfl, g, hl⟩; have hl1 (c : Array Value) (t : TypeId) := hl 3 _ ((Kept.refl _).alloc c t); replace hl := hl 3 _ (Kept.refl _); rw [e0, hk] at hl; simp only [e0, hk] at hl1; obtain ⟨hc1, hf1⟩ := g.reads; (first | (with_reducible (replace kW := kW.trans g); replace c0 := g.cell c0; replace c1 := g.cell c1; replace c2 := g.cell c2) | (with_reducible (replace kW := kW.drew.trans g); replace c0 := g.cell ((Kept.refl _).drew.cell c0); replace c1 := g.cell ((Kept.refl _).drew.cell c1); replace c2 := g.cell ((Kept.refl _).drew.cell c2)) | (have hz : W.heap.size < w1.heap.size := (by (have := g.size; simp at this; omega)); with_reducible (replace kW := (kW.alloc _ _).drew.trans g); replace c0 := g.cell (((Kept.refl _).alloc _ _).drew.cell c0); replace c1 := g.cell (((Kept.refl _).alloc _ _).drew.cell c1); replace c2 := g.cell (((Kept.refl _).alloc _ _).drew.cell c2))); clear g)))
  all_goals
    rename_i hH
    obtain ⟨hH, d0, d1, d2⟩ := hH
    go_wp2_with (go_at_call 55; ((with_reducible refine (C.out _).mono ?_); rintro e w5 ⟨rfl, g5⟩))
    go_ret
    exact ⟨rfl, hH.trans g5⟩
end Go.Proofs.Ytodmjnbepfkibaa.Wd
