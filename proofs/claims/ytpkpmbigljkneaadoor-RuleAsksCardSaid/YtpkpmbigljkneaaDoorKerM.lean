/- The map of the three kernels: what it holds when it is made, and what is found in it; no conditions. -/
import Derived.Test.YtpkpmbigljkneaaDoorStaA
import Derived.Maps.OwnSet
import Derived.Laws.EntriesVeiled
namespace Go.Proofs.YtpkpmbigljkneaaDoor.Wd
open Go.RowKit
set_option linter.unusedVariables false

theorem Kept.allocMap {a b : World} (h : Kept a b) (es : Array MapEntry) (c : Nat) : Kept a (b.alloc (.map es c)) := ⟨h.1.allocMap es c, h.2.alloc h.2.size _⟩

/-- The three fields of a kernel. -/
abbrev kern (f g h : FuncId) : Value := .agg #[.func (Fn.func f) #[] #[], .func (Fn.func g) #[] #[], .func (Fn.func h) #[] #[]]
abbrev kern1 : Value := kern 68 69 70
abbrev kern2 : Value := kern 71 72 73
abbrev kern3 : Value := kern 74 75 76

theorem setBlock_new (w : World) (o o' : Obj) : ({ (w.alloc o) with heap := (w.alloc o).heap.setIfInBounds w.heap.size o' } : World) = w.alloc o' := by
  have e : (w.heap.push o).setIfInBounds w.heap.size o' = w.heap.push o' := by simp [Array.setIfInBounds, Array.set_push]
  show ({ w with heap := (w.heap.push o).setIfInBounds w.heap.size o' } : World) = { w with heap := w.heap.push o' }
  rw [e]

theorem run_put_new (w : World) (es : Array MapEntry) (c : Nat) (a : Int) (v : Value) (hn : Instr.findNow (.int .u8) (.int .u8 a) es.toList 0 = some none) :
    (Instr.mapUpdate 97 (.map (some w.heap.size)) (.int .u8 a) v).run Tryd.prog (w.alloc (.map es c)) = .ok () (w.alloc (.map (es.push ⟨.int .u8 a, v, c⟩) (c + 1))) := by
  have hb : (w.alloc (.map es c)).heap[w.heap.size]? = some (.map es c) := (MapKept.heap_alloc w _).1
  simp [Instr.mapUpdate, run_underlying Tryd.underlying97, MapKept.run_getObj_map hb, MapKept.run_checkKey Tryd.underlying5 (d := .int .u8) (k := .int .u8 a) rfl, MapKept.run_findKey Tryd.underlying5 hn, MapKept.run_setObj_map _ hb, Result.andThen]
  exact setBlock_new w _ _

def kerMap : Obj := .map #[⟨.int .u8 1, kern1, 0⟩, ⟨.int .u8 2, kern2, 1⟩, ⟨.int .u8 3, kern3, 2⟩] 3

theorem kernels_any (w : World) :
    Calls Tryd.prog 65 #[] w fun e w' => e = .returned (.map (some w.heap.size)) ∧ w' = w.alloc kerMap := by
  have hmm := @run_makeMap Tryd.prog
  have h1 := run_put_new w #[] 0 1 kern1 rfl
  have h2 := run_put_new w #[⟨.int .u8 1, kern1, 0⟩] 1 2 kern2 rfl
  have h3 := run_put_new w #[⟨.int .u8 1, kern1, 0⟩, ⟨.int .u8 2, kern2, 1⟩] 2 3 kern3 rfl
  simp only [List.push_toArray, List.cons_append, List.nil_append] at h1 h2 h3
  go_enter Tryd.func65, Tryd.ntmps65
  go_wp2
  go_ret
  exact ⟨rfl, rfl⟩


theorem run_look (w : World) (b : Nat) (k : Int) (v : Value) (is : Bool) (hb : w.heap[b]? = some kerMap) (h : (k = 1 ∧ v = kern1 ∧ is = true) ∨ (k = 2 ∧ v = kern2 ∧ is = true) ∨ (k = 3 ∧ v = kern3 ∧ is = true) ∨ (¬ (1 ≤ k ∧ k ≤ 3) ∧ v = .agg #[.nilFunc, .nilFunc, .nilFunc] ∧ is = false)) :
    (Instr.lookup 97 (.map (some b)) (.int .u8 k) true).run Tryd.prog w = .ok (.tuple #[v, .bool is]) w := by
  unfold kerMap at hb
  rcases h with ⟨rfl, rfl, rfl⟩ | ⟨rfl, rfl, rfl⟩ | ⟨rfl, rfl, rfl⟩ | ⟨hk, rfl, rfl⟩
  · have hn : Instr.findNow (.int .u8) (.int .u8 1) [⟨.int .u8 1, kern1, 0⟩, ⟨.int .u8 2, kern2, 1⟩, ⟨.int .u8 3, kern3, 2⟩] 0 = some (some (0, kern1)) := rfl
    simp [Instr.lookup, run_underlying Tryd.underlying97, MapKept.run_getObj_map hb, MapKept.run_checkKey Tryd.underlying5 (d := .int .u8) (k := .int .u8 1) rfl, MapKept.run_findKey Tryd.underlying5 hn, Result.andThen]
  · have hn : Instr.findNow (.int .u8) (.int .u8 2) [⟨.int .u8 1, kern1, 0⟩, ⟨.int .u8 2, kern2, 1⟩, ⟨.int .u8 3, kern3, 2⟩] 0 = some (some (1, kern2)) := rfl
    simp [Instr.lookup, run_underlying Tryd.underlying97, MapKept.run_getObj_map hb, MapKept.run_checkKey Tryd.underlying5 (d := .int .u8) (k := .int .u8 2) rfl, MapKept.run_findKey Tryd.underlying5 hn, Result.andThen]
  · have hn : Instr.findNow (.int .u8) (.int .u8 3) [⟨.int .u8 1, kern1, 0⟩, ⟨.int .u8 2, kern2, 1⟩, ⟨.int .u8 3, kern3, 2⟩] 0 = some (some (2, kern3)) := rfl
    simp [Instr.lookup, run_underlying Tryd.underlying97, MapKept.run_getObj_map hb, MapKept.run_checkKey Tryd.underlying5 (d := .int .u8) (k := .int .u8 3) rfl, MapKept.run_findKey Tryd.underlying5 hn, Result.andThen]
  · have hn : Instr.findNow (.int .u8) (.int .u8 k) [⟨.int .u8 1, kern1, 0⟩, ⟨.int .u8 2, kern2, 1⟩, ⟨.int .u8 3, kern3, 2⟩] 0 = some none := by
      have h1 : (k == 1) = false := by simp; omega
      have h2 : (k == 2) = false := by simp; omega
      have h3 : (k == 3) = false := by simp; omega
      simp [Instr.findNow, Instr.sameNow, h1, h2, h3]
    simp [Instr.lookup, run_underlying Tryd.underlying97, MapKept.run_getObj_map hb, MapKept.run_checkKey Tryd.underlying5 (d := .int .u8) (k := .int .u8 k) rfl, MapKept.run_findKey Tryd.underlying5 hn, Result.andThen]
end Go.Proofs.YtpkpmbigljkneaaDoor.Wd
