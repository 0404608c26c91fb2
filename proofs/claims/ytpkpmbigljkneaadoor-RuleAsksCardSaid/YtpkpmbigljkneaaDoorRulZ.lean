/- What rule.readers lays, and what each reader does to a rule; the parts of a line; no conditions but those that each names. -/
import Derived.Test.YtpkpmbigljkneaaDoorRulX
import Derived.Test.YtpkpmbigljkneaaDoorRulL
import Derived.Test.YtpkpmbigljkneaaDoorRulR
namespace Go.Proofs.YtpkpmbigljkneaaDoor.Wd
open Go Go.RowKit
set_option linter.unusedVariables false

/-! ### The map of the readers -/
abbrev numV (q : Nat) : Value := .func (Fn.func 50) #[] #[.pointer (some ⟨q, 0, none⟩)]
theorem number_any (f : FuncId) (w : World) :
    Calls Tryd.prog 40 #[fnV f] w fun r w' => r = .returned (numV w.heap.size) ∧ w' = w.alloc (.cells #[fnV f] 74) := by
  go_enter Tryd.func40, Tryd.ntmps40
  go_wp2
  go_ret
  exact ⟨rfl, rfl⟩
theorem run_put (W : World) (n : Nat) (es : Array MapEntry) (c : Nat) (a : Int) (v : Value) (hb : W.heap[n]? = some (.map es c)) (hn : Instr.findNow (.int .u8) (.int .u8 a) es.toList 0 = some none) :
    (Instr.mapUpdate 59 (.map (some n)) (.int .u8 a) v).run Tryd.prog W = .ok () { W with heap := W.heap.setIfInBounds n (.map (es.push ⟨.int .u8 a, v, c⟩) (c + 1)) } := by
  simp [Instr.mapUpdate, run_underlying Tryd.underlying59, MapKept.run_getObj_map hb, MapKept.run_checkKey Tryd.underlying61 (d := .int .u8) (k := .int .u8 a) rfl, MapKept.run_findKey Tryd.underlying61 hn, MapKept.run_setObj_map _ hb, Result.andThen]
theorem heap_old (w : World) (o o2 : Obj) : ((w.alloc o).alloc o2).heap[w.heap.size]? = some o := by
  show ((w.heap.push o).push o2)[w.heap.size]? = some o
  rw [Array.getElem?_push, if_neg (by simp), Array.getElem?_push, if_pos rfl]
theorem heap_older (w : World) (o o2 o3 : Obj) : (((w.alloc o).alloc o2).alloc o3).heap[w.heap.size]? = some o := by
  show (((w.heap.push o).push o2).push o3)[w.heap.size]? = some o
  rw [Array.getElem?_push, if_neg (by simp; omega), Array.getElem?_push, if_neg (by simp), Array.getElem?_push, if_pos rfl]
theorem set_old (w : World) (o o2 x : Obj) : ({ ((w.alloc o).alloc o2) with heap := ((w.alloc o).alloc o2).heap.setIfInBounds w.heap.size x } : World) = (w.alloc x).alloc o2 := by
  have e : ((w.heap.push o).push o2).setIfInBounds w.heap.size x = (w.heap.push x).push o2 := by simp [Array.setIfInBounds, Array.set_push]; omega
  show ({ w with heap := ((w.heap.push o).push o2).setIfInBounds w.heap.size x } : World) = { w with heap := (w.heap.push x).push o2 }
  rw [e]
theorem set_older (w : World) (o o2 o3 x : Obj) : ({ (((w.alloc o).alloc o2).alloc o3) with heap := (((w.alloc o).alloc o2).alloc o3).heap.setIfInBounds w.heap.size x } : World) = ((w.alloc x).alloc o2).alloc o3 := by
  have e : (((w.heap.push o).push o2).push o3).setIfInBounds w.heap.size x = ((w.heap.push x).push o2).push o3 := by
    simp [Array.setIfInBounds, Array.set_push]
    rw [if_pos (by omega), if_pos (by omega)]
  show ({ w with heap := (((w.heap.push o).push o2).push o3).setIfInBounds w.heap.size x } : World) = { w with heap := ((w.heap.push x).push o2).push o3 }
  rw [e]

def rdMap (p q : Nat) : Obj := .map #[⟨.int .u8 0, fnV 39, 0⟩, ⟨.int .u8 1, numV p, 1⟩, ⟨.int .u8 2, numV q, 2⟩, ⟨.int .u8 3, fnV 43, 3⟩] 4
theorem readers_any (w : World) :
    Calls Tryd.prog 30 #[] w fun r w' => r = .returned (.map (some w.heap.size)) ∧ w' = ((w.alloc (rdMap (w.heap.size + 1) (w.heap.size + 1 + 1))).alloc (.cells #[fnV 41] 74)).alloc (.cells #[fnV 42] 74) := by
  have hmm := @run_makeMap Tryd.prog
  have h1 := run_put (w.alloc (.map #[] 0)) w.heap.size #[] 0 0 (fnV 39) (MapKept.heap_alloc w _).1 rfl
  rw [setBlock_new] at h1
  have h2 (o : Obj) := run_put ((w.alloc (.map #[⟨.int .u8 0, fnV 39, 0⟩] 1)).alloc o) w.heap.size #[⟨.int .u8 0, fnV 39, 0⟩] 1 1 (numV (w.heap.size + 1)) (heap_old _ _ _) rfl
  simp only [set_old] at h2
  have h3 (o o2 : Obj) := run_put (((w.alloc (.map #[⟨.int .u8 0, fnV 39, 0⟩, ⟨.int .u8 1, numV (w.heap.size + 1), 1⟩] 2)).alloc o).alloc o2) w.heap.size #[⟨.int .u8 0, fnV 39, 0⟩, ⟨.int .u8 1, numV (w.heap.size + 1), 1⟩] 2 2 (numV (w.heap.size + 1 + 1)) (heap_older _ _ _ _) rfl
  simp only [set_older] at h3
  have h4 (o o2 : Obj) := run_put (((w.alloc (.map #[⟨.int .u8 0, fnV 39, 0⟩, ⟨.int .u8 1, numV (w.heap.size + 1), 1⟩, ⟨.int .u8 2, numV (w.heap.size + 1 + 1), 2⟩] 3)).alloc o).alloc o2) w.heap.size #[⟨.int .u8 0, fnV 39, 0⟩, ⟨.int .u8 1, numV (w.heap.size + 1), 1⟩, ⟨.int .u8 2, numV (w.heap.size + 1 + 1), 2⟩] 3 3 (fnV 43) (heap_older _ _ _ _) rfl
  simp only [set_older] at h4
  simp only [List.push_toArray, List.cons_append, List.nil_append] at h1 h2 h3 h4
  go_enter Tryd.func30, Tryd.ntmps30
  go_wp2_with (go_at_call 40; refine (number_any _ _).mono ?_; rintro r w1 ⟨rfl, rfl⟩)
  go_ret
  exact ⟨rfl, rfl⟩

theorem run_read (w : World) (b p q : Nat) (hb : w.heap[b]? = some (rdMap p q)) :
    (Instr.lookup 59 (.map (some b)) (.int .u8 0) false).run Tryd.prog w = .ok (fnV 39) w ∧
    (Instr.lookup 59 (.map (some b)) (.int .u8 1) false).run Tryd.prog w = .ok (numV p) w ∧
    (Instr.lookup 59 (.map (some b)) (.int .u8 2) false).run Tryd.prog w = .ok (numV q) w ∧
    (Instr.lookup 59 (.map (some b)) (.int .u8 3) false).run Tryd.prog w = .ok (fnV 43) w := by
  unfold rdMap at hb
  refine ⟨?_, ?_, ?_, ?_⟩
  · have hn : Instr.findNow (.int .u8) (.int .u8 0) [⟨.int .u8 0, fnV 39, 0⟩, ⟨.int .u8 1, numV p, 1⟩, ⟨.int .u8 2, numV q, 2⟩, ⟨.int .u8 3, fnV 43, 3⟩] 0 = some (some (0, fnV 39)) := rfl
    simp [Instr.lookup, run_underlying Tryd.underlying59, MapKept.run_getObj_map hb, MapKept.run_checkKey Tryd.underlying61 (d := .int .u8) (k := .int .u8 0) rfl, MapKept.run_findKey Tryd.underlying61 hn, Result.andThen]
  · have hn : Instr.findNow (.int .u8) (.int .u8 1) [⟨.int .u8 0, fnV 39, 0⟩, ⟨.int .u8 1, numV p, 1⟩, ⟨.int .u8 2, numV q, 2⟩, ⟨.int .u8 3, fnV 43, 3⟩] 0 = some (some (1, numV p)) := rfl
    simp [Instr.lookup, run_underlying Tryd.underlying59, MapKept.run_getObj_map hb, MapKept.run_checkKey Tryd.underlying61 (d := .int .u8) (k := .int .u8 1) rfl, MapKept.run_findKey Tryd.underlying61 hn, Result.andThen]
  · have hn : Instr.findNow (.int .u8) (.int .u8 2) [⟨.int .u8 0, fnV 39, 0⟩, ⟨.int .u8 1, numV p, 1⟩, ⟨.int .u8 2, numV q, 2⟩, ⟨.int .u8 3, fnV 43, 3⟩] 0 = some (some (2, numV q)) := rfl
    simp [Instr.lookup, run_underlying Tryd.underlying59, MapKept.run_getObj_map hb, MapKept.run_checkKey Tryd.underlying61 (d := .int .u8) (k := .int .u8 2) rfl, MapKept.run_findKey Tryd.underlying61 hn, Result.andThen]
  · have hn : Instr.findNow (.int .u8) (.int .u8 3) [⟨.int .u8 0, fnV 39, 0⟩, ⟨.int .u8 1, numV p, 1⟩, ⟨.int .u8 2, numV q, 2⟩, ⟨.int .u8 3, fnV 43, 3⟩] 0 = some (some (3, fnV 43)) := rfl
    simp [Instr.lookup, run_underlying Tryd.underlying59, MapKept.run_getObj_map hb, MapKept.run_checkKey Tryd.underlying61 (d := .int .u8) (k := .int .u8 3) rfl, MapKept.run_findKey Tryd.underlying61 hn, Result.andThen]

/-! ### A rule that is being read, in a block -/
def Bx (w : World) (R : Nat) (p : ByteArray) (e b k : Int) : Prop := ∃ t, w.heap[R]? = some (.cells #[.string p, .int .u64 e, .int .u64 b, .int .u8 k] t (0, 0))
theorem lt_heap {w : World} {R : Nat} {o : Obj} (h : w.heap[R]? = some o) : R < w.heap.size := by
  by_cases c : R < w.heap.size
  · exact c
  · rw [Array.getElem?_eq_none (by omega)] at h; cases h
theorem Bx.lt {w : World} {R : Nat} {p : ByteArray} {e b k : Int} (h : Bx w R p e b k) : R < w.heap.size := by obtain ⟨t, h⟩ := h; exact lt_heap h
theorem Bx.below {w w' : World} {R : Nat} {p : ByteArray} {e b k : Int} (h : Bx w R p e b k) (g : Below w.heap.size w w') : Bx w' R p e b k := by
  have hl := h.lt; obtain ⟨t, h⟩ := h; exact ⟨t, (g.block _ hl).trans h⟩
theorem Bx.other {w : World} {R : Nat} {p : ByteArray} {e b k : Int} (h : Bx w R p e b k) (a : Addr) (v : Value) (hn : a.block ≠ R) : Bx (w.setCell a v) R p e b k := by
  obtain ⟨t, h⟩ := h; exact ⟨t, (Below.heap_setCell _ _ _ _ (Ne.symm hn)).trans h⟩
theorem Bx.cells {w : World} {R : Nat} {p : ByteArray} {e b k : Int} (h : Bx w R p e b k) :
    w.cell? ⟨R, 0, none⟩ = some (.string p) ∧ w.cell? ⟨R, 1, none⟩ = some (.int .u64 e) ∧ w.cell? ⟨R, 2, none⟩ = some (.int .u64 b) ∧ w.cell? ⟨R, 3, none⟩ = some (.int .u8 k) := by
  obtain ⟨t, h⟩ := h
  refine ⟨?_, ?_, ?_, ?_⟩ <;> (unfold World.cell?; simp [h])
theorem Bx.soft {w : World} {R : Nat} {p : ByteArray} {e b k : Int} (h : Bx w R p e b k) (o : Nat) : w.frozen? ⟨R, o, none⟩ = false := by
  obtain ⟨t, h⟩ := h
  unfold World.frozen?
  simp [h]
theorem Bx.put0 {w : World} {R : Nat} {p : ByteArray} {e b k : Int} (h : Bx w R p e b k) (x : ByteArray) : Bx (w.setCell ⟨R, 0, none⟩ (.string x)) R x e b k := by
  obtain ⟨t, h⟩ := h; refine ⟨t, ?_⟩; simp [World.setCell, Array.getElem?_modify, h]
theorem Bx.put1 {w : World} {R : Nat} {p : ByteArray} {e b k : Int} (h : Bx w R p e b k) (x : Int) : Bx (w.setCell ⟨R, 1, none⟩ (.int .u64 x)) R p x b k := by
  obtain ⟨t, h⟩ := h; refine ⟨t, ?_⟩; simp [World.setCell, Array.getElem?_modify, h]
theorem Bx.put2 {w : World} {R : Nat} {p : ByteArray} {e b k : Int} (h : Bx w R p e b k) (x : Int) : Bx (w.setCell ⟨R, 2, none⟩ (.int .u64 x)) R p e x k := by
  obtain ⟨t, h⟩ := h; refine ⟨t, ?_⟩; simp [World.setCell, Array.getElem?_modify, h]
theorem Bx.put3 {w : World} {R : Nat} {p : ByteArray} {e b k : Int} (h : Bx w R p e b k) (x : Int) : Bx (w.setCell ⟨R, 3, none⟩ (.int .u8 x)) R p e b x := by
  obtain ⟨t, h⟩ := h; refine ⟨t, ?_⟩; simp [World.setCell, Array.getElem?_modify, h]

theorem put1_any (R : Nat) (x : Int) (p : ByteArray) (e b k : Int) (W : World) (h : Bx W R p e b k) :
    Calls Tryd.prog 41 #[.pointer (some ⟨R, 0, none⟩), .int .u64 x] W fun r w' => r = .returned (.tuple #[]) ∧ w' = W.setCell ⟨R, 1, none⟩ (.int .u64 x) := by
  obtain ⟨c0, c1, c2, c3⟩ := h.cells
  have f := h.soft 1
  go_enter Tryd.func41, Tryd.ntmps41
  go_wp2
  go_end0
  exact ⟨rfl, rfl⟩
theorem put2_any (R : Nat) (x : Int) (p : ByteArray) (e b k : Int) (W : World) (h : Bx W R p e b k) :
    Calls Tryd.prog 42 #[.pointer (some ⟨R, 0, none⟩), .int .u64 x] W fun r w' => r = .returned (.tuple #[]) ∧ w' = W.setCell ⟨R, 2, none⟩ (.int .u64 x) := by
  obtain ⟨c0, c1, c2, c3⟩ := h.cells
  have f := h.soft 2
  go_enter Tryd.func42, Tryd.ntmps42
  go_wp2
  go_end0
  exact ⟨rfl, rfl⟩
theorem readPrefix_none (R : Nat) (s : ByteArray) (W : World) (hs : s.size = 0) :
    Calls Tryd.prog 39 #[.pointer (some ⟨R, 0, none⟩), .string s] W fun r w' => r = .returned (.int .u16 23) ∧ W = w' := by
  have hz := toList_none s hs
  go_enter Tryd.func39, Tryd.ntmps39
  go_wp2
  go_ret
  exact ⟨rfl, rfl⟩
theorem readPrefix_some (R : Nat) (s : ByteArray) (p : ByteArray) (e b k : Int) (W : World) (h : Bx W R p e b k) (hs : 0 < s.size) (hs2 : s.size ≤ 281474976710656) :
    Calls Tryd.prog 39 #[.pointer (some ⟨R, 0, none⟩), .string s] W fun r w' => r = .returned (.int .u16 0) ∧ ∃ w1, Below W.heap.size W w1 ∧ w' = w1.setCell ⟨R, 0, none⟩ (.string s) := by
  have hz := toList_ne s hs
  clear hs
  go_enter Tryd.func39, Tryd.ntmps39
  go_wp2_with (go_at_call 33; refine (clone_any _ _ hs2).mono ?_; rintro r w1 ⟨rfl, b1⟩; have h1 := h.below b1; obtain ⟨c0, c1, c2, c3⟩ := h1.cells; have f := h1.soft 0)
  go_ret
  exact ⟨rfl, w1, b1, rfl⟩
theorem number1_any (R q : Nat) (s : ByteArray) (p : ByteArray) (e b k : Int) (W : World) (h : Bx W R p e b k) (hq : W.cell? ⟨q, 0, none⟩ = some (fnV 41)) (hs : s.size ≤ 9223372036854775807) :
    Calls Tryd.prog 50 #[.pointer (some ⟨R, 0, none⟩), .string s, .pointer (some ⟨q, 0, none⟩)] W fun r w' => r = .returned (.int .u16 (paE (lb s))) ∧ ∃ w1, Below W.heap.size W w1 ∧ w' = w1.setCell ⟨R, 1, none⟩ (.int .u64 (paN (lb s))) := by
  have hPA := fun W => parse_any s W hs
  generalize paE s.data.toList = E at *
  generalize paN s.data.toList = N at *
  go_enter Tryd.func50, Tryd.ntmps50
  go_wp2_with (first
    | (go_at_call 51; refine (hPA _).mono ?_; rintro r w1 ⟨rfl, k1⟩; have h1 := h.below k1.2; have g := k1.cell hq)
    | (go_at_call 41; refine (put1_any _ _ _ _ _ _ _ h1).mono ?_; rintro r w2 ⟨rfl, rfl⟩))
  go_ret
  exact ⟨rfl, w1, k1.2, rfl⟩
theorem number2_any (R q : Nat) (s : ByteArray) (p : ByteArray) (e b k : Int) (W : World) (h : Bx W R p e b k) (hq : W.cell? ⟨q, 0, none⟩ = some (fnV 42)) (hs : s.size ≤ 9223372036854775807) :
    Calls Tryd.prog 50 #[.pointer (some ⟨R, 0, none⟩), .string s, .pointer (some ⟨q, 0, none⟩)] W fun r w' => r = .returned (.int .u16 (paE (lb s))) ∧ ∃ w1, Below W.heap.size W w1 ∧ w' = w1.setCell ⟨R, 2, none⟩ (.int .u64 (paN (lb s))) := by
  have hPA := fun W => parse_any s W hs
  generalize paE s.data.toList = E at *
  generalize paN s.data.toList = N at *
  go_enter Tryd.func50, Tryd.ntmps50
  go_wp2_with (first
    | (go_at_call 51; refine (hPA _).mono ?_; rintro r w1 ⟨rfl, k1⟩; have h1 := h.below k1.2; have g := k1.cell hq)
    | (go_at_call 42; refine (put2_any _ _ _ _ _ _ _ h1).mono ?_; rintro r w2 ⟨rfl, rfl⟩))
  go_ret
  exact ⟨rfl, w1, k1.2, rfl⟩
theorem readKind_any (R : Nat) (s : ByteArray) (p : ByteArray) (e b k : Int) (W : World) (h : Bx W R p e b k) (hN : Nam W) :
    Calls Tryd.prog 43 #[.pointer (some ⟨R, 0, none⟩), .string s] W fun r w' => r = .returned (.int .u16 0) ∧ w' = W.setCell ⟨R, 3, none⟩ (.int .u8 (kinI s)) := by
  have C := kind_any s W hN
  obtain ⟨c0, c1, c2, c3⟩ := h.cells
  have f := h.soft 3
  clear hN
  generalize kinI s = K at *
  generalize kinB s = Q at *
  go_enter Tryd.func43, Tryd.ntmps43
  go_wp2_with (go_at_call 13; refine C.mono ?_; rintro r w1 ⟨rfl, rfl⟩)
  go_ret
  exact ⟨rfl, rfl⟩
end Go.Proofs.YtpkpmbigljkneaaDoor.Wd
