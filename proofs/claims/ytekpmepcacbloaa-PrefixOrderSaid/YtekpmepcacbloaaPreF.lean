/- What prefix.own and (*Tree).Find, (*Tree).Len answer; no conditions but those that each names. -/
import Derived.Test.YtekpmepcacbloaaPreW
namespace Go.Proofs.Ytekpmepcacbloaa.Wd
open Go Go.RowKit Go.Shelf
set_option linter.unusedVariables false
set_option maxRecDepth 100000

/-- A block whose cells are known. -/
def Blk (w : World) (b : Nat) (cs : Array Value) (t : TypeId) : Prop := w.heap[b]? = some (.cells cs t)
theorem Blk.cell {w : World} {b : Nat} {cs : Array Value} {t : TypeId} (h : Blk w b cs t) (i : Nat) : w.cell? ⟨b, i, none⟩ = cs[i]? := by
  have h' : w.heap[b]? = some (.cells cs t) := h
  simp [World.cell?, h']
theorem Blk.fz {w : World} {b : Nat} {cs : Array Value} {t : TypeId} (h : Blk w b cs t) (i : Nat) : w.frozen? ⟨b, i, none⟩ = false := fz_of h i
theorem Blk.new (w : World) (cs : Array Value) (t : TypeId) : Blk (w.alloc (.cells cs t)) w.heap.size cs t := World.alloc_heap_new w _
theorem Blk.lt {w : World} {b : Nat} {cs : Array Value} {t : TypeId} (h : Blk w b cs t) : b < w.heap.size := heap_lt h
theorem Blk.under {w w' : World} {b N : Nat} {cs : Array Value} {t : TypeId} (h : Blk w b cs t) (g : Below N w w') (hN : b < N) : Blk w' b cs t := (g.block b hN).trans h
theorem Blk.below {w w' : World} {b : Nat} {cs : Array Value} {t : TypeId} (h : Blk w b cs t) (g : Below w.heap.size w w') : Blk w' b cs t := h.under g h.lt
theorem Blk.alloc {w : World} {b : Nat} {cs : Array Value} {t : TypeId} (h : Blk w b cs t) (o : Obj) : Blk (w.alloc o) b cs t := h.below ((Below.refl _ w).alloc (Nat.le_refl _) o)
theorem Blk.set {w : World} {b : Nat} {cs : Array Value} {t : TypeId} (h : Blk w b cs t) (i : Nat) (v : Value) : Blk (w.setCell ⟨b, i, none⟩ v) b (cs.setIfInBounds i v) t := by
  have h' : w.heap[b]? = some (.cells cs t) := h
  obtain ⟨hlt, e⟩ := Array.getElem?_eq_some_iff.1 h'
  show (w.heap.modify b _)[b]? = some _
  rw [Array.getElem?_eq_getElem (by rw [Array.size_modify]; exact hlt), Array.getElem_modify_self, e]
  rfl
theorem Blk.other {w : World} {b c : Nat} {cs : Array Value} {t : TypeId} (h : Blk w b cs t) (i : Nat) (v : Value) (hc : b ≠ c) : Blk (w.setCell ⟨c, i, none⟩ v) b cs t := (Below.heap_setCell _ _ _ _ hc).trans h
theorem Blk.r4 {w : World} {b : Nat} {r : Rl} {t : TypeId} (h : Blk w b #[.string r.p, .int .u64 r.e, .int .u64 r.b, .int .u8 r.k] t) : R4 w b 0 r := ⟨h.cell 0, h.cell 1, h.cell 2, h.cell 3⟩

theorem own_any (r : Rl) (w : World) (hr : Okr r) :
    Calls Try.prog 19 #[r.v] w fun e w' => e = .returned r.v ∧ Below w.heap.size w w' := by
  have C := Lib.hid (fun W => clone_any r.p W hr.p)
  go_enter Try.func19, Try.ntmps19
  go_wp2_with (go_at_call 24; refine (C.out _).mono ?_; rintro e w1 ⟨rfl, g1⟩; refine stopHere ?_)
  unfold Stop
  have b0 := (((Blk.new w #[.string r.p, .int .u64 r.e, .int .u64 r.b, .int .u8 r.k] 28).alloc (.cells #[.string ⟨#[]⟩, .int .u64 0, .int .u64 0, .int .u8 0] 28)).below g1)
  have b1 := (Blk.new (w.alloc (.cells #[.string r.p, .int .u64 r.e, .int .u64 r.b, .int .u8 r.k] 28)) #[.string ⟨#[]⟩, .int .u64 0, .int .u64 0, .int .u8 0] 28).below g1
  rw [World.size_alloc] at b1
  have kW := Lib.hid (kbq ((((Below.refl _ w).alloc (Nat.le_refl _) (.cells #[.string r.p, .int .u64 r.e, .int .u64 r.b, .int .u8 r.k] 28)).alloc (by simp) (.cells #[.string ⟨#[]⟩, .int .u64 0, .int .u64 0, .int .u8 0] 28))) g1)
  have c0 := b0.cell 0
  have c1 := b0.cell 1
  have c2 := b0.cell 2
  have c3 := b0.cell 3
  have d0 := b1.cell 0
  have d1 := b1.cell 1
  have d2 := b1.cell 2
  have d3 := b1.cell 3
  have f0 := b0.fz 0
  have g0 := b1.fz 0
  have g1' := b1.fz 1
  have g2 := b1.fz 2
  have g3 := b1.fz 3
  simp at c0 c1 c2 c3 d0 d1 d2 d3
  have B1 := Lib.hid b1
  clear g1 b0 b1 C
  go_wp2
  have z := ((((B1.out.other (c := w.heap.size) 0 (.string r.p) (by omega)).set 0 (.string r.p)).set 1 (.int .u64 r.e)).set 2 (.int .u64 r.b)).set 3 (.int .u8 r.k)
  have kZ := ((((kW.out.setCell (p := ⟨w.heap.size, 0, none⟩) (Nat.le_refl _) (.string r.p)).setCell (p := ⟨w.heap.size + 1, 0, none⟩) (Nat.le_succ _) (.string r.p)).setCell (p := ⟨w.heap.size + 1, 1, none⟩) (Nat.le_succ _) (.int .u64 r.e)).setCell (p := ⟨w.heap.size + 1, 2, none⟩) (Nat.le_succ _) (.int .u64 r.b)).setCell (p := ⟨w.heap.size + 1, 3, none⟩) (Nat.le_succ _) (.int .u8 r.k)
  have q0 := z.cell 0
  have q1 := z.cell 1
  have q2 := z.cell 2
  have q3 := z.cell 3
  simp at q0 q1 q2 q3
  refine bodyPost_ret (v := r.v) ?_ rfl ⟨rfl, kZ⟩
  simp [results, Try.results19, go_sem, q0, q1, q2, q3]

theorem len_any (t : Nat) (rs : List Rl) (w : World) (h : TreeAt w t rs) :
    Calls Try.prog 14 #[.pointer (some ⟨t, 0, none⟩)] w fun e w' => e = .returned (.int .i64 (cntT rs rs.length : Int)) ∧ w = w' := by
  obtain ⟨F, R, lo, h1, h2, h3⟩ := h
  have c1 : w.cell? ⟨t, 1, none⟩ = some (.int .i64 (cntT rs rs.length : Int)) := Blk.cell h1 1
  clear h1
  go_enter Try.func14, Try.ntmps14
  go_wp2
  go_ret
  exact ⟨rfl, rfl⟩
theorem len_nil (w : World) :
    Calls Try.prog 14 #[.pointer none] w fun e w' => e = .returned (.int .i64 0) ∧ w = w' := by
  go_enter Try.func14, Try.ntmps14
  go_wp2
  go_ret
  exact ⟨rfl, rfl⟩
theorem find_nil (K : ByteArray) (w : World) :
    Calls Try.prog 13 #[.pointer none, .string K] w fun e w' => e = .returned (.tuple #[rl0.v, .bool false]) ∧ Below w.heap.size w w' := by
  go_enter Try.func13, Try.ntmps13
  go_wp2
  refine bodyPost_ret (v := .tuple #[rl0.v, .bool false]) ?_ rfl ⟨rfl, (Below.refl _ w).alloc (Nat.le_refl _) _⟩
  simp [results, Try.f13, go_sem]

end Go.Proofs.Ytekpmepcacbloaa.Wd
