/- What key's pairs goes through, and what key.Less, Common and Has answer, for any texts; no conditions but those that each names. -/
import Derived.Test.YtndipebpccdlfaaKeyM
import Derived.RangeFuncNested
import Derived.RangeFuncBound
import Derived.RangeFuncCalls
import Derived.RangeFuncLeaves
import Derived.Shelf.Abstract
import Derived.Shelf.RegionOpen
import Derived.WalkKit
import Derived.OwnWalkIn
import Derived.TacticsInMore
import Derived.LoopNIn
import Derived.LoopIn
import Derived.Lib.Hide
namespace Go.Proofs.Ytndipebpccdlfaa.Wd
open Go Go.RowKit Go.Shelf
set_option linter.unusedVariables false
attribute [local go_sem] Oper.semAt_some

/-- Two blocks, one behind the other, lie as they lay. -/
def Two (p : Nat) (A C : World) : Prop := C.heap[p]? = A.heap[p]? ∧ C.heap[p + 1]? = A.heap[p + 1]?
theorem Two.refl (p : Nat) (A : World) : Two p A A := ⟨rfl, rfl⟩
theorem two_t {p : Nat} {A B C : World} (h : Two p A B) (k : Two p B C) : Two p A C := ⟨k.1.trans h.1, k.2.trans h.2⟩
theorem two_b {p : Nat} {w : World} (hp : p + 1 < w.heap.size) (W : World) (l : Nat) (o o' : Obj) (hl : w.heap.size ≤ l) (h : W.heap[l]? = some o) (_ : o.isCells = false) (_ : o.isWalk = false) : Two p W (W.putObj l o') :=
  ⟨World.putObj_heap_other (by omega), World.putObj_heap_other (by omega)⟩
theorem Two.set {p : Nat} (W : World) (q : Addr) (u : Value) (h : q.block ≠ p) (h' : q.block ≠ p + 1) : Two p W (W.setCell q u) :=
  ⟨Below.heap_setCell _ _ _ _ (by omega), Below.heap_setCell _ _ _ _ (by omega)⟩
theorem Two.box {p : Nat} {A C : World} (h : Two p A C) {t : TypeId} {v : Value} (c : Boxed A p t v) : Boxed C p t v := h.1.trans c
theorem Two.box' {p : Nat} {A C : World} (h : Two p A C) {t : TypeId} {v : Value} (c : Boxed A (p + 1) t v) : Boxed C (p + 1) t v := h.2.trans c

/-- A pair of bytes, as values. -/
abbrev prs (x : UInt8 × UInt8) : Array Value := #[.int .u8 (x.1.toNat : Int), .int .u8 (x.2.toNat : Int)]

theorem pairs_in (F : Fence) (n : Nat) (h : F.fn 26) (hro : F.round = none) (a b : ByteArray) (w : World) :
    CallsIn F n Try.prog 26 #[.string a, .string b] w fun e w' => e = .returned (.func (.func 27) #[] #[.pointer (some ⟨w.heap.size, 0, none⟩), .pointer (some ⟨w.heap.size + 1, 0, none⟩)]) ∧ w' = (w.alloc (.cells #[.string a] 9)).alloc (.cells #[.string b] 9) := by
  refine callsIn_of_wp Try.func26 rfl h ?_ hro
  simp only [Try.ntmps26, List.size_toArray, List.length_cons, List.length_nil, Nat.reduceAdd, Nat.reduceSub, Array.replicate_succ, Array.replicate_zero, List.push_toArray, List.append_toArray, List.nil_append, List.cons_append]
  gi_wp2
  go_ret
  exact ⟨rfl, rfl⟩

set_option maxRecDepth 100000 in
set_option maxHeartbeats 2000000 in
theorem pairs1_stops (n : Nat) (hn : 1 ≤ n) (p : Nat) (a b : ByteArray) (ha : a.size ≤ 9223372036854775807) (hb : b.size ≤ 9223372036854775807) (w : World) (hA : Boxed w p 9 (.string a)) (hB : Boxed w (p + 1) 9 (.string b)) :
    SeqStopsK Fence.wide n Try.prog 27 #[.pointer (some ⟨p, 0, none⟩), .pointer (some ⟨p + 1, 0, none⟩)] prs (Two p) (fun xs => xs = (lb a).zip (lb b)) (fun pre => pre <+: (lb a).zip (lb b)) ((lb a).zip (lb b)).length w := by
  intro l J Jx W hW hJ hJx hY h0
  have bA : Boxed W p 9 (.string a) := (hW.block p hA.lt).trans hA
  have bB : Boxed W (p + 1) 9 (.string b) := (hW.block (p + 1) hB.lt).trans hB
  clear hA hB hW
  have cA := bA.cell
  have cB := bB.cell
  have hza := list_size a
  have hzb := list_size b
  have hl : ((lb a).zip (lb b)).length = min a.size b.size := by simp [hza, hzb]
  obtain ⟨M, hM⟩ : ∃ M, M = min a.size b.size := ⟨_, rfl⟩
  have hm : (if b.size < a.size then (b.size : Int) else (a.size : Int)) = (M : Int) := by split <;> omega
  have hMa : M ≤ a.size := by omega
  have hMb : M ≤ b.size := by omega
  rw [← hM] at hl
  have HG : Hid (∀ (k : Nat) (h1 : k < a.size) (h2 : k < b.size), ((lb a).zip (lb b))[k]? = some (a[k], b[k])) := Lib.hid (fun k h1 h2 => by
    rw [List.getElem?_eq_getElem (by omega), List.getElem_zip, list_at a k h1 (by omega), list_at b k h2 (by omega)])
  have HL := Lib.hid hl
  generalize hX : (lb a).zip (lb b) = X at *
  clear hX hza hzb hl hM
  refine callsIn_of_wp Try.func27 rfl trivial ?_ rfl
  simp only [Try.ntmps27, List.size_toArray, List.length_cons, List.length_nil, Nat.reduceAdd, Nat.reduceSub, Array.replicate_succ, Array.replicate_zero, List.push_toArray, List.append_toArray, List.nil_append, List.cons_append]
  gi_wp2
  gi_loopw [10] (fun i wr => ∃ k : Nat, k ≤ M ∧ i = .int .i64 (k : Int) ∧ J (X.take k) wr ∧ Boxed wr p 9 (.string a) ∧ Boxed wr (p + 1) 9 (.string b)) (fun i _ => M - (intOf i).toNat)
  case atStart => exact ⟨0, Nat.zero_le _, rfl, by simpa using h0, bA, bB⟩
  case round =>
    obtain ⟨k, hk, rfl, hJs, b1, b2⟩ := hrel
    have c1 := b1.cell
    have c2 := b2.cell
    by_cases hlt : k < M
    · have hka : k < a.size := by omega
      have hkb : k < b.size := by omega
      obtain ⟨fn, tmps, assign, body, hy, hR⟩ := hY (X.take k) (a[k], b[k]) wr.drew (hJ _ _ _ none hJs ⟨rfl, rfl, rfl, Nat.le_refl _, fun _ _ _ => rfl⟩ (fun _ e => by cases e)) (by rw [List.length_take, HL.out]; omega)
      dsimp only [prs] at hy
      have hnext : X.take k ++ [(a[k], b[k])] = X.take (k + 1) := by rw [List.take_add_one, HG.out k hka hkb]; rfl
      rw [hnext] at hR
      have HR := Lib.hid (hR.mono (R' := fun e W' => ∃ o : Bool, e = .returned (.bool o) ∧ Hid ((o = true ∧ J (X.take (k + 1)) W' ∧ Two p wr.drew W') ∨ (o = false ∧ Jx (X.take (k + 1)) W'))) (by
        rintro e W' (⟨rfl, h1, h2⟩ | ⟨rfl, h1⟩)
        · exact ⟨true, rfl, Lib.hid (.inl ⟨rfl, h1, h2⟩)⟩
        · exact ⟨false, rfl, Lib.hid (.inr ⟨rfl, h1⟩)⟩))
      clear hR hnext hY cA cB
      have hmix : Try.prog.follows .mixedOrders = true := by kernel_rfl
      gi_wp2
      gi_region_with_o (refine HR.out.mono ?_; rintro e W3 ⟨o, rfl, h3⟩)
      all_goals
        rcases h3.out with ⟨rfl, hJ3, hk3⟩ | ⟨rfl, hJ3⟩
        · gi_wp2
          go_roundw
          case rel => exact ⟨k + 1, by omega, by go_num, hJ3, hk3.box (show Boxed wr.drew p 9 (.string a) from b1), hk3.box' (show Boxed wr.drew (p + 1) 9 (.string b) from b2)⟩
          case measure => simp [intOf]; omega
        · gi_wp2
          refine bodyPost_ret (results_none rfl _ _ _) rfl ?_
          exact ⟨⟨_, rfl⟩, .inr ⟨_, List.take_prefix _ _, hJ3⟩⟩
    · obtain rfl : k = M := by omega
      gi_wp2
      go_end0
      exact ⟨⟨_, rfl⟩, .inl ⟨X, rfl, by have := hJs; rwa [List.take_of_length_le (by rw [HL.out]; exact Nat.le_refl _)] at this⟩⟩
end Go.Proofs.Ytndipebpccdlfaa.Wd
