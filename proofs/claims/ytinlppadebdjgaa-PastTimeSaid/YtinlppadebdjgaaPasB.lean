/- slices.Backward over a row of events: what its iterator goes through; no conditions but those that each names. -/
import Derived.Test.YtinlppadebdjgaaPasF
import Derived.Test.YtinlppadebdjgaaPasN
import Derived.Shelf.Abstract
import Derived.Shelf.RegionOpen
import Derived.WalkKit
import Derived.OwnWalkIn
import Derived.TacticsInMore
import Derived.LoopNIn
import Derived.LoopIn
namespace Go.Proofs.Ytinlppadebdjgaa.Wd
open Go Go.RowKit Go.Shelf
set_option linter.unusedVariables false
attribute [local go_sem] Oper.semAt_some

/-- An event, as a value. -/
abbrev evt (e : Int × Int) : Value := .agg #[.int .u64 e.1, .int .u64 e.2]
/-- A row of events that lies in memory. -/
def Evs (w : World) (a : Option Addr) (es : List (Int × Int)) : Prop :=
  ∀ i e, es[i]? = some e → ∃ b off, a = some ⟨b, off, none⟩ ∧ w.cell? ⟨b, off + i * 2, none⟩ = some (.int .u64 e.1) ∧ w.cell? ⟨b, off + i * 2 + 1, none⟩ = some (.int .u64 e.2)
/-- The row's block, where there is one. -/
def EvsIn (n₀ : Nat) (w : World) (a : Option Addr) (es : List (Int × Int)) : Prop :=
  ∀ i e, es[i]? = some e → ∃ b off, a = some ⟨b, off, none⟩ ∧ b < n₀ ∧ w.cell? ⟨b, off + i * 2, none⟩ = some (.int .u64 e.1) ∧ w.cell? ⟨b, off + i * 2 + 1, none⟩ = some (.int .u64 e.2)
theorem EvsIn.below {n₀ : Nat} {w w' : World} {a : Option Addr} {es : List (Int × Int)} (h : EvsIn n₀ w a es) (hb : Below n₀ w w') : EvsIn n₀ w' a es := fun i e he => by
  obtain ⟨b, off, h1, h2, h3, h4⟩ := h i e he
  exact ⟨b, off, h1, h2, (hb.cell (p := ⟨b, _, none⟩) h2).trans h3, (hb.cell (p := ⟨b, _, none⟩) h2).trans h4⟩

/-- What comes: from the last one on, with its place. -/
def backs (es : List (Int × Int)) : List (Int × (Int × Int)) := (List.range es.length).map fun k => (((es.length - 1 - k : Nat) : Int), es[es.length - 1 - k]?.getD (0, 0))
theorem backs_length (es : List (Int × Int)) : (backs es).length = es.length := by simp [backs]
theorem backs_get (es : List (Int × Int)) (k : Nat) (h : k < es.length) : (backs es)[k]? = some (((es.length - 1 - k : Nat) : Int), es[es.length - 1 - k]?.getD (0, 0)) := by simp [backs, h]

theorem back_in (F : Fence) (n : Nat) (h : F.fn 34) (hro : F.round = none) (a : Option Addr) (len cap : Nat) (w : World) :
    CallsIn F n Try.prog 34 #[.slice a len cap] w fun e w' => e = .returned (.func (.func 36) #[] #[.pointer (some ⟨w.heap.size, 0, none⟩)]) ∧ w' = w.alloc (.cells #[.slice a len cap] 22) := by
  refine callsIn_of_wp Try.func34 rfl h ?_ hro
  simp only [Try.ntmps34, List.size_toArray, List.length_cons, List.length_nil, Nat.reduceAdd, Nat.reduceSub, Array.replicate_succ, Array.replicate_zero, List.push_toArray, List.append_toArray, List.nil_append, List.cons_append]
  gi_wp2
  go_ret
  exact ⟨rfl, rfl⟩

set_option maxRecDepth 100000 in
set_option maxHeartbeats 2000000 in
theorem back1_gives (F : Fence) (n : Nat) (h : F.fn 36) (hro : F.round = none) (hn : 1 ≤ n) (Bs n₀ cap : Nat) (a : Option Addr) (es : List (Int × Int)) (hlen : es.length ≤ 4611686018427387904) (w : World) (hBs : Boxed w Bs 22 (.slice a es.length cap)) (hn₀ : n₀ ≤ w.heap.size) (hE : EvsIn n₀ w a es) :
    Gives2 F n Try.prog 36 #[.pointer (some ⟨Bs, 0, none⟩)] (fun x : Int × (Int × Int) => #[.int .i64 x.1, evt x.2]) n₀ Bs (backs es) w := by
  intro l J W hW hJ hY h0
  have hb : Bs < w.heap.size := block_of_cell hBs.cell
  have bW : Boxed W Bs 22 (.slice a es.length cap) := (hW.block Bs hb).trans hBs
  have EW := hE.below (hW.mono hn₀)
  clear hE hBs hW hb hn₀
  rw [backs_length]
  have hlen' : IntKind.i64.wrap ((es.length : Int) - 1) = (es.length : Int) - 1 := by rw [IntKind.wrap_i64]; omega
  have c0 := bW.cell
  refine callsIn_of_wp Try.func36 rfl h ?_ hro
  simp only [Try.ntmps36, List.size_toArray, List.length_cons, List.length_nil, Nat.reduceAdd, Nat.reduceSub, Array.replicate_succ, Array.replicate_zero, List.push_toArray, List.append_toArray, List.nil_append, List.cons_append]
  gi_wp2
  gi_loopw [3] (fun i wr => ∃ k : Nat, k ≤ es.length ∧ i = .int .i64 ((es.length : Int) - 1 - k) ∧ J k wr ∧ Boxed wr Bs 22 (.slice a es.length cap) ∧ EvsIn n₀ wr a es)
    (fun i _ => (intOf i + 1).toNat)
  case atStart => exact ⟨0, Nat.zero_le _, by simp, h0, bW, EW⟩
  case round =>
    obtain ⟨k, hk, rfl, hJs, bS, ES⟩ := hrel
    by_cases hlt : k < es.length
    · have hg := backs_get es k hlt
      have hj : es.length - 1 - k < es.length := by omega
      obtain ⟨fn, tmps, assign, body, hy, hR⟩ := hY k _ wr hg hJs
      have he : es[es.length - 1 - k]? = some (es[es.length - 1 - k]?.getD (0, 0)) := by simp [hj]
      obtain ⟨b, off, rfl, hbn, k1, k2⟩ := ES _ _ he
      generalize es[es.length - 1 - k]?.getD (0, 0) = x at *
      have hc : (es.length : Int) - 1 - k = ((es.length - 1 - k : Nat) : Int) := by omega
      rw [hc]
      dsimp only at hy
      have HR := Lib.hid hR
      have HC := Lib.hid hc
      have HE := Lib.hid ES
      have cS := bS.cell
      generalize hjj : es.length - 1 - k = j at *
      have HJ := Lib.hid hjj
      clear hR hc hg he hjj ES EW
      gi_wp2
      refine HR.out.mono ?_
      rintro e W3 ⟨rfl, hJ3, hm3⟩
      have hw : IntKind.i64.wrap ((j : Int) - 1) = (j : Int) - 1 := by rw [IntKind.wrap_i64]; omega
      gi_wp2
      go_roundw
      case rel => exact ⟨k + 1, by omega, by rw [← HC.out]; congr 1; omega, hJ3, hm3.boxOne bS, HE.out.below hm3.below⟩
      case measure => simp [intOf]
    · obtain rfl : k = es.length := by omega
      have hc : (es.length : Int) - 1 - es.length = -1 := by omega
      rw [hc]
      gi_wp2
      go_end0
      exact ⟨⟨_, rfl⟩, hJs⟩
end Go.Proofs.Ytinlppadebdjgaa.Wd
