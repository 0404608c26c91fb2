/- Words for walks over states (structs of three cells): a call that makes memory, and then writes into what it made; no conditions. -/
import Derived.Test.YtpkpmbigljkneaaDoorMath
import Derived.Test.YtpkpmbigljkneaaDoorNumMath
import Derived.Test.YtpkpmbigljkneaaDoorRows
import Derived.WalkKit
import Derived.ProofKit
import Derived.OpenShut
import Derived.Handy
import Derived.Lib.Hide
import Derived.Deep.RegionHeld3
import Derived.Deep.QuietTactic
import Derived.BigQuiet
namespace Go.Proofs.YtpkpmbigljkneaaDoor.Wd
open Go.RowKit

theorem U_zero : U 0 := ⟨by omega, by omega⟩

/-- A callee that leaves the world alone, inside a region that draws. -/
theorem still_call {P : Program} {f : FuncId} {args : Array Value} {w : World} {n : Nat} {v : Value} (h : Calls P f args (w.drewN n) fun e w' => e = .returned v ∧ w.drewN n = w') :
    Calls P f args (w.drewN n) fun e w' => e = .returned v ∧ ∃ m, w' = w.drewN m := h.mono fun _ _ k => ⟨k.1, n, k.2.symm⟩

theorem Kept.reads {w w' : World} (h : Kept w w') : (∀ b o, b < w.heap.size → w'.cell? ⟨b, o, none⟩ = w.cell? ⟨b, o, none⟩) ∧ (∀ b o, b < w.heap.size → w'.frozen? ⟨b, o, none⟩ = w.frozen? ⟨b, o, none⟩) :=
  ⟨fun b o hb => h.2.cell (p := ⟨b, o, none⟩) hb, fun b o hb => h.2.frozen (p := ⟨b, o, none⟩) hb⟩

theorem Kept.size {w w' : World} (h : Kept w w') : w.heap.size ≤ w'.heap.size := h.2.size
theorem Kept.setCell {w w' : World} (h : Kept w w') {a : Addr} (ha : w.heap.size ≤ a.block) (v : Value) : Kept w (w'.setCell a v) := ⟨h.1.setCell ha v, h.2.setCell ha v⟩

theorem Kept.cell {w w' : World} (h : Kept w w') {b o : Nat} {v : Value} (c : w.cell? ⟨b, o, none⟩ = some v) : w'.cell? ⟨b, o, none⟩ = some v := by
  have hb : b < w.heap.size := by
    by_cases hb : b < w.heap.size
    · exact hb
    · simp [World.cell?, hb] at c
  exact (h.2.cell (p := ⟨b, o, none⟩) hb).trans c

/-- A state, as a value. -/
abbrev sta (k a b : Int) : Value := .agg #[.int .u8 k, .int .u64 a, .int .u64 b]
end Go.Proofs.YtpkpmbigljkneaaDoor.Wd
