/-
  No cell of these rows narrows 'for every input' (looked for: loops, veiled, ifaces, maps, wideKeys, modest, calm, conditions, laid).
  DERIVED. THE GIVEN ROWS OF THIS SEAT. 6 by the template 'for every input the law returns true; each argument reads behind the call as it read before'; 0 by the template 'total and deterministic' (their statements: YtimhjfjhhiddoaaTotals.lean).
  GIVEN WITH THE SEED: the statements are not yours to turn. If you find one false, say at which input.
  Laid BY PROGRAM, IN A SANDBOX (cutbox-rows.mjs): the forced cells as the released guide's own fill.sh prints them over the translation 32aa840c55ce4c9c… (all of the seat's roots in one cut). By AI agents, Wed Nov 11 2026. No macro, syntax, notation, axiom, sorry.
-/
import Derived.Test.YtimhjfjhhiddoaaChecked
import GoSem.Claim
import GoSem.ClaimJoined
import GoSem.ClaimMapViews
import Derived.JoinedTies
import Derived.KernelRfl
namespace Go.Proofs.Ytimhjfjhhiddoaa
/- THE CELL 'sum', in the pinned program and in every row, IS THE sha256 OF THE DUMP (.gsa) THAT YtimhjfjhhiddoaaProg.lean LOADS. Nothing in Lean hashes anything: it is a label: what it is worth is what the hold of that sum in a sandbox is worth. -/
noncomputable def Try.pinned : Pinned := { name := "ytimhjfjhhiddoaa", sum := "32aa840c55ce4c9cbf4e52086a6ffb3ef4ace81e86a4fb079d48bcfe2ffd0ad8", checked := Try.checked }
namespace Rows
def none {H : Type} : Left H := { results := [], args := [] }

/-- 'tollerlaw03.DigitAsks': WHATEVER THE INPUT: true; the input reads as it did. -/
def digitAsksSpec : ChangeSpec := { name := "digitAsks", fn := fun _ => fun
  | [d1, d2, d3, d4, d5, d6] => { results := [.lit (.bool true)], args := [d1, d2, d3, d4, d5, d6] }
  | _ => none }
def digitAsksRow : OpenClaim := { program := "ytimhjfjhhiddoaa", sum := "32aa840c55ce4c9cbf4e52086a6ffb3ef4ace81e86a4fb079d48bcfe2ffd0ad8", func := "toller/tollerlaw03.DigitAsks", spec := "digitAsks", apart := false }
def DigitAsksSaid : Prop := digitAsksRow.holds Try.pinned (OpenSpec.ofChange digitAsksSpec)

/-- ITS FALSE NEIGHBOUR: 'it returns false'. Refute it at one input. -/
def digitAsksWrong : ChangeSpec := { name := "digitAsks", fn := fun _ => fun
  | [d1, d2, d3, d4, d5, d6] => { results := [.lit (.bool false)], args := [d1, d2, d3, d4, d5, d6] }
  | _ => none }
def DigitAsksWrongFalsely : Prop := digitAsksRow.holds Try.pinned (OpenSpec.ofChange digitAsksWrong)

/-- 'tollerlaw03.DigitBack': WHATEVER THE INPUT: true; the input reads as it did. -/
def digitBackSpec : ChangeSpec := { name := "digitBack", fn := fun _ => fun
  | [d1, d2, d3] => { results := [.lit (.bool true)], args := [d1, d2, d3] }
  | _ => none }
def digitBackRow : OpenClaim := { program := "ytimhjfjhhiddoaa", sum := "32aa840c55ce4c9cbf4e52086a6ffb3ef4ace81e86a4fb079d48bcfe2ffd0ad8", func := "toller/tollerlaw03.DigitBack", spec := "digitBack", apart := false }
def DigitBackSaid : Prop := digitBackRow.holds Try.pinned (OpenSpec.ofChange digitBackSpec)

/-- ITS FALSE NEIGHBOUR: 'it returns false'. Refute it at one input. -/
def digitBackWrong : ChangeSpec := { name := "digitBack", fn := fun _ => fun
  | [d1, d2, d3] => { results := [.lit (.bool false)], args := [d1, d2, d3] }
  | _ => none }
def DigitBackWrongFalsely : Prop := digitBackRow.holds Try.pinned (OpenSpec.ofChange digitBackWrong)

/-- 'tollerlaw03.DigitSteps': WHATEVER THE INPUT: true; the input reads as it did. -/
def digitStepsSpec : ChangeSpec := { name := "digitSteps", fn := fun _ => fun
  | [d1, d2, d3] => { results := [.lit (.bool true)], args := [d1, d2, d3] }
  | _ => none }
def digitStepsRow : OpenClaim := { program := "ytimhjfjhhiddoaa", sum := "32aa840c55ce4c9cbf4e52086a6ffb3ef4ace81e86a4fb079d48bcfe2ffd0ad8", func := "toller/tollerlaw03.DigitSteps", spec := "digitSteps", apart := false }
def DigitStepsSaid : Prop := digitStepsRow.holds Try.pinned (OpenSpec.ofChange digitStepsSpec)

/-- ITS FALSE NEIGHBOUR: 'it returns false'. Refute it at one input. -/
def digitStepsWrong : ChangeSpec := { name := "digitSteps", fn := fun _ => fun
  | [d1, d2, d3] => { results := [.lit (.bool false)], args := [d1, d2, d3] }
  | _ => none }
def DigitStepsWrongFalsely : Prop := digitStepsRow.holds Try.pinned (OpenSpec.ofChange digitStepsWrong)

/-- 'tollerlaw03.DigitOrder': WHATEVER THE INPUT: true; the input reads as it did. -/
def digitOrderSpec : ChangeSpec := { name := "digitOrder", fn := fun _ => fun
  | [d1, d2] => { results := [.lit (.bool true)], args := [d1, d2] }
  | _ => none }
def digitOrderRow : OpenClaim := { program := "ytimhjfjhhiddoaa", sum := "32aa840c55ce4c9cbf4e52086a6ffb3ef4ace81e86a4fb079d48bcfe2ffd0ad8", func := "toller/tollerlaw03.DigitOrder", spec := "digitOrder", apart := false }
def DigitOrderSaid : Prop := digitOrderRow.holds Try.pinned (OpenSpec.ofChange digitOrderSpec)

/-- ITS FALSE NEIGHBOUR: 'it returns false'. Refute it at one input. -/
def digitOrderWrong : ChangeSpec := { name := "digitOrder", fn := fun _ => fun
  | [d1, d2] => { results := [.lit (.bool false)], args := [d1, d2] }
  | _ => none }
def DigitOrderWrongFalsely : Prop := digitOrderRow.holds Try.pinned (OpenSpec.ofChange digitOrderWrong)

/-- 'tollerlaw03.DigitBytes': WHATEVER THE INPUT: true; the input reads as it did. -/
def digitBytesSpec : ChangeSpec := { name := "digitBytes", fn := fun _ => fun
  | [d1, d2, d3] => { results := [.lit (.bool true)], args := [d1, d2, d3] }
  | _ => none }
def digitBytesRow : OpenClaim := { program := "ytimhjfjhhiddoaa", sum := "32aa840c55ce4c9cbf4e52086a6ffb3ef4ace81e86a4fb079d48bcfe2ffd0ad8", func := "toller/tollerlaw03.DigitBytes", spec := "digitBytes", apart := false }
def DigitBytesSaid : Prop := digitBytesRow.holds Try.pinned (OpenSpec.ofChange digitBytesSpec)

/-- ITS FALSE NEIGHBOUR: 'it returns false'. Refute it at one input. -/
def digitBytesWrong : ChangeSpec := { name := "digitBytes", fn := fun _ => fun
  | [d1, d2, d3] => { results := [.lit (.bool false)], args := [d1, d2, d3] }
  | _ => none }
def DigitBytesWrongFalsely : Prop := digitBytesRow.holds Try.pinned (OpenSpec.ofChange digitBytesWrong)

/-- 'tollerlaw03.DigitWidths': WHATEVER THE INPUT: true; the input reads as it did. -/
def digitWidthsSpec : ChangeSpec := { name := "digitWidths", fn := fun _ => fun
  | [d] => { results := [.lit (.bool true)], args := [d] }
  | _ => none }
def digitWidthsRow : OpenClaim := { program := "ytimhjfjhhiddoaa", sum := "32aa840c55ce4c9cbf4e52086a6ffb3ef4ace81e86a4fb079d48bcfe2ffd0ad8", func := "toller/tollerlaw03.DigitWidths", spec := "digitWidths", apart := false }
def DigitWidthsSaid : Prop := digitWidthsRow.holds Try.pinned (OpenSpec.ofChange digitWidthsSpec)

/-- ITS FALSE NEIGHBOUR: 'it returns false'. Refute it at one input. -/
def digitWidthsWrong : ChangeSpec := { name := "digitWidths", fn := fun _ => fun
  | [d] => { results := [.lit (.bool false)], args := [d] }
  | _ => none }
def DigitWidthsWrongFalsely : Prop := digitWidthsRow.holds Try.pinned (OpenSpec.ofChange digitWidthsWrong)

/- THE SECOND FORM. 'bulk': how many values and letters a reading holds, each counted each time it is reached (what is shared counts as often as it is met; a slice's spare places count too). A statement '..UptoSaid' is the law's where the arguments, and the package variables that the reading takes, are together of bulk at most 1048576: NARROWER than '..Said'. Prove '..Said' where nothing that the law and all that it calls make is longer than what came in: it says more and counts as full. Else prove '..UptoSaid'. A law counts once. -/
mutual
def uptoBulk {H : Type} : DataW H → Nat
  | .lit (.string bytes) => bytes.length + 1
  | .lit _ => 1
  | .nil => 1
  | .ptr d => uptoBulk d + 1
  | .slice elems spare => uptoBulkAll elems + uptoBulkAll spare + 1
  | .agg parts => uptoBulkAll parts + 1
  | .iface _ d => uptoBulk d + 1
  | .map entries => uptoBulkEntries entries + 1
  | .held _ => 1
def uptoBulkAll {H : Type} : List (DataW H) → Nat
  | [] => 0
  | d :: r => uptoBulk d + uptoBulkAll r
def uptoBulkEntries {H : Type} : List (Lit × DataW H) → Nat
  | [] => 0
  | x :: r => uptoBulkEntry x + uptoBulkEntries r
def uptoBulkEntry {H : Type} : Lit × DataW H → Nat
  | (.string bytes, d) => bytes.length + uptoBulk d + 1
  | (_, d) => uptoBulk d + 1
 end
def uptoSmall : (H : Type) → List (DataW H) → Bool := fun _ ds => decide (uptoBulkAll ds ≤ 1048576)
def OpenSpec.upto (s : _root_.Go.ChangeSpec) : _root_.Go.OpenSpec := { _root_.Go.OpenSpec.ofChange s with cond := some uptoSmall }

/-- 'tollerlaw03.DigitAsks', WHERE WHAT IT READS IS OF BULK AT MOST 1048576: true; the input reads as it did. -/
def digitAsksUptoRow : OpenClaim := { program := "ytimhjfjhhiddoaa", sum := "32aa840c55ce4c9cbf4e52086a6ffb3ef4ace81e86a4fb079d48bcfe2ffd0ad8", func := "toller/tollerlaw03.DigitAsks", spec := "digitAsks", apart := false, narrowed := true }
def DigitAsksUptoSaid : Prop := digitAsksUptoRow.holds Try.pinned (OpenSpec.upto digitAsksSpec)

/-- 'tollerlaw03.DigitBack', WHERE WHAT IT READS IS OF BULK AT MOST 1048576: true; the input reads as it did. -/
def digitBackUptoRow : OpenClaim := { program := "ytimhjfjhhiddoaa", sum := "32aa840c55ce4c9cbf4e52086a6ffb3ef4ace81e86a4fb079d48bcfe2ffd0ad8", func := "toller/tollerlaw03.DigitBack", spec := "digitBack", apart := false, narrowed := true }
def DigitBackUptoSaid : Prop := digitBackUptoRow.holds Try.pinned (OpenSpec.upto digitBackSpec)

/-- 'tollerlaw03.DigitSteps', WHERE WHAT IT READS IS OF BULK AT MOST 1048576: true; the input reads as it did. -/
def digitStepsUptoRow : OpenClaim := { program := "ytimhjfjhhiddoaa", sum := "32aa840c55ce4c9cbf4e52086a6ffb3ef4ace81e86a4fb079d48bcfe2ffd0ad8", func := "toller/tollerlaw03.DigitSteps", spec := "digitSteps", apart := false, narrowed := true }
def DigitStepsUptoSaid : Prop := digitStepsUptoRow.holds Try.pinned (OpenSpec.upto digitStepsSpec)

/-- 'tollerlaw03.DigitOrder', WHERE WHAT IT READS IS OF BULK AT MOST 1048576: true; the input reads as it did. -/
def digitOrderUptoRow : OpenClaim := { program := "ytimhjfjhhiddoaa", sum := "32aa840c55ce4c9cbf4e52086a6ffb3ef4ace81e86a4fb079d48bcfe2ffd0ad8", func := "toller/tollerlaw03.DigitOrder", spec := "digitOrder", apart := false, narrowed := true }
def DigitOrderUptoSaid : Prop := digitOrderUptoRow.holds Try.pinned (OpenSpec.upto digitOrderSpec)

/-- 'tollerlaw03.DigitBytes', WHERE WHAT IT READS IS OF BULK AT MOST 1048576: true; the input reads as it did. -/
def digitBytesUptoRow : OpenClaim := { program := "ytimhjfjhhiddoaa", sum := "32aa840c55ce4c9cbf4e52086a6ffb3ef4ace81e86a4fb079d48bcfe2ffd0ad8", func := "toller/tollerlaw03.DigitBytes", spec := "digitBytes", apart := false, narrowed := true }
def DigitBytesUptoSaid : Prop := digitBytesUptoRow.holds Try.pinned (OpenSpec.upto digitBytesSpec)

/-- 'tollerlaw03.DigitWidths', WHERE WHAT IT READS IS OF BULK AT MOST 1048576: true; the input reads as it did. -/
def digitWidthsUptoRow : OpenClaim := { program := "ytimhjfjhhiddoaa", sum := "32aa840c55ce4c9cbf4e52086a6ffb3ef4ace81e86a4fb079d48bcfe2ffd0ad8", func := "toller/tollerlaw03.DigitWidths", spec := "digitWidths", apart := false, narrowed := true }
def DigitWidthsUptoSaid : Prop := digitWidthsUptoRow.holds Try.pinned (OpenSpec.upto digitWidthsSpec)

end Rows
end Go.Proofs.Ytimhjfjhhiddoaa
