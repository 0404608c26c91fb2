/-
  No cell of these rows narrows 'for every input' (looked for: loops, veiled, ifaces, maps, wideKeys, modest, calm, conditions, laid).
  DERIVED. THE GIVEN ROWS OF THIS SEAT. 6 by the template 'for every input the law returns true; each argument reads behind the call as it read before'; 0 by the template 'total and deterministic' (their statements: YtomdiidolgofmaaTotals.lean).
  GIVEN WITH THE SEED: the statements are not yours to turn. If you find one false, say at which input.
  Laid BY PROGRAM, IN A SANDBOX (cutbox-rows.mjs): the forced cells as the released guide's own fill.sh prints them over the translation ad4826d544572b2b… (all of the seat's roots in one cut). By AI agents, Wed Nov 11 2026. No macro, syntax, notation, axiom, sorry.
-/
import Derived.Test.YtomdiidolgofmaaChecked
import GoSem.Claim
import GoSem.ClaimJoined
import GoSem.ClaimMapViews
import Derived.JoinedTies
import Derived.KernelRfl
namespace Go.Proofs.Ytomdiidolgofmaa
/- THE CELL 'sum', in the pinned program and in every row, IS THE sha256 OF THE DUMP (.gsa) THAT YtomdiidolgofmaaProg.lean LOADS. Nothing in Lean hashes anything: it is a label: what it is worth is what the hold of that sum in a sandbox is worth. -/
noncomputable def Try.pinned : Pinned := { name := "ytomdiidolgofmaa", sum := "ad4826d544572b2b344c75a22dc6bb71c32aecc4f3783a6513bf0966f0822c0f", checked := Try.checked }
namespace Rows
def none {H : Type} : Left H := { results := [], args := [] }

/-- 'tollerlaw06.GcraAsks': WHATEVER THE INPUT: true; the input reads as it did. -/
def gcraAsksSpec : ChangeSpec := { name := "gcraAsks", fn := fun _ => fun
  | [d1, d2, d3, d4, d5, d6, d7, d8, d9] => { results := [.lit (.bool true)], args := [d1, d2, d3, d4, d5, d6, d7, d8, d9] }
  | _ => none }
def gcraAsksRow : OpenClaim := { program := "ytomdiidolgofmaa", sum := "ad4826d544572b2b344c75a22dc6bb71c32aecc4f3783a6513bf0966f0822c0f", func := "toller/tollerlaw06.GcraAsks", spec := "gcraAsks", apart := false }
def GcraAsksSaid : Prop := gcraAsksRow.holds Try.pinned (OpenSpec.ofChange gcraAsksSpec)

/-- ITS FALSE NEIGHBOUR: 'it returns false'. Refute it at one input. -/
def gcraAsksWrong : ChangeSpec := { name := "gcraAsks", fn := fun _ => fun
  | [d1, d2, d3, d4, d5, d6, d7, d8, d9] => { results := [.lit (.bool false)], args := [d1, d2, d3, d4, d5, d6, d7, d8, d9] }
  | _ => none }
def GcraAsksWrongFalsely : Prop := gcraAsksRow.holds Try.pinned (OpenSpec.ofChange gcraAsksWrong)

/-- 'tollerlaw06.GcraTime': WHATEVER THE INPUT: true; the input reads as it did. -/
def gcraTimeSpec : ChangeSpec := { name := "gcraTime", fn := fun _ => fun
  | [d1, d2, d3, d4, d5] => { results := [.lit (.bool true)], args := [d1, d2, d3, d4, d5] }
  | _ => none }
def gcraTimeRow : OpenClaim := { program := "ytomdiidolgofmaa", sum := "ad4826d544572b2b344c75a22dc6bb71c32aecc4f3783a6513bf0966f0822c0f", func := "toller/tollerlaw06.GcraTime", spec := "gcraTime", apart := false }
def GcraTimeSaid : Prop := gcraTimeRow.holds Try.pinned (OpenSpec.ofChange gcraTimeSpec)

/-- ITS FALSE NEIGHBOUR: 'it returns false'. Refute it at one input. -/
def gcraTimeWrong : ChangeSpec := { name := "gcraTime", fn := fun _ => fun
  | [d1, d2, d3, d4, d5] => { results := [.lit (.bool false)], args := [d1, d2, d3, d4, d5] }
  | _ => none }
def GcraTimeWrongFalsely : Prop := gcraTimeRow.holds Try.pinned (OpenSpec.ofChange gcraTimeWrong)

/-- 'tollerlaw06.GcraComes': WHATEVER THE INPUT: true; the input reads as it did. -/
def gcraComesSpec : ChangeSpec := { name := "gcraComes", fn := fun _ => fun
  | [d1, d2, d3, d4, d5] => { results := [.lit (.bool true)], args := [d1, d2, d3, d4, d5] }
  | _ => none }
def gcraComesRow : OpenClaim := { program := "ytomdiidolgofmaa", sum := "ad4826d544572b2b344c75a22dc6bb71c32aecc4f3783a6513bf0966f0822c0f", func := "toller/tollerlaw06.GcraComes", spec := "gcraComes", apart := false }
def GcraComesSaid : Prop := gcraComesRow.holds Try.pinned (OpenSpec.ofChange gcraComesSpec)

/-- ITS FALSE NEIGHBOUR: 'it returns false'. Refute it at one input. -/
def gcraComesWrong : ChangeSpec := { name := "gcraComes", fn := fun _ => fun
  | [d1, d2, d3, d4, d5] => { results := [.lit (.bool false)], args := [d1, d2, d3, d4, d5] }
  | _ => none }
def GcraComesWrongFalsely : Prop := gcraComesRow.holds Try.pinned (OpenSpec.ofChange gcraComesWrong)

/-- 'tollerlaw06.GcraParts': WHATEVER THE INPUT: true; the input reads as it did. -/
def gcraPartsSpec : ChangeSpec := { name := "gcraParts", fn := fun _ => fun
  | [d1, d2, d3, d4, d5, d6] => { results := [.lit (.bool true)], args := [d1, d2, d3, d4, d5, d6] }
  | _ => none }
def gcraPartsRow : OpenClaim := { program := "ytomdiidolgofmaa", sum := "ad4826d544572b2b344c75a22dc6bb71c32aecc4f3783a6513bf0966f0822c0f", func := "toller/tollerlaw06.GcraParts", spec := "gcraParts", apart := false }
def GcraPartsSaid : Prop := gcraPartsRow.holds Try.pinned (OpenSpec.ofChange gcraPartsSpec)

/-- ITS FALSE NEIGHBOUR: 'it returns false'. Refute it at one input. -/
def gcraPartsWrong : ChangeSpec := { name := "gcraParts", fn := fun _ => fun
  | [d1, d2, d3, d4, d5, d6] => { results := [.lit (.bool false)], args := [d1, d2, d3, d4, d5, d6] }
  | _ => none }
def GcraPartsWrongFalsely : Prop := gcraPartsRow.holds Try.pinned (OpenSpec.ofChange gcraPartsWrong)

/-- 'tollerlaw06.GcraKind': WHATEVER THE INPUT: true; the input reads as it did. -/
def gcraKindSpec : ChangeSpec := { name := "gcraKind", fn := fun _ => fun
  | [d1, d2, d3, d4, d5, d6] => { results := [.lit (.bool true)], args := [d1, d2, d3, d4, d5, d6] }
  | _ => none }
def gcraKindRow : OpenClaim := { program := "ytomdiidolgofmaa", sum := "ad4826d544572b2b344c75a22dc6bb71c32aecc4f3783a6513bf0966f0822c0f", func := "toller/tollerlaw06.GcraKind", spec := "gcraKind", apart := false }
def GcraKindSaid : Prop := gcraKindRow.holds Try.pinned (OpenSpec.ofChange gcraKindSpec)

/-- ITS FALSE NEIGHBOUR: 'it returns false'. Refute it at one input. -/
def gcraKindWrong : ChangeSpec := { name := "gcraKind", fn := fun _ => fun
  | [d1, d2, d3, d4, d5, d6] => { results := [.lit (.bool false)], args := [d1, d2, d3, d4, d5, d6] }
  | _ => none }
def GcraKindWrongFalsely : Prop := gcraKindRow.holds Try.pinned (OpenSpec.ofChange gcraKindWrong)

/-- 'tollerlaw06.GcraEmpty': WHATEVER THE INPUT: true; the input reads as it did. -/
def gcraEmptySpec : ChangeSpec := { name := "gcraEmpty", fn := fun _ => fun
  | [d1, d2, d3] => { results := [.lit (.bool true)], args := [d1, d2, d3] }
  | _ => none }
def gcraEmptyRow : OpenClaim := { program := "ytomdiidolgofmaa", sum := "ad4826d544572b2b344c75a22dc6bb71c32aecc4f3783a6513bf0966f0822c0f", func := "toller/tollerlaw06.GcraEmpty", spec := "gcraEmpty", apart := false }
def GcraEmptySaid : Prop := gcraEmptyRow.holds Try.pinned (OpenSpec.ofChange gcraEmptySpec)

/-- ITS FALSE NEIGHBOUR: 'it returns false'. Refute it at one input. -/
def gcraEmptyWrong : ChangeSpec := { name := "gcraEmpty", fn := fun _ => fun
  | [d1, d2, d3] => { results := [.lit (.bool false)], args := [d1, d2, d3] }
  | _ => none }
def GcraEmptyWrongFalsely : Prop := gcraEmptyRow.holds Try.pinned (OpenSpec.ofChange gcraEmptyWrong)

/- THE SECOND FORM. 'bulk': how many values and letters a reading holds, each counted each time it is reached (what is shared counts as often as it is met; a slice's spare places count too). A statement '..UptoSaid' is the law's where the arguments, and the package variables that the reading takes, are together of bulk at most 1048576: NARROWER than '..Said'. Prove '..Said' where nothing that the law and all that it calls make is longer than what came in: it says more and counts as full. Else prove '..UptoSaid'. A law counts once. -/
mutual
def uptoBulk {H : Type} : DataW H → Nat
  | .lit (.string bytes) => bytes.length + 1
  | .lit _ => 1
  | .nil => 1
  | .ptr d => uptoBulk d + 1
  | .slice elems spare => uptoBulkAll elems + uptoBulkAll spare + 1
  | .agg parts => uptoBulkAll parts + 1
  | .iface _ d => uptoBulk d + 1
  | .map entries => uptoBulkEntries entries + 1
  | .held _ => 1
def uptoBulkAll {H : Type} : List (DataW H) → Nat
  | [] => 0
  | d :: r => uptoBulk d + uptoBulkAll r
def uptoBulkEntries {H : Type} : List (Lit × DataW H) → Nat
  | [] => 0
  | x :: r => uptoBulkEntry x + uptoBulkEntries r
def uptoBulkEntry {H : Type} : Lit × DataW H → Nat
  | (.string bytes, d) => bytes.length + uptoBulk d + 1
  | (_, d) => uptoBulk d + 1
 end
def uptoSmall : (H : Type) → List (DataW H) → Bool := fun _ ds => decide (uptoBulkAll ds ≤ 1048576)
def OpenSpec.upto (s : _root_.Go.ChangeSpec) : _root_.Go.OpenSpec := { _root_.Go.OpenSpec.ofChange s with cond := some uptoSmall }

/-- 'tollerlaw06.GcraAsks', WHERE WHAT IT READS IS OF BULK AT MOST 1048576: true; the input reads as it did. -/
def gcraAsksUptoRow : OpenClaim := { program := "ytomdiidolgofmaa", sum := "ad4826d544572b2b344c75a22dc6bb71c32aecc4f3783a6513bf0966f0822c0f", func := "toller/tollerlaw06.GcraAsks", spec := "gcraAsks", apart := false, narrowed := true }
def GcraAsksUptoSaid : Prop := gcraAsksUptoRow.holds Try.pinned (OpenSpec.upto gcraAsksSpec)

/-- 'tollerlaw06.GcraTime', WHERE WHAT IT READS IS OF BULK AT MOST 1048576: true; the input reads as it did. -/
def gcraTimeUptoRow : OpenClaim := { program := "ytomdiidolgofmaa", sum := "ad4826d544572b2b344c75a22dc6bb71c32aecc4f3783a6513bf0966f0822c0f", func := "toller/tollerlaw06.GcraTime", spec := "gcraTime", apart := false, narrowed := true }
def GcraTimeUptoSaid : Prop := gcraTimeUptoRow.holds Try.pinned (OpenSpec.upto gcraTimeSpec)

/-- 'tollerlaw06.GcraComes', WHERE WHAT IT READS IS OF BULK AT MOST 1048576: true; the input reads as it did. -/
def gcraComesUptoRow : OpenClaim := { program := "ytomdiidolgofmaa", sum := "ad4826d544572b2b344c75a22dc6bb71c32aecc4f3783a6513bf0966f0822c0f", func := "toller/tollerlaw06.GcraComes", spec := "gcraComes", apart := false, narrowed := true }
def GcraComesUptoSaid : Prop := gcraComesUptoRow.holds Try.pinned (OpenSpec.upto gcraComesSpec)

/-- 'tollerlaw06.GcraParts', WHERE WHAT IT READS IS OF BULK AT MOST 1048576: true; the input reads as it did. -/
def gcraPartsUptoRow : OpenClaim := { program := "ytomdiidolgofmaa", sum := "ad4826d544572b2b344c75a22dc6bb71c32aecc4f3783a6513bf0966f0822c0f", func := "toller/tollerlaw06.GcraParts", spec := "gcraParts", apart := false, narrowed := true }
def GcraPartsUptoSaid : Prop := gcraPartsUptoRow.holds Try.pinned (OpenSpec.upto gcraPartsSpec)

/-- 'tollerlaw06.GcraKind', WHERE WHAT IT READS IS OF BULK AT MOST 1048576: true; the input reads as it did. -/
def gcraKindUptoRow : OpenClaim := { program := "ytomdiidolgofmaa", sum := "ad4826d544572b2b344c75a22dc6bb71c32aecc4f3783a6513bf0966f0822c0f", func := "toller/tollerlaw06.GcraKind", spec := "gcraKind", apart := false, narrowed := true }
def GcraKindUptoSaid : Prop := gcraKindUptoRow.holds Try.pinned (OpenSpec.upto gcraKindSpec)

/-- 'tollerlaw06.GcraEmpty', WHERE WHAT IT READS IS OF BULK AT MOST 1048576: true; the input reads as it did. -/
def gcraEmptyUptoRow : OpenClaim := { program := "ytomdiidolgofmaa", sum := "ad4826d544572b2b344c75a22dc6bb71c32aecc4f3783a6513bf0966f0822c0f", func := "toller/tollerlaw06.GcraEmpty", spec := "gcraEmpty", apart := false, narrowed := true }
def GcraEmptyUptoSaid : Prop := gcraEmptyUptoRow.holds Try.pinned (OpenSpec.upto gcraEmptySpec)

end Rows
end Go.Proofs.Ytomdiidolgofmaa
