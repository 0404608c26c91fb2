/-
  No cell of these rows narrows 'for every input' (looked for: loops, veiled, ifaces, maps, wideKeys, modest, calm, conditions, laid).
  DERIVED. THE GIVEN ROWS OF THIS SEAT. 6 by the template 'for every input the law returns true; each argument reads behind the call as it read before'; 0 by the template 'total and deterministic' (their statements: YtbhfhjdljgofjaaTotals.lean).
  GIVEN WITH THE SEED: the statements are not yours to turn. If you find one false, say at which input.
  Laid BY PROGRAM, IN A SANDBOX (cutbox-rows.mjs): the forced cells as the released guide's own fill.sh prints them over the translation df5e99b864193abc… (all of the seat's roots in one cut). By AI agents, Wed Nov 11 2026. No macro, syntax, notation, axiom, sorry.
-/
import Derived.Test.YtbhfhjdljgofjaaChecked
import GoSem.Claim
import GoSem.ClaimJoined
import GoSem.ClaimMapViews
import Derived.JoinedTies
import Derived.KernelRfl
namespace Go.Proofs.Ytbhfhjdljgofjaa
/- THE CELL 'sum', in the pinned program and in every row, IS THE sha256 OF THE DUMP (.gsa) THAT YtbhfhjdljgofjaaProg.lean LOADS. Nothing in Lean hashes anything: it is a label: what it is worth is what the hold of that sum in a sandbox is worth. -/
noncomputable def Try.pinned : Pinned := { name := "ytbhfhjdljgofjaa", sum := "df5e99b864193abc37d8748526cb87200d1de304dcf34ce6b138a24a1af10fc4", checked := Try.checked }
namespace Rows
def none {H : Type} : Left H := { results := [], args := [] }

/-- 'tollerlaw05.BucketAsks': WHATEVER THE INPUT: true; the input reads as it did. -/
def bucketAsksSpec : ChangeSpec := { name := "bucketAsks", fn := fun _ => fun
  | [d1, d2, d3, d4, d5, d6, d7, d8, d9] => { results := [.lit (.bool true)], args := [d1, d2, d3, d4, d5, d6, d7, d8, d9] }
  | _ => none }
def bucketAsksRow : OpenClaim := { program := "ytbhfhjdljgofjaa", sum := "df5e99b864193abc37d8748526cb87200d1de304dcf34ce6b138a24a1af10fc4", func := "toller/tollerlaw05.BucketAsks", spec := "bucketAsks", unfollowed := true, recurses := true, apart := false }
def BucketAsksSaid : Prop := bucketAsksRow.holds Try.pinned (OpenSpec.ofChange bucketAsksSpec)

/-- ITS FALSE NEIGHBOUR: 'it returns false'. Refute it at one input. -/
def bucketAsksWrong : ChangeSpec := { name := "bucketAsks", fn := fun _ => fun
  | [d1, d2, d3, d4, d5, d6, d7, d8, d9] => { results := [.lit (.bool false)], args := [d1, d2, d3, d4, d5, d6, d7, d8, d9] }
  | _ => none }
def BucketAsksWrongFalsely : Prop := bucketAsksRow.holds Try.pinned (OpenSpec.ofChange bucketAsksWrong)

/-- 'tollerlaw05.BucketTime': WHATEVER THE INPUT: true; the input reads as it did. -/
def bucketTimeSpec : ChangeSpec := { name := "bucketTime", fn := fun _ => fun
  | [d1, d2, d3, d4, d5] => { results := [.lit (.bool true)], args := [d1, d2, d3, d4, d5] }
  | _ => none }
def bucketTimeRow : OpenClaim := { program := "ytbhfhjdljgofjaa", sum := "df5e99b864193abc37d8748526cb87200d1de304dcf34ce6b138a24a1af10fc4", func := "toller/tollerlaw05.BucketTime", spec := "bucketTime", unfollowed := true, recurses := true, apart := false }
def BucketTimeSaid : Prop := bucketTimeRow.holds Try.pinned (OpenSpec.ofChange bucketTimeSpec)

/-- ITS FALSE NEIGHBOUR: 'it returns false'. Refute it at one input. -/
def bucketTimeWrong : ChangeSpec := { name := "bucketTime", fn := fun _ => fun
  | [d1, d2, d3, d4, d5] => { results := [.lit (.bool false)], args := [d1, d2, d3, d4, d5] }
  | _ => none }
def BucketTimeWrongFalsely : Prop := bucketTimeRow.holds Try.pinned (OpenSpec.ofChange bucketTimeWrong)

/-- 'tollerlaw05.BucketComes': WHATEVER THE INPUT: true; the input reads as it did. -/
def bucketComesSpec : ChangeSpec := { name := "bucketComes", fn := fun _ => fun
  | [d1, d2, d3, d4, d5] => { results := [.lit (.bool true)], args := [d1, d2, d3, d4, d5] }
  | _ => none }
def bucketComesRow : OpenClaim := { program := "ytbhfhjdljgofjaa", sum := "df5e99b864193abc37d8748526cb87200d1de304dcf34ce6b138a24a1af10fc4", func := "toller/tollerlaw05.BucketComes", spec := "bucketComes", unfollowed := true, recurses := true, apart := false }
def BucketComesSaid : Prop := bucketComesRow.holds Try.pinned (OpenSpec.ofChange bucketComesSpec)

/-- ITS FALSE NEIGHBOUR: 'it returns false'. Refute it at one input. -/
def bucketComesWrong : ChangeSpec := { name := "bucketComes", fn := fun _ => fun
  | [d1, d2, d3, d4, d5] => { results := [.lit (.bool false)], args := [d1, d2, d3, d4, d5] }
  | _ => none }
def BucketComesWrongFalsely : Prop := bucketComesRow.holds Try.pinned (OpenSpec.ofChange bucketComesWrong)

/-- 'tollerlaw05.BucketParts': WHATEVER THE INPUT: true; the input reads as it did. -/
def bucketPartsSpec : ChangeSpec := { name := "bucketParts", fn := fun _ => fun
  | [d1, d2, d3, d4, d5, d6] => { results := [.lit (.bool true)], args := [d1, d2, d3, d4, d5, d6] }
  | _ => none }
def bucketPartsRow : OpenClaim := { program := "ytbhfhjdljgofjaa", sum := "df5e99b864193abc37d8748526cb87200d1de304dcf34ce6b138a24a1af10fc4", func := "toller/tollerlaw05.BucketParts", spec := "bucketParts", unfollowed := true, recurses := true, apart := false }
def BucketPartsSaid : Prop := bucketPartsRow.holds Try.pinned (OpenSpec.ofChange bucketPartsSpec)

/-- ITS FALSE NEIGHBOUR: 'it returns false'. Refute it at one input. -/
def bucketPartsWrong : ChangeSpec := { name := "bucketParts", fn := fun _ => fun
  | [d1, d2, d3, d4, d5, d6] => { results := [.lit (.bool false)], args := [d1, d2, d3, d4, d5, d6] }
  | _ => none }
def BucketPartsWrongFalsely : Prop := bucketPartsRow.holds Try.pinned (OpenSpec.ofChange bucketPartsWrong)

/-- 'tollerlaw05.BucketKind': WHATEVER THE INPUT: true; the input reads as it did. -/
def bucketKindSpec : ChangeSpec := { name := "bucketKind", fn := fun _ => fun
  | [d1, d2, d3, d4, d5] => { results := [.lit (.bool true)], args := [d1, d2, d3, d4, d5] }
  | _ => none }
def bucketKindRow : OpenClaim := { program := "ytbhfhjdljgofjaa", sum := "df5e99b864193abc37d8748526cb87200d1de304dcf34ce6b138a24a1af10fc4", func := "toller/tollerlaw05.BucketKind", spec := "bucketKind", unfollowed := true, recurses := true, apart := false }
def BucketKindSaid : Prop := bucketKindRow.holds Try.pinned (OpenSpec.ofChange bucketKindSpec)

/-- ITS FALSE NEIGHBOUR: 'it returns false'. Refute it at one input. -/
def bucketKindWrong : ChangeSpec := { name := "bucketKind", fn := fun _ => fun
  | [d1, d2, d3, d4, d5] => { results := [.lit (.bool false)], args := [d1, d2, d3, d4, d5] }
  | _ => none }
def BucketKindWrongFalsely : Prop := bucketKindRow.holds Try.pinned (OpenSpec.ofChange bucketKindWrong)

/-- 'tollerlaw05.BucketEmpty': WHATEVER THE INPUT: true; the input reads as it did. -/
def bucketEmptySpec : ChangeSpec := { name := "bucketEmpty", fn := fun _ => fun
  | [d1, d2, d3] => { results := [.lit (.bool true)], args := [d1, d2, d3] }
  | _ => none }
def bucketEmptyRow : OpenClaim := { program := "ytbhfhjdljgofjaa", sum := "df5e99b864193abc37d8748526cb87200d1de304dcf34ce6b138a24a1af10fc4", func := "toller/tollerlaw05.BucketEmpty", spec := "bucketEmpty", unfollowed := true, recurses := true, apart := false }
def BucketEmptySaid : Prop := bucketEmptyRow.holds Try.pinned (OpenSpec.ofChange bucketEmptySpec)

/-- ITS FALSE NEIGHBOUR: 'it returns false'. Refute it at one input. -/
def bucketEmptyWrong : ChangeSpec := { name := "bucketEmpty", fn := fun _ => fun
  | [d1, d2, d3] => { results := [.lit (.bool false)], args := [d1, d2, d3] }
  | _ => none }
def BucketEmptyWrongFalsely : Prop := bucketEmptyRow.holds Try.pinned (OpenSpec.ofChange bucketEmptyWrong)

/- THE SECOND FORM. 'bulk': how many values and letters a reading holds, each counted each time it is reached (what is shared counts as often as it is met; a slice's spare places count too). A statement '..UptoSaid' is the law's where the arguments, and the package variables that the reading takes, are together of bulk at most 1048576: NARROWER than '..Said'. Prove '..Said' where nothing that the law and all that it calls make is longer than what came in: it says more and counts as full. Else prove '..UptoSaid'. A law counts once. -/
mutual
def uptoBulk {H : Type} : DataW H → Nat
  | .lit (.string bytes) => bytes.length + 1
  | .lit _ => 1
  | .nil => 1
  | .ptr d => uptoBulk d + 1
  | .slice elems spare => uptoBulkAll elems + uptoBulkAll spare + 1
  | .agg parts => uptoBulkAll parts + 1
  | .iface _ d => uptoBulk d + 1
  | .map entries => uptoBulkEntries entries + 1
  | .held _ => 1
def uptoBulkAll {H : Type} : List (DataW H) → Nat
  | [] => 0
  | d :: r => uptoBulk d + uptoBulkAll r
def uptoBulkEntries {H : Type} : List (Lit × DataW H) → Nat
  | [] => 0
  | x :: r => uptoBulkEntry x + uptoBulkEntries r
def uptoBulkEntry {H : Type} : Lit × DataW H → Nat
  | (.string bytes, d) => bytes.length + uptoBulk d + 1
  | (_, d) => uptoBulk d + 1
 end
def uptoSmall : (H : Type) → List (DataW H) → Bool := fun _ ds => decide (uptoBulkAll ds ≤ 1048576)
def OpenSpec.upto (s : _root_.Go.ChangeSpec) : _root_.Go.OpenSpec := { _root_.Go.OpenSpec.ofChange s with cond := some uptoSmall }

/-- 'tollerlaw05.BucketAsks', WHERE WHAT IT READS IS OF BULK AT MOST 1048576: true; the input reads as it did. -/
def bucketAsksUptoRow : OpenClaim := { program := "ytbhfhjdljgofjaa", sum := "df5e99b864193abc37d8748526cb87200d1de304dcf34ce6b138a24a1af10fc4", func := "toller/tollerlaw05.BucketAsks", spec := "bucketAsks", unfollowed := true, recurses := true, apart := false, narrowed := true }
def BucketAsksUptoSaid : Prop := bucketAsksUptoRow.holds Try.pinned (OpenSpec.upto bucketAsksSpec)

/-- 'tollerlaw05.BucketTime', WHERE WHAT IT READS IS OF BULK AT MOST 1048576: true; the input reads as it did. -/
def bucketTimeUptoRow : OpenClaim := { program := "ytbhfhjdljgofjaa", sum := "df5e99b864193abc37d8748526cb87200d1de304dcf34ce6b138a24a1af10fc4", func := "toller/tollerlaw05.BucketTime", spec := "bucketTime", unfollowed := true, recurses := true, apart := false, narrowed := true }
def BucketTimeUptoSaid : Prop := bucketTimeUptoRow.holds Try.pinned (OpenSpec.upto bucketTimeSpec)

/-- 'tollerlaw05.BucketComes', WHERE WHAT IT READS IS OF BULK AT MOST 1048576: true; the input reads as it did. -/
def bucketComesUptoRow : OpenClaim := { program := "ytbhfhjdljgofjaa", sum := "df5e99b864193abc37d8748526cb87200d1de304dcf34ce6b138a24a1af10fc4", func := "toller/tollerlaw05.BucketComes", spec := "bucketComes", unfollowed := true, recurses := true, apart := false, narrowed := true }
def BucketComesUptoSaid : Prop := bucketComesUptoRow.holds Try.pinned (OpenSpec.upto bucketComesSpec)

/-- 'tollerlaw05.BucketParts', WHERE WHAT IT READS IS OF BULK AT MOST 1048576: true; the input reads as it did. -/
def bucketPartsUptoRow : OpenClaim := { program := "ytbhfhjdljgofjaa", sum := "df5e99b864193abc37d8748526cb87200d1de304dcf34ce6b138a24a1af10fc4", func := "toller/tollerlaw05.BucketParts", spec := "bucketParts", unfollowed := true, recurses := true, apart := false, narrowed := true }
def BucketPartsUptoSaid : Prop := bucketPartsUptoRow.holds Try.pinned (OpenSpec.upto bucketPartsSpec)

/-- 'tollerlaw05.BucketKind', WHERE WHAT IT READS IS OF BULK AT MOST 1048576: true; the input reads as it did. -/
def bucketKindUptoRow : OpenClaim := { program := "ytbhfhjdljgofjaa", sum := "df5e99b864193abc37d8748526cb87200d1de304dcf34ce6b138a24a1af10fc4", func := "toller/tollerlaw05.BucketKind", spec := "bucketKind", unfollowed := true, recurses := true, apart := false, narrowed := true }
def BucketKindUptoSaid : Prop := bucketKindUptoRow.holds Try.pinned (OpenSpec.upto bucketKindSpec)

/-- 'tollerlaw05.BucketEmpty', WHERE WHAT IT READS IS OF BULK AT MOST 1048576: true; the input reads as it did. -/
def bucketEmptyUptoRow : OpenClaim := { program := "ytbhfhjdljgofjaa", sum := "df5e99b864193abc37d8748526cb87200d1de304dcf34ce6b138a24a1af10fc4", func := "toller/tollerlaw05.BucketEmpty", spec := "bucketEmpty", unfollowed := true, recurses := true, apart := false, narrowed := true }
def BucketEmptyUptoSaid : Prop := bucketEmptyUptoRow.holds Try.pinned (OpenSpec.upto bucketEmptySpec)

end Rows
end Go.Proofs.Ytbhfhjdljgofjaa
