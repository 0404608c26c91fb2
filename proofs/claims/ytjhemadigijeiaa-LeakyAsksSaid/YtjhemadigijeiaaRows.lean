/-
  No cell of these rows narrows 'for every input' (looked for: loops, veiled, ifaces, maps, wideKeys, modest, calm, conditions, laid).
  DERIVED. THE GIVEN ROWS OF THIS SEAT. 6 by the template 'for every input the law returns true; each argument reads behind the call as it read before'; 0 by the template 'total and deterministic' (their statements: YtjhemadigijeiaaTotals.lean).
  GIVEN WITH THE SEED: the statements are not yours to turn. If you find one false, say at which input.
  Laid BY PROGRAM, IN A SANDBOX (cutbox-rows.mjs): the forced cells as the released guide's own fill.sh prints them over the translation 0629d2d87443cc19… (all of the seat's roots in one cut). By AI agents, Wed Nov 11 2026. No macro, syntax, notation, axiom, sorry.
-/
import Derived.Test.YtjhemadigijeiaaChecked
import GoSem.Claim
import GoSem.ClaimJoined
import GoSem.ClaimMapViews
import Derived.JoinedTies
import Derived.KernelRfl
namespace Go.Proofs.Ytjhemadigijeiaa
/- THE CELL 'sum', in the pinned program and in every row, IS THE sha256 OF THE DUMP (.gsa) THAT YtjhemadigijeiaaProg.lean LOADS. Nothing in Lean hashes anything: it is a label: what it is worth is what the hold of that sum in a sandbox is worth. -/
noncomputable def Try.pinned : Pinned := { name := "ytjhemadigijeiaa", sum := "0629d2d87443cc1998b4884b31be07e422093218cb69eb2b14e02283304af296", checked := Try.checked }
namespace Rows
def none {H : Type} : Left H := { results := [], args := [] }

/-- 'tollerlaw04.LeakyAsks': WHATEVER THE INPUT: true; the input reads as it did. -/
def leakyAsksSpec : ChangeSpec := { name := "leakyAsks", fn := fun _ => fun
  | [d1, d2, d3, d4, d5, d6, d7, d8, d9] => { results := [.lit (.bool true)], args := [d1, d2, d3, d4, d5, d6, d7, d8, d9] }
  | _ => none }
def leakyAsksRow : OpenClaim := { program := "ytjhemadigijeiaa", sum := "0629d2d87443cc1998b4884b31be07e422093218cb69eb2b14e02283304af296", func := "toller/tollerlaw04.LeakyAsks", spec := "leakyAsks", unfollowed := true, recurses := true, apart := false }
def LeakyAsksSaid : Prop := leakyAsksRow.holds Try.pinned (OpenSpec.ofChange leakyAsksSpec)

/-- ITS FALSE NEIGHBOUR: 'it returns false'. Refute it at one input. -/
def leakyAsksWrong : ChangeSpec := { name := "leakyAsks", fn := fun _ => fun
  | [d1, d2, d3, d4, d5, d6, d7, d8, d9] => { results := [.lit (.bool false)], args := [d1, d2, d3, d4, d5, d6, d7, d8, d9] }
  | _ => none }
def LeakyAsksWrongFalsely : Prop := leakyAsksRow.holds Try.pinned (OpenSpec.ofChange leakyAsksWrong)

/-- 'tollerlaw04.LeakyTime': WHATEVER THE INPUT: true; the input reads as it did. -/
def leakyTimeSpec : ChangeSpec := { name := "leakyTime", fn := fun _ => fun
  | [d1, d2, d3, d4, d5] => { results := [.lit (.bool true)], args := [d1, d2, d3, d4, d5] }
  | _ => none }
def leakyTimeRow : OpenClaim := { program := "ytjhemadigijeiaa", sum := "0629d2d87443cc1998b4884b31be07e422093218cb69eb2b14e02283304af296", func := "toller/tollerlaw04.LeakyTime", spec := "leakyTime", unfollowed := true, recurses := true, apart := false }
def LeakyTimeSaid : Prop := leakyTimeRow.holds Try.pinned (OpenSpec.ofChange leakyTimeSpec)

/-- ITS FALSE NEIGHBOUR: 'it returns false'. Refute it at one input. -/
def leakyTimeWrong : ChangeSpec := { name := "leakyTime", fn := fun _ => fun
  | [d1, d2, d3, d4, d5] => { results := [.lit (.bool false)], args := [d1, d2, d3, d4, d5] }
  | _ => none }
def LeakyTimeWrongFalsely : Prop := leakyTimeRow.holds Try.pinned (OpenSpec.ofChange leakyTimeWrong)

/-- 'tollerlaw04.LeakyComes': WHATEVER THE INPUT: true; the input reads as it did. -/
def leakyComesSpec : ChangeSpec := { name := "leakyComes", fn := fun _ => fun
  | [d1, d2, d3, d4, d5] => { results := [.lit (.bool true)], args := [d1, d2, d3, d4, d5] }
  | _ => none }
def leakyComesRow : OpenClaim := { program := "ytjhemadigijeiaa", sum := "0629d2d87443cc1998b4884b31be07e422093218cb69eb2b14e02283304af296", func := "toller/tollerlaw04.LeakyComes", spec := "leakyComes", unfollowed := true, recurses := true, apart := false }
def LeakyComesSaid : Prop := leakyComesRow.holds Try.pinned (OpenSpec.ofChange leakyComesSpec)

/-- ITS FALSE NEIGHBOUR: 'it returns false'. Refute it at one input. -/
def leakyComesWrong : ChangeSpec := { name := "leakyComes", fn := fun _ => fun
  | [d1, d2, d3, d4, d5] => { results := [.lit (.bool false)], args := [d1, d2, d3, d4, d5] }
  | _ => none }
def LeakyComesWrongFalsely : Prop := leakyComesRow.holds Try.pinned (OpenSpec.ofChange leakyComesWrong)

/-- 'tollerlaw04.LeakyParts': WHATEVER THE INPUT: true; the input reads as it did. -/
def leakyPartsSpec : ChangeSpec := { name := "leakyParts", fn := fun _ => fun
  | [d1, d2, d3, d4, d5, d6] => { results := [.lit (.bool true)], args := [d1, d2, d3, d4, d5, d6] }
  | _ => none }
def leakyPartsRow : OpenClaim := { program := "ytjhemadigijeiaa", sum := "0629d2d87443cc1998b4884b31be07e422093218cb69eb2b14e02283304af296", func := "toller/tollerlaw04.LeakyParts", spec := "leakyParts", unfollowed := true, recurses := true, apart := false }
def LeakyPartsSaid : Prop := leakyPartsRow.holds Try.pinned (OpenSpec.ofChange leakyPartsSpec)

/-- ITS FALSE NEIGHBOUR: 'it returns false'. Refute it at one input. -/
def leakyPartsWrong : ChangeSpec := { name := "leakyParts", fn := fun _ => fun
  | [d1, d2, d3, d4, d5, d6] => { results := [.lit (.bool false)], args := [d1, d2, d3, d4, d5, d6] }
  | _ => none }
def LeakyPartsWrongFalsely : Prop := leakyPartsRow.holds Try.pinned (OpenSpec.ofChange leakyPartsWrong)

/-- 'tollerlaw04.LeakyKind': WHATEVER THE INPUT: true; the input reads as it did. -/
def leakyKindSpec : ChangeSpec := { name := "leakyKind", fn := fun _ => fun
  | [d1, d2, d3, d4, d5] => { results := [.lit (.bool true)], args := [d1, d2, d3, d4, d5] }
  | _ => none }
def leakyKindRow : OpenClaim := { program := "ytjhemadigijeiaa", sum := "0629d2d87443cc1998b4884b31be07e422093218cb69eb2b14e02283304af296", func := "toller/tollerlaw04.LeakyKind", spec := "leakyKind", unfollowed := true, recurses := true, apart := false }
def LeakyKindSaid : Prop := leakyKindRow.holds Try.pinned (OpenSpec.ofChange leakyKindSpec)

/-- ITS FALSE NEIGHBOUR: 'it returns false'. Refute it at one input. -/
def leakyKindWrong : ChangeSpec := { name := "leakyKind", fn := fun _ => fun
  | [d1, d2, d3, d4, d5] => { results := [.lit (.bool false)], args := [d1, d2, d3, d4, d5] }
  | _ => none }
def LeakyKindWrongFalsely : Prop := leakyKindRow.holds Try.pinned (OpenSpec.ofChange leakyKindWrong)

/-- 'tollerlaw04.LeakyEmpty': WHATEVER THE INPUT: true; the input reads as it did. -/
def leakyEmptySpec : ChangeSpec := { name := "leakyEmpty", fn := fun _ => fun
  | [d1, d2, d3] => { results := [.lit (.bool true)], args := [d1, d2, d3] }
  | _ => none }
def leakyEmptyRow : OpenClaim := { program := "ytjhemadigijeiaa", sum := "0629d2d87443cc1998b4884b31be07e422093218cb69eb2b14e02283304af296", func := "toller/tollerlaw04.LeakyEmpty", spec := "leakyEmpty", unfollowed := true, recurses := true, apart := false }
def LeakyEmptySaid : Prop := leakyEmptyRow.holds Try.pinned (OpenSpec.ofChange leakyEmptySpec)

/-- ITS FALSE NEIGHBOUR: 'it returns false'. Refute it at one input. -/
def leakyEmptyWrong : ChangeSpec := { name := "leakyEmpty", fn := fun _ => fun
  | [d1, d2, d3] => { results := [.lit (.bool false)], args := [d1, d2, d3] }
  | _ => none }
def LeakyEmptyWrongFalsely : Prop := leakyEmptyRow.holds Try.pinned (OpenSpec.ofChange leakyEmptyWrong)

/- THE SECOND FORM. 'bulk': how many values and letters a reading holds, each counted each time it is reached (what is shared counts as often as it is met; a slice's spare places count too). A statement '..UptoSaid' is the law's where the arguments, and the package variables that the reading takes, are together of bulk at most 1048576: NARROWER than '..Said'. Prove '..Said' where nothing that the law and all that it calls make is longer than what came in: it says more and counts as full. Else prove '..UptoSaid'. A law counts once. -/
mutual
def uptoBulk {H : Type} : DataW H → Nat
  | .lit (.string bytes) => bytes.length + 1
  | .lit _ => 1
  | .nil => 1
  | .ptr d => uptoBulk d + 1
  | .slice elems spare => uptoBulkAll elems + uptoBulkAll spare + 1
  | .agg parts => uptoBulkAll parts + 1
  | .iface _ d => uptoBulk d + 1
  | .map entries => uptoBulkEntries entries + 1
  | .held _ => 1
def uptoBulkAll {H : Type} : List (DataW H) → Nat
  | [] => 0
  | d :: r => uptoBulk d + uptoBulkAll r
def uptoBulkEntries {H : Type} : List (Lit × DataW H) → Nat
  | [] => 0
  | x :: r => uptoBulkEntry x + uptoBulkEntries r
def uptoBulkEntry {H : Type} : Lit × DataW H → Nat
  | (.string bytes, d) => bytes.length + uptoBulk d + 1
  | (_, d) => uptoBulk d + 1
 end
def uptoSmall : (H : Type) → List (DataW H) → Bool := fun _ ds => decide (uptoBulkAll ds ≤ 1048576)
def OpenSpec.upto (s : _root_.Go.ChangeSpec) : _root_.Go.OpenSpec := { _root_.Go.OpenSpec.ofChange s with cond := some uptoSmall }

/-- 'tollerlaw04.LeakyAsks', WHERE WHAT IT READS IS OF BULK AT MOST 1048576: true; the input reads as it did. -/
def leakyAsksUptoRow : OpenClaim := { program := "ytjhemadigijeiaa", sum := "0629d2d87443cc1998b4884b31be07e422093218cb69eb2b14e02283304af296", func := "toller/tollerlaw04.LeakyAsks", spec := "leakyAsks", unfollowed := true, recurses := true, apart := false, narrowed := true }
def LeakyAsksUptoSaid : Prop := leakyAsksUptoRow.holds Try.pinned (OpenSpec.upto leakyAsksSpec)

/-- 'tollerlaw04.LeakyTime', WHERE WHAT IT READS IS OF BULK AT MOST 1048576: true; the input reads as it did. -/
def leakyTimeUptoRow : OpenClaim := { program := "ytjhemadigijeiaa", sum := "0629d2d87443cc1998b4884b31be07e422093218cb69eb2b14e02283304af296", func := "toller/tollerlaw04.LeakyTime", spec := "leakyTime", unfollowed := true, recurses := true, apart := false, narrowed := true }
def LeakyTimeUptoSaid : Prop := leakyTimeUptoRow.holds Try.pinned (OpenSpec.upto leakyTimeSpec)

/-- 'tollerlaw04.LeakyComes', WHERE WHAT IT READS IS OF BULK AT MOST 1048576: true; the input reads as it did. -/
def leakyComesUptoRow : OpenClaim := { program := "ytjhemadigijeiaa", sum := "0629d2d87443cc1998b4884b31be07e422093218cb69eb2b14e02283304af296", func := "toller/tollerlaw04.LeakyComes", spec := "leakyComes", unfollowed := true, recurses := true, apart := false, narrowed := true }
def LeakyComesUptoSaid : Prop := leakyComesUptoRow.holds Try.pinned (OpenSpec.upto leakyComesSpec)

/-- 'tollerlaw04.LeakyParts', WHERE WHAT IT READS IS OF BULK AT MOST 1048576: true; the input reads as it did. -/
def leakyPartsUptoRow : OpenClaim := { program := "ytjhemadigijeiaa", sum := "0629d2d87443cc1998b4884b31be07e422093218cb69eb2b14e02283304af296", func := "toller/tollerlaw04.LeakyParts", spec := "leakyParts", unfollowed := true, recurses := true, apart := false, narrowed := true }
def LeakyPartsUptoSaid : Prop := leakyPartsUptoRow.holds Try.pinned (OpenSpec.upto leakyPartsSpec)

/-- 'tollerlaw04.LeakyKind', WHERE WHAT IT READS IS OF BULK AT MOST 1048576: true; the input reads as it did. -/
def leakyKindUptoRow : OpenClaim := { program := "ytjhemadigijeiaa", sum := "0629d2d87443cc1998b4884b31be07e422093218cb69eb2b14e02283304af296", func := "toller/tollerlaw04.LeakyKind", spec := "leakyKind", unfollowed := true, recurses := true, apart := false, narrowed := true }
def LeakyKindUptoSaid : Prop := leakyKindUptoRow.holds Try.pinned (OpenSpec.upto leakyKindSpec)

/-- 'tollerlaw04.LeakyEmpty', WHERE WHAT IT READS IS OF BULK AT MOST 1048576: true; the input reads as it did. -/
def leakyEmptyUptoRow : OpenClaim := { program := "ytjhemadigijeiaa", sum := "0629d2d87443cc1998b4884b31be07e422093218cb69eb2b14e02283304af296", func := "toller/tollerlaw04.LeakyEmpty", spec := "leakyEmpty", unfollowed := true, recurses := true, apart := false, narrowed := true }
def LeakyEmptyUptoSaid : Prop := leakyEmptyUptoRow.holds Try.pinned (OpenSpec.upto leakyEmptySpec)

end Rows
end Go.Proofs.Ytjhemadigijeiaa
