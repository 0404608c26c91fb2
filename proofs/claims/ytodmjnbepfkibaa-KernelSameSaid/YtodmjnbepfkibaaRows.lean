/-
  No cell of these rows narrows 'for every input' (looked for: loops, veiled, ifaces, maps, wideKeys, modest, calm, conditions, laid).
  DERIVED. THE GIVEN ROWS OF THIS SEAT. 7 by the template 'for every input the law returns true; each argument reads behind the call as it read before'; 0 by the template 'total and deterministic' (their statements: YtodmjnbepfkibaaTotals.lean).
  GIVEN WITH THE SEED: the statements are not yours to turn. If you find one false, say at which input.
  Laid BY PROGRAM, IN A SANDBOX (cutbox-rows.mjs): the forced cells as the released guide's own fill.sh prints them over the translation ac50952ee8f8e77b… (all of the seat's roots in one cut). By AI agents, Wed Nov 11 2026. No macro, syntax, notation, axiom, sorry.
-/
import Derived.Test.YtodmjnbepfkibaaChecked
import GoSem.Claim
import GoSem.ClaimJoined
import GoSem.ClaimMapViews
import Derived.JoinedTies
import Derived.KernelRfl
namespace Go.Proofs.Ytodmjnbepfkibaa
/- THE CELL 'sum', in the pinned program and in every row, IS THE sha256 OF THE DUMP (.gsa) THAT YtodmjnbepfkibaaProg.lean LOADS. Nothing in Lean hashes anything: it is a label: what it is worth is what the hold of that sum in a sandbox is worth. -/
noncomputable def Try.pinned : Pinned := { name := "ytodmjnbepfkibaa", sum := "ac50952ee8f8e77bb1f50dfd8c7a4ca5a0524154bea1fb793c1af6a155d7c211", checked := Try.checked }
namespace Rows
def none {H : Type} : Left H := { results := [], args := [] }

/-- 'tollerlaw07.KernelAsks': WHATEVER THE INPUT: true; the input reads as it did. -/
def kernelAsksSpec : ChangeSpec := { name := "kernelAsks", fn := fun _ => fun
  | [d1, d2, d3, d4, d5, d6, d7, d8, d9, d10, d11] => { results := [.lit (.bool true)], args := [d1, d2, d3, d4, d5, d6, d7, d8, d9, d10, d11] }
  | _ => none }
def kernelAsksRow : OpenClaim := { program := "ytodmjnbepfkibaa", sum := "ac50952ee8f8e77bb1f50dfd8c7a4ca5a0524154bea1fb793c1af6a155d7c211", func := "toller/tollerlaw07.KernelAsks", spec := "kernelAsks", unfollowed := true, recurses := true, apart := false }
def KernelAsksSaid : Prop := kernelAsksRow.holds Try.pinned (OpenSpec.ofChange kernelAsksSpec)

/-- ITS FALSE NEIGHBOUR: 'it returns false'. Refute it at one input. -/
def kernelAsksWrong : ChangeSpec := { name := "kernelAsks", fn := fun _ => fun
  | [d1, d2, d3, d4, d5, d6, d7, d8, d9, d10, d11] => { results := [.lit (.bool false)], args := [d1, d2, d3, d4, d5, d6, d7, d8, d9, d10, d11] }
  | _ => none }
def KernelAsksWrongFalsely : Prop := kernelAsksRow.holds Try.pinned (OpenSpec.ofChange kernelAsksWrong)

/-- 'tollerlaw07.KernelSame': WHATEVER THE INPUT: true; the input reads as it did. -/
def kernelSameSpec : ChangeSpec := { name := "kernelSame", fn := fun _ => fun
  | [d1, d2, d3] => { results := [.lit (.bool true)], args := [d1, d2, d3] }
  | _ => none }
def kernelSameRow : OpenClaim := { program := "ytodmjnbepfkibaa", sum := "ac50952ee8f8e77bb1f50dfd8c7a4ca5a0524154bea1fb793c1af6a155d7c211", func := "toller/tollerlaw07.KernelSame", spec := "kernelSame", unfollowed := true, recurses := true, apart := false }
def KernelSameSaid : Prop := kernelSameRow.holds Try.pinned (OpenSpec.ofChange kernelSameSpec)

/-- ITS FALSE NEIGHBOUR: 'it returns false'. Refute it at one input. -/
def kernelSameWrong : ChangeSpec := { name := "kernelSame", fn := fun _ => fun
  | [d1, d2, d3] => { results := [.lit (.bool false)], args := [d1, d2, d3] }
  | _ => none }
def KernelSameWrongFalsely : Prop := kernelSameRow.holds Try.pinned (OpenSpec.ofChange kernelSameWrong)

/-- 'tollerlaw07.KernelMoves': WHATEVER THE INPUT: true; the input reads as it did. -/
def kernelMovesSpec : ChangeSpec := { name := "kernelMoves", fn := fun _ => fun
  | [d1, d2, d3, d4, d5, d6, d7] => { results := [.lit (.bool true)], args := [d1, d2, d3, d4, d5, d6, d7] }
  | _ => none }
def kernelMovesRow : OpenClaim := { program := "ytodmjnbepfkibaa", sum := "ac50952ee8f8e77bb1f50dfd8c7a4ca5a0524154bea1fb793c1af6a155d7c211", func := "toller/tollerlaw07.KernelMoves", spec := "kernelMoves", unfollowed := true, recurses := true, apart := false }
def KernelMovesSaid : Prop := kernelMovesRow.holds Try.pinned (OpenSpec.ofChange kernelMovesSpec)

/-- ITS FALSE NEIGHBOUR: 'it returns false'. Refute it at one input. -/
def kernelMovesWrong : ChangeSpec := { name := "kernelMoves", fn := fun _ => fun
  | [d1, d2, d3, d4, d5, d6, d7] => { results := [.lit (.bool false)], args := [d1, d2, d3, d4, d5, d6, d7] }
  | _ => none }
def KernelMovesWrongFalsely : Prop := kernelMovesRow.holds Try.pinned (OpenSpec.ofChange kernelMovesWrong)

/-- 'tollerlaw07.KernelWaits': WHATEVER THE INPUT: true; the input reads as it did. -/
def kernelWaitsSpec : ChangeSpec := { name := "kernelWaits", fn := fun _ => fun
  | [d1, d2, d3, d4, d5, d6] => { results := [.lit (.bool true)], args := [d1, d2, d3, d4, d5, d6] }
  | _ => none }
def kernelWaitsRow : OpenClaim := { program := "ytodmjnbepfkibaa", sum := "ac50952ee8f8e77bb1f50dfd8c7a4ca5a0524154bea1fb793c1af6a155d7c211", func := "toller/tollerlaw07.KernelWaits", spec := "kernelWaits", unfollowed := true, recurses := true, apart := false }
def KernelWaitsSaid : Prop := kernelWaitsRow.holds Try.pinned (OpenSpec.ofChange kernelWaitsSpec)

/-- ITS FALSE NEIGHBOUR: 'it returns false'. Refute it at one input. -/
def kernelWaitsWrong : ChangeSpec := { name := "kernelWaits", fn := fun _ => fun
  | [d1, d2, d3, d4, d5, d6] => { results := [.lit (.bool false)], args := [d1, d2, d3, d4, d5, d6] }
  | _ => none }
def KernelWaitsWrongFalsely : Prop := kernelWaitsRow.holds Try.pinned (OpenSpec.ofChange kernelWaitsWrong)

/-- 'tollerlaw07.KernelLeft': WHATEVER THE INPUT: true; the input reads as it did. -/
def kernelLeftSpec : ChangeSpec := { name := "kernelLeft", fn := fun _ => fun
  | [d1, d2, d3, d4, d5] => { results := [.lit (.bool true)], args := [d1, d2, d3, d4, d5] }
  | _ => none }
def kernelLeftRow : OpenClaim := { program := "ytodmjnbepfkibaa", sum := "ac50952ee8f8e77bb1f50dfd8c7a4ca5a0524154bea1fb793c1af6a155d7c211", func := "toller/tollerlaw07.KernelLeft", spec := "kernelLeft", unfollowed := true, recurses := true, apart := false }
def KernelLeftSaid : Prop := kernelLeftRow.holds Try.pinned (OpenSpec.ofChange kernelLeftSpec)

/-- ITS FALSE NEIGHBOUR: 'it returns false'. Refute it at one input. -/
def kernelLeftWrong : ChangeSpec := { name := "kernelLeft", fn := fun _ => fun
  | [d1, d2, d3, d4, d5] => { results := [.lit (.bool false)], args := [d1, d2, d3, d4, d5] }
  | _ => none }
def KernelLeftWrongFalsely : Prop := kernelLeftRow.holds Try.pinned (OpenSpec.ofChange kernelLeftWrong)

/-- 'tollerlaw07.KernelUntil': WHATEVER THE INPUT: true; the input reads as it did. -/
def kernelUntilSpec : ChangeSpec := { name := "kernelUntil", fn := fun _ => fun
  | [d1, d2, d3, d4] => { results := [.lit (.bool true)], args := [d1, d2, d3, d4] }
  | _ => none }
def kernelUntilRow : OpenClaim := { program := "ytodmjnbepfkibaa", sum := "ac50952ee8f8e77bb1f50dfd8c7a4ca5a0524154bea1fb793c1af6a155d7c211", func := "toller/tollerlaw07.KernelUntil", spec := "kernelUntil", unfollowed := true, recurses := true, apart := false }
def KernelUntilSaid : Prop := kernelUntilRow.holds Try.pinned (OpenSpec.ofChange kernelUntilSpec)

/-- ITS FALSE NEIGHBOUR: 'it returns false'. Refute it at one input. -/
def kernelUntilWrong : ChangeSpec := { name := "kernelUntil", fn := fun _ => fun
  | [d1, d2, d3, d4] => { results := [.lit (.bool false)], args := [d1, d2, d3, d4] }
  | _ => none }
def KernelUntilWrongFalsely : Prop := kernelUntilRow.holds Try.pinned (OpenSpec.ofChange kernelUntilWrong)

/-- 'tollerlaw07.KernelNone': WHATEVER THE INPUT: true; the input reads as it did. -/
def kernelNoneSpec : ChangeSpec := { name := "kernelNone", fn := fun _ => fun
  | [d1, d2, d3, d4, d5] => { results := [.lit (.bool true)], args := [d1, d2, d3, d4, d5] }
  | _ => none }
def kernelNoneRow : OpenClaim := { program := "ytodmjnbepfkibaa", sum := "ac50952ee8f8e77bb1f50dfd8c7a4ca5a0524154bea1fb793c1af6a155d7c211", func := "toller/tollerlaw07.KernelNone", spec := "kernelNone", unfollowed := true, recurses := true, apart := false }
def KernelNoneSaid : Prop := kernelNoneRow.holds Try.pinned (OpenSpec.ofChange kernelNoneSpec)

/-- ITS FALSE NEIGHBOUR: 'it returns false'. Refute it at one input. -/
def kernelNoneWrong : ChangeSpec := { name := "kernelNone", fn := fun _ => fun
  | [d1, d2, d3, d4, d5] => { results := [.lit (.bool false)], args := [d1, d2, d3, d4, d5] }
  | _ => none }
def KernelNoneWrongFalsely : Prop := kernelNoneRow.holds Try.pinned (OpenSpec.ofChange kernelNoneWrong)

/- THE SECOND FORM. 'bulk': how many values and letters a reading holds, each counted each time it is reached (what is shared counts as often as it is met; a slice's spare places count too). A statement '..UptoSaid' is the law's where the arguments, and the package variables that the reading takes, are together of bulk at most 1048576: NARROWER than '..Said'. Prove '..Said' where nothing that the law and all that it calls make is longer than what came in: it says more and counts as full. Else prove '..UptoSaid'. A law counts once. -/
mutual
def uptoBulk {H : Type} : DataW H → Nat
  | .lit (.string bytes) => bytes.length + 1
  | .lit _ => 1
  | .nil => 1
  | .ptr d => uptoBulk d + 1
  | .slice elems spare => uptoBulkAll elems + uptoBulkAll spare + 1
  | .agg parts => uptoBulkAll parts + 1
  | .iface _ d => uptoBulk d + 1
  | .map entries => uptoBulkEntries entries + 1
  | .held _ => 1
def uptoBulkAll {H : Type} : List (DataW H) → Nat
  | [] => 0
  | d :: r => uptoBulk d + uptoBulkAll r
def uptoBulkEntries {H : Type} : List (Lit × DataW H) → Nat
  | [] => 0
  | x :: r => uptoBulkEntry x + uptoBulkEntries r
def uptoBulkEntry {H : Type} : Lit × DataW H → Nat
  | (.string bytes, d) => bytes.length + uptoBulk d + 1
  | (_, d) => uptoBulk d + 1
 end
def uptoSmall : (H : Type) → List (DataW H) → Bool := fun _ ds => decide (uptoBulkAll ds ≤ 1048576)
def OpenSpec.upto (s : _root_.Go.ChangeSpec) : _root_.Go.OpenSpec := { _root_.Go.OpenSpec.ofChange s with cond := some uptoSmall }

/-- 'tollerlaw07.KernelAsks', WHERE WHAT IT READS IS OF BULK AT MOST 1048576: true; the input reads as it did. -/
def kernelAsksUptoRow : OpenClaim := { program := "ytodmjnbepfkibaa", sum := "ac50952ee8f8e77bb1f50dfd8c7a4ca5a0524154bea1fb793c1af6a155d7c211", func := "toller/tollerlaw07.KernelAsks", spec := "kernelAsks", unfollowed := true, recurses := true, apart := false, narrowed := true }
def KernelAsksUptoSaid : Prop := kernelAsksUptoRow.holds Try.pinned (OpenSpec.upto kernelAsksSpec)

/-- 'tollerlaw07.KernelSame', WHERE WHAT IT READS IS OF BULK AT MOST 1048576: true; the input reads as it did. -/
def kernelSameUptoRow : OpenClaim := { program := "ytodmjnbepfkibaa", sum := "ac50952ee8f8e77bb1f50dfd8c7a4ca5a0524154bea1fb793c1af6a155d7c211", func := "toller/tollerlaw07.KernelSame", spec := "kernelSame", unfollowed := true, recurses := true, apart := false, narrowed := true }
def KernelSameUptoSaid : Prop := kernelSameUptoRow.holds Try.pinned (OpenSpec.upto kernelSameSpec)

/-- 'tollerlaw07.KernelMoves', WHERE WHAT IT READS IS OF BULK AT MOST 1048576: true; the input reads as it did. -/
def kernelMovesUptoRow : OpenClaim := { program := "ytodmjnbepfkibaa", sum := "ac50952ee8f8e77bb1f50dfd8c7a4ca5a0524154bea1fb793c1af6a155d7c211", func := "toller/tollerlaw07.KernelMoves", spec := "kernelMoves", unfollowed := true, recurses := true, apart := false, narrowed := true }
def KernelMovesUptoSaid : Prop := kernelMovesUptoRow.holds Try.pinned (OpenSpec.upto kernelMovesSpec)

/-- 'tollerlaw07.KernelWaits', WHERE WHAT IT READS IS OF BULK AT MOST 1048576: true; the input reads as it did. -/
def kernelWaitsUptoRow : OpenClaim := { program := "ytodmjnbepfkibaa", sum := "ac50952ee8f8e77bb1f50dfd8c7a4ca5a0524154bea1fb793c1af6a155d7c211", func := "toller/tollerlaw07.KernelWaits", spec := "kernelWaits", unfollowed := true, recurses := true, apart := false, narrowed := true }
def KernelWaitsUptoSaid : Prop := kernelWaitsUptoRow.holds Try.pinned (OpenSpec.upto kernelWaitsSpec)

/-- 'tollerlaw07.KernelLeft', WHERE WHAT IT READS IS OF BULK AT MOST 1048576: true; the input reads as it did. -/
def kernelLeftUptoRow : OpenClaim := { program := "ytodmjnbepfkibaa", sum := "ac50952ee8f8e77bb1f50dfd8c7a4ca5a0524154bea1fb793c1af6a155d7c211", func := "toller/tollerlaw07.KernelLeft", spec := "kernelLeft", unfollowed := true, recurses := true, apart := false, narrowed := true }
def KernelLeftUptoSaid : Prop := kernelLeftUptoRow.holds Try.pinned (OpenSpec.upto kernelLeftSpec)

/-- 'tollerlaw07.KernelUntil', WHERE WHAT IT READS IS OF BULK AT MOST 1048576: true; the input reads as it did. -/
def kernelUntilUptoRow : OpenClaim := { program := "ytodmjnbepfkibaa", sum := "ac50952ee8f8e77bb1f50dfd8c7a4ca5a0524154bea1fb793c1af6a155d7c211", func := "toller/tollerlaw07.KernelUntil", spec := "kernelUntil", unfollowed := true, recurses := true, apart := false, narrowed := true }
def KernelUntilUptoSaid : Prop := kernelUntilUptoRow.holds Try.pinned (OpenSpec.upto kernelUntilSpec)

/-- 'tollerlaw07.KernelNone', WHERE WHAT IT READS IS OF BULK AT MOST 1048576: true; the input reads as it did. -/
def kernelNoneUptoRow : OpenClaim := { program := "ytodmjnbepfkibaa", sum := "ac50952ee8f8e77bb1f50dfd8c7a4ca5a0524154bea1fb793c1af6a155d7c211", func := "toller/tollerlaw07.KernelNone", spec := "kernelNone", unfollowed := true, recurses := true, apart := false, narrowed := true }
def KernelNoneUptoSaid : Prop := kernelNoneUptoRow.holds Try.pinned (OpenSpec.upto kernelNoneSpec)

end Rows
end Go.Proofs.Ytodmjnbepfkibaa
