/-
  No cell of these rows narrows 'for every input' (looked for: loops, veiled, ifaces, maps, wideKeys, modest, calm, conditions, laid).
  DERIVED. THE GIVEN ROWS OF THIS SEAT. 10 by the template 'for every input the law returns true; each argument reads behind the call as it read before'; 0 by the template 'total and deterministic' (their statements: YtbejkcdaefkibaaGreatTotals.lean).
  GIVEN WITH THE SEED: the statements are not yours to turn. If you find one false, say at which input.
  Laid BY PROGRAM, IN A SANDBOX (cutbox-rows.mjs): the forced cells as the released guide's own fill.sh prints them over the translation 7cf6eca93d356730… (all of the seat's roots in one cut). By AI agents, Wed Nov 11 2026. No macro, syntax, notation, axiom, sorry.
-/
import Derived.Test.YtbejkcdaefkibaaGreatChecked
import GoSem.Claim
import GoSem.ClaimJoined
import GoSem.ClaimMapViews
import Derived.JoinedTies
import Derived.KernelRfl
namespace Go.Proofs.YtbejkcdaefkibaaGreat
/- THE CELL 'sum', in the pinned program and in every row, IS THE sha256 OF THE DUMP (.gsa) THAT YtbejkcdaefkibaaGreatProg.lean LOADS. Nothing in Lean hashes anything: it is a label: what it is worth is what the hold of that sum in a sandbox is worth. -/
noncomputable def Tryz.pinned : Pinned := { name := "ytbejkcdaefkibaagreat", sum := "7cf6eca93d3567307b3e47163485ce93d1de5f20a8056583fcbda3de6e373e09", checked := Tryz.checked }
namespace Rows
def none {H : Type} : Left H := { results := [], args := [] }

/-- 'tollerlaw17.EnterAsks': WHATEVER THE INPUT: true; the input reads as it did. -/
def enterAsksSpec : ChangeSpec := { name := "enterAsks", fn := fun _ => fun
  | [d1, d2, d3, d4, d5, d6, d7, d8, d9, d10] => { results := [.lit (.bool true)], args := [d1, d2, d3, d4, d5, d6, d7, d8, d9, d10] }
  | _ => none }
def enterAsksRow : OpenClaim := { program := "ytbejkcdaefkibaagreat", sum := "7cf6eca93d3567307b3e47163485ce93d1de5f20a8056583fcbda3de6e373e09", func := "toller/tollerlaw17.EnterAsks", spec := "enterAsks", inPlace := ["internal/reflectlite.ValueOf", "internal/reflectlite.Swapper", "(internal/reflectlite.Value).Len"], unfollowed := true, recurses := true, apart := false }
def EnterAsksSaid : Prop := enterAsksRow.holds Tryz.pinned (OpenSpec.ofChange enterAsksSpec)

/-- ITS FALSE NEIGHBOUR: 'it returns false'. Refute it at one input. -/
def enterAsksWrong : ChangeSpec := { name := "enterAsks", fn := fun _ => fun
  | [d1, d2, d3, d4, d5, d6, d7, d8, d9, d10] => { results := [.lit (.bool false)], args := [d1, d2, d3, d4, d5, d6, d7, d8, d9, d10] }
  | _ => none }
def EnterAsksWrongFalsely : Prop := enterAsksRow.holds Tryz.pinned (OpenSpec.ofChange enterAsksWrong)

/-- 'tollerlaw17.EnterLeaves': WHATEVER THE INPUT: true; the input reads as it did. -/
def enterLeavesSpec : ChangeSpec := { name := "enterLeaves", fn := fun _ => fun
  | [d1, d2] => { results := [.lit (.bool true)], args := [d1, d2] }
  | _ => none }
def enterLeavesRow : OpenClaim := { program := "ytbejkcdaefkibaagreat", sum := "7cf6eca93d3567307b3e47163485ce93d1de5f20a8056583fcbda3de6e373e09", func := "toller/tollerlaw17.EnterLeaves", spec := "enterLeaves", inPlace := ["internal/reflectlite.ValueOf", "internal/reflectlite.Swapper", "(internal/reflectlite.Value).Len"], unfollowed := true, recurses := true, apart := false }
def EnterLeavesSaid : Prop := enterLeavesRow.holds Tryz.pinned (OpenSpec.ofChange enterLeavesSpec)

/-- ITS FALSE NEIGHBOUR: 'it returns false'. Refute it at one input. -/
def enterLeavesWrong : ChangeSpec := { name := "enterLeaves", fn := fun _ => fun
  | [d1, d2] => { results := [.lit (.bool false)], args := [d1, d2] }
  | _ => none }
def EnterLeavesWrongFalsely : Prop := enterLeavesRow.holds Tryz.pinned (OpenSpec.ofChange enterLeavesWrong)

/-- 'tollerlaw17.EnterBack': WHATEVER THE INPUT: true; the input reads as it did. -/
def enterBackSpec : ChangeSpec := { name := "enterBack", fn := fun _ => fun
  | [d1, d2, d3, d4, d5] => { results := [.lit (.bool true)], args := [d1, d2, d3, d4, d5] }
  | _ => none }
def enterBackRow : OpenClaim := { program := "ytbejkcdaefkibaagreat", sum := "7cf6eca93d3567307b3e47163485ce93d1de5f20a8056583fcbda3de6e373e09", func := "toller/tollerlaw17.EnterBack", spec := "enterBack", inPlace := ["internal/reflectlite.ValueOf", "internal/reflectlite.Swapper", "(internal/reflectlite.Value).Len"], unfollowed := true, recurses := true, apart := false }
def EnterBackSaid : Prop := enterBackRow.holds Tryz.pinned (OpenSpec.ofChange enterBackSpec)

/-- ITS FALSE NEIGHBOUR: 'it returns false'. Refute it at one input. -/
def enterBackWrong : ChangeSpec := { name := "enterBack", fn := fun _ => fun
  | [d1, d2, d3, d4, d5] => { results := [.lit (.bool false)], args := [d1, d2, d3, d4, d5] }
  | _ => none }
def EnterBackWrongFalsely : Prop := enterBackRow.holds Tryz.pinned (OpenSpec.ofChange enterBackWrong)

/-- 'tollerlaw17.EnterLate': WHATEVER THE INPUT: true; the input reads as it did. -/
def enterLateSpec : ChangeSpec := { name := "enterLate", fn := fun _ => fun
  | [d1, d2, d3, d4, d5, d6] => { results := [.lit (.bool true)], args := [d1, d2, d3, d4, d5, d6] }
  | _ => none }
def enterLateRow : OpenClaim := { program := "ytbejkcdaefkibaagreat", sum := "7cf6eca93d3567307b3e47163485ce93d1de5f20a8056583fcbda3de6e373e09", func := "toller/tollerlaw17.EnterLate", spec := "enterLate", inPlace := ["internal/reflectlite.ValueOf", "internal/reflectlite.Swapper", "(internal/reflectlite.Value).Len"], unfollowed := true, recurses := true, apart := false }
def EnterLateSaid : Prop := enterLateRow.holds Tryz.pinned (OpenSpec.ofChange enterLateSpec)

/-- ITS FALSE NEIGHBOUR: 'it returns false'. Refute it at one input. -/
def enterLateWrong : ChangeSpec := { name := "enterLate", fn := fun _ => fun
  | [d1, d2, d3, d4, d5, d6] => { results := [.lit (.bool false)], args := [d1, d2, d3, d4, d5, d6] }
  | _ => none }
def EnterLateWrongFalsely : Prop := enterLateRow.holds Tryz.pinned (OpenSpec.ofChange enterLateWrong)

/-- 'tollerlaw17.EnterWrong': WHATEVER THE INPUT: true; the input reads as it did. -/
def enterWrongSpec : ChangeSpec := { name := "enterWrong", fn := fun _ => fun
  | [d1, d2, d3] => { results := [.lit (.bool true)], args := [d1, d2, d3] }
  | _ => none }
def enterWrongRow : OpenClaim := { program := "ytbejkcdaefkibaagreat", sum := "7cf6eca93d3567307b3e47163485ce93d1de5f20a8056583fcbda3de6e373e09", func := "toller/tollerlaw17.EnterWrong", spec := "enterWrong", inPlace := ["internal/reflectlite.ValueOf", "internal/reflectlite.Swapper", "(internal/reflectlite.Value).Len"], unfollowed := true, recurses := true, apart := false }
def EnterWrongSaid : Prop := enterWrongRow.holds Tryz.pinned (OpenSpec.ofChange enterWrongSpec)

/-- ITS FALSE NEIGHBOUR: 'it returns false'. Refute it at one input. -/
def enterWrongWrong : ChangeSpec := { name := "enterWrong", fn := fun _ => fun
  | [d1, d2, d3] => { results := [.lit (.bool false)], args := [d1, d2, d3] }
  | _ => none }
def EnterWrongWrongFalsely : Prop := enterWrongRow.holds Tryz.pinned (OpenSpec.ofChange enterWrongWrong)

/-- 'tollerlaw14.TableDoes': WHATEVER THE INPUT: true; the input reads as it did. -/
def tableDoesSpec : ChangeSpec := { name := "tableDoes", fn := fun _ => fun
  | [d1, d2, d3] => { results := [.lit (.bool true)], args := [d1, d2, d3] }
  | _ => none }
def tableDoesRow : OpenClaim := { program := "ytbejkcdaefkibaagreat", sum := "7cf6eca93d3567307b3e47163485ce93d1de5f20a8056583fcbda3de6e373e09", func := "toller/tollerlaw14.TableDoes", spec := "tableDoes", inPlace := ["internal/reflectlite.ValueOf", "internal/reflectlite.Swapper", "(internal/reflectlite.Value).Len"], unfollowed := true, recurses := true, apart := false }
def TableDoesSaid : Prop := tableDoesRow.holds Tryz.pinned (OpenSpec.ofChange tableDoesSpec)

/-- ITS FALSE NEIGHBOUR: 'it returns false'. Refute it at one input. -/
def tableDoesWrong : ChangeSpec := { name := "tableDoes", fn := fun _ => fun
  | [d1, d2, d3] => { results := [.lit (.bool false)], args := [d1, d2, d3] }
  | _ => none }
def TableDoesWrongFalsely : Prop := tableDoesRow.holds Tryz.pinned (OpenSpec.ofChange tableDoesWrong)

/-- 'tollerlaw14.TableOf': WHATEVER THE INPUT: true; the input reads as it did. -/
def tableOfSpec : ChangeSpec := { name := "tableOf", fn := fun _ => fun
  | [d1, d2, d3, d4, d5, d6] => { results := [.lit (.bool true)], args := [d1, d2, d3, d4, d5, d6] }
  | _ => none }
def tableOfRow : OpenClaim := { program := "ytbejkcdaefkibaagreat", sum := "7cf6eca93d3567307b3e47163485ce93d1de5f20a8056583fcbda3de6e373e09", func := "toller/tollerlaw14.TableOf", spec := "tableOf", inPlace := ["internal/reflectlite.ValueOf", "internal/reflectlite.Swapper", "(internal/reflectlite.Value).Len"], unfollowed := true, recurses := true, apart := false }
def TableOfSaid : Prop := tableOfRow.holds Tryz.pinned (OpenSpec.ofChange tableOfSpec)

/-- ITS FALSE NEIGHBOUR: 'it returns false'. Refute it at one input. -/
def tableOfWrong : ChangeSpec := { name := "tableOf", fn := fun _ => fun
  | [d1, d2, d3, d4, d5, d6] => { results := [.lit (.bool false)], args := [d1, d2, d3, d4, d5, d6] }
  | _ => none }
def TableOfWrongFalsely : Prop := tableOfRow.holds Tryz.pinned (OpenSpec.ofChange tableOfWrong)

/-- 'tollerlaw15.KeepAsks': WHATEVER THE INPUT: true; the input reads as it did. -/
def keepAsksSpec : ChangeSpec := { name := "keepAsks", fn := fun _ => fun
  | [d1, d2, d3, d4, d5, d6, d7, d8, d9] => { results := [.lit (.bool true)], args := [d1, d2, d3, d4, d5, d6, d7, d8, d9] }
  | _ => none }
def keepAsksRow : OpenClaim := { program := "ytbejkcdaefkibaagreat", sum := "7cf6eca93d3567307b3e47163485ce93d1de5f20a8056583fcbda3de6e373e09", func := "toller/tollerlaw15.KeepAsks", spec := "keepAsks", inPlace := ["internal/reflectlite.ValueOf", "internal/reflectlite.Swapper", "(internal/reflectlite.Value).Len"], unfollowed := true, recurses := true, apart := false }
def KeepAsksSaid : Prop := keepAsksRow.holds Tryz.pinned (OpenSpec.ofChange keepAsksSpec)

/-- ITS FALSE NEIGHBOUR: 'it returns false'. Refute it at one input. -/
def keepAsksWrong : ChangeSpec := { name := "keepAsks", fn := fun _ => fun
  | [d1, d2, d3, d4, d5, d6, d7, d8, d9] => { results := [.lit (.bool false)], args := [d1, d2, d3, d4, d5, d6, d7, d8, d9] }
  | _ => none }
def KeepAsksWrongFalsely : Prop := keepAsksRow.holds Tryz.pinned (OpenSpec.ofChange keepAsksWrong)

/-- 'tollerlaw15.KeepFull': WHATEVER THE INPUT: true; the input reads as it did. -/
def keepFullSpec : ChangeSpec := { name := "keepFull", fn := fun _ => fun
  | [d1, d2, d3, d4] => { results := [.lit (.bool true)], args := [d1, d2, d3, d4] }
  | _ => none }
def keepFullRow : OpenClaim := { program := "ytbejkcdaefkibaagreat", sum := "7cf6eca93d3567307b3e47163485ce93d1de5f20a8056583fcbda3de6e373e09", func := "toller/tollerlaw15.KeepFull", spec := "keepFull", inPlace := ["internal/reflectlite.ValueOf", "internal/reflectlite.Swapper", "(internal/reflectlite.Value).Len"], unfollowed := true, recurses := true, apart := false }
def KeepFullSaid : Prop := keepFullRow.holds Tryz.pinned (OpenSpec.ofChange keepFullSpec)

/-- ITS FALSE NEIGHBOUR: 'it returns false'. Refute it at one input. -/
def keepFullWrong : ChangeSpec := { name := "keepFull", fn := fun _ => fun
  | [d1, d2, d3, d4] => { results := [.lit (.bool false)], args := [d1, d2, d3, d4] }
  | _ => none }
def KeepFullWrongFalsely : Prop := keepFullRow.holds Tryz.pinned (OpenSpec.ofChange keepFullWrong)

/-- 'tollerlaw15.KeepMost': WHATEVER THE INPUT: true; the input reads as it did. -/
def keepMostSpec : ChangeSpec := { name := "keepMost", fn := fun _ => fun
  | [d1, d2, d3, d4, d5] => { results := [.lit (.bool true)], args := [d1, d2, d3, d4, d5] }
  | _ => none }
def keepMostRow : OpenClaim := { program := "ytbejkcdaefkibaagreat", sum := "7cf6eca93d3567307b3e47163485ce93d1de5f20a8056583fcbda3de6e373e09", func := "toller/tollerlaw15.KeepMost", spec := "keepMost", inPlace := ["internal/reflectlite.ValueOf", "internal/reflectlite.Swapper", "(internal/reflectlite.Value).Len"], unfollowed := true, recurses := true, apart := false }
def KeepMostSaid : Prop := keepMostRow.holds Tryz.pinned (OpenSpec.ofChange keepMostSpec)

/-- ITS FALSE NEIGHBOUR: 'it returns false'. Refute it at one input. -/
def keepMostWrong : ChangeSpec := { name := "keepMost", fn := fun _ => fun
  | [d1, d2, d3, d4, d5] => { results := [.lit (.bool false)], args := [d1, d2, d3, d4, d5] }
  | _ => none }
def KeepMostWrongFalsely : Prop := keepMostRow.holds Tryz.pinned (OpenSpec.ofChange keepMostWrong)

/- THE SECOND FORM. 'bulk': how many values and letters a reading holds, each counted each time it is reached (what is shared counts as often as it is met; a slice's spare places count too). A statement '..UptoSaid' is the law's where the arguments, and the package variables that the reading takes, are together of bulk at most 1048576: NARROWER than '..Said'. Prove '..Said' where nothing that the law and all that it calls make is longer than what came in: it says more and counts as full. Else prove '..UptoSaid'. A law counts once. -/
mutual
def uptoBulk {H : Type} : DataW H → Nat
  | .lit (.string bytes) => bytes.length + 1
  | .lit _ => 1
  | .nil => 1
  | .ptr d => uptoBulk d + 1
  | .slice elems spare => uptoBulkAll elems + uptoBulkAll spare + 1
  | .agg parts => uptoBulkAll parts + 1
  | .iface _ d => uptoBulk d + 1
  | .map entries => uptoBulkEntries entries + 1
  | .held _ => 1
def uptoBulkAll {H : Type} : List (DataW H) → Nat
  | [] => 0
  | d :: r => uptoBulk d + uptoBulkAll r
def uptoBulkEntries {H : Type} : List (Lit × DataW H) → Nat
  | [] => 0
  | x :: r => uptoBulkEntry x + uptoBulkEntries r
def uptoBulkEntry {H : Type} : Lit × DataW H → Nat
  | (.string bytes, d) => bytes.length + uptoBulk d + 1
  | (_, d) => uptoBulk d + 1
 end
def uptoSmall : (H : Type) → List (DataW H) → Bool := fun _ ds => decide (uptoBulkAll ds ≤ 1048576)
def OpenSpec.upto (s : _root_.Go.ChangeSpec) : _root_.Go.OpenSpec := { _root_.Go.OpenSpec.ofChange s with cond := some uptoSmall }

/-- 'tollerlaw17.EnterAsks', WHERE WHAT IT READS IS OF BULK AT MOST 1048576: true; the input reads as it did. -/
def enterAsksUptoRow : OpenClaim := { program := "ytbejkcdaefkibaagreat", sum := "7cf6eca93d3567307b3e47163485ce93d1de5f20a8056583fcbda3de6e373e09", func := "toller/tollerlaw17.EnterAsks", spec := "enterAsks", inPlace := ["internal/reflectlite.ValueOf", "internal/reflectlite.Swapper", "(internal/reflectlite.Value).Len"], unfollowed := true, recurses := true, apart := false, narrowed := true }
def EnterAsksUptoSaid : Prop := enterAsksUptoRow.holds Tryz.pinned (OpenSpec.upto enterAsksSpec)

/-- 'tollerlaw17.EnterLeaves', WHERE WHAT IT READS IS OF BULK AT MOST 1048576: true; the input reads as it did. -/
def enterLeavesUptoRow : OpenClaim := { program := "ytbejkcdaefkibaagreat", sum := "7cf6eca93d3567307b3e47163485ce93d1de5f20a8056583fcbda3de6e373e09", func := "toller/tollerlaw17.EnterLeaves", spec := "enterLeaves", inPlace := ["internal/reflectlite.ValueOf", "internal/reflectlite.Swapper", "(internal/reflectlite.Value).Len"], unfollowed := true, recurses := true, apart := false, narrowed := true }
def EnterLeavesUptoSaid : Prop := enterLeavesUptoRow.holds Tryz.pinned (OpenSpec.upto enterLeavesSpec)

/-- 'tollerlaw17.EnterBack', WHERE WHAT IT READS IS OF BULK AT MOST 1048576: true; the input reads as it did. -/
def enterBackUptoRow : OpenClaim := { program := "ytbejkcdaefkibaagreat", sum := "7cf6eca93d3567307b3e47163485ce93d1de5f20a8056583fcbda3de6e373e09", func := "toller/tollerlaw17.EnterBack", spec := "enterBack", inPlace := ["internal/reflectlite.ValueOf", "internal/reflectlite.Swapper", "(internal/reflectlite.Value).Len"], unfollowed := true, recurses := true, apart := false, narrowed := true }
def EnterBackUptoSaid : Prop := enterBackUptoRow.holds Tryz.pinned (OpenSpec.upto enterBackSpec)

/-- 'tollerlaw17.EnterLate', WHERE WHAT IT READS IS OF BULK AT MOST 1048576: true; the input reads as it did. -/
def enterLateUptoRow : OpenClaim := { program := "ytbejkcdaefkibaagreat", sum := "7cf6eca93d3567307b3e47163485ce93d1de5f20a8056583fcbda3de6e373e09", func := "toller/tollerlaw17.EnterLate", spec := "enterLate", inPlace := ["internal/reflectlite.ValueOf", "internal/reflectlite.Swapper", "(internal/reflectlite.Value).Len"], unfollowed := true, recurses := true, apart := false, narrowed := true }
def EnterLateUptoSaid : Prop := enterLateUptoRow.holds Tryz.pinned (OpenSpec.upto enterLateSpec)

/-- 'tollerlaw17.EnterWrong', WHERE WHAT IT READS IS OF BULK AT MOST 1048576: true; the input reads as it did. -/
def enterWrongUptoRow : OpenClaim := { program := "ytbejkcdaefkibaagreat", sum := "7cf6eca93d3567307b3e47163485ce93d1de5f20a8056583fcbda3de6e373e09", func := "toller/tollerlaw17.EnterWrong", spec := "enterWrong", inPlace := ["internal/reflectlite.ValueOf", "internal/reflectlite.Swapper", "(internal/reflectlite.Value).Len"], unfollowed := true, recurses := true, apart := false, narrowed := true }
def EnterWrongUptoSaid : Prop := enterWrongUptoRow.holds Tryz.pinned (OpenSpec.upto enterWrongSpec)

/-- 'tollerlaw14.TableDoes', WHERE WHAT IT READS IS OF BULK AT MOST 1048576: true; the input reads as it did. -/
def tableDoesUptoRow : OpenClaim := { program := "ytbejkcdaefkibaagreat", sum := "7cf6eca93d3567307b3e47163485ce93d1de5f20a8056583fcbda3de6e373e09", func := "toller/tollerlaw14.TableDoes", spec := "tableDoes", inPlace := ["internal/reflectlite.ValueOf", "internal/reflectlite.Swapper", "(internal/reflectlite.Value).Len"], unfollowed := true, recurses := true, apart := false, narrowed := true }
def TableDoesUptoSaid : Prop := tableDoesUptoRow.holds Tryz.pinned (OpenSpec.upto tableDoesSpec)

/-- 'tollerlaw14.TableOf', WHERE WHAT IT READS IS OF BULK AT MOST 1048576: true; the input reads as it did. -/
def tableOfUptoRow : OpenClaim := { program := "ytbejkcdaefkibaagreat", sum := "7cf6eca93d3567307b3e47163485ce93d1de5f20a8056583fcbda3de6e373e09", func := "toller/tollerlaw14.TableOf", spec := "tableOf", inPlace := ["internal/reflectlite.ValueOf", "internal/reflectlite.Swapper", "(internal/reflectlite.Value).Len"], unfollowed := true, recurses := true, apart := false, narrowed := true }
def TableOfUptoSaid : Prop := tableOfUptoRow.holds Tryz.pinned (OpenSpec.upto tableOfSpec)

/-- 'tollerlaw15.KeepAsks', WHERE WHAT IT READS IS OF BULK AT MOST 1048576: true; the input reads as it did. -/
def keepAsksUptoRow : OpenClaim := { program := "ytbejkcdaefkibaagreat", sum := "7cf6eca93d3567307b3e47163485ce93d1de5f20a8056583fcbda3de6e373e09", func := "toller/tollerlaw15.KeepAsks", spec := "keepAsks", inPlace := ["internal/reflectlite.ValueOf", "internal/reflectlite.Swapper", "(internal/reflectlite.Value).Len"], unfollowed := true, recurses := true, apart := false, narrowed := true }
def KeepAsksUptoSaid : Prop := keepAsksUptoRow.holds Tryz.pinned (OpenSpec.upto keepAsksSpec)

/-- 'tollerlaw15.KeepFull', WHERE WHAT IT READS IS OF BULK AT MOST 1048576: true; the input reads as it did. -/
def keepFullUptoRow : OpenClaim := { program := "ytbejkcdaefkibaagreat", sum := "7cf6eca93d3567307b3e47163485ce93d1de5f20a8056583fcbda3de6e373e09", func := "toller/tollerlaw15.KeepFull", spec := "keepFull", inPlace := ["internal/reflectlite.ValueOf", "internal/reflectlite.Swapper", "(internal/reflectlite.Value).Len"], unfollowed := true, recurses := true, apart := false, narrowed := true }
def KeepFullUptoSaid : Prop := keepFullUptoRow.holds Tryz.pinned (OpenSpec.upto keepFullSpec)

/-- 'tollerlaw15.KeepMost', WHERE WHAT IT READS IS OF BULK AT MOST 1048576: true; the input reads as it did. -/
def keepMostUptoRow : OpenClaim := { program := "ytbejkcdaefkibaagreat", sum := "7cf6eca93d3567307b3e47163485ce93d1de5f20a8056583fcbda3de6e373e09", func := "toller/tollerlaw15.KeepMost", spec := "keepMost", inPlace := ["internal/reflectlite.ValueOf", "internal/reflectlite.Swapper", "(internal/reflectlite.Value).Len"], unfollowed := true, recurses := true, apart := false, narrowed := true }
def KeepMostUptoSaid : Prop := keepMostUptoRow.holds Tryz.pinned (OpenSpec.upto keepMostSpec)

end Rows
end Go.Proofs.YtbejkcdaefkibaaGreat
