/-
  No cell of these rows narrows 'for every input' (looked for: loops, veiled, ifaces, maps, wideKeys, modest, calm, conditions, laid).
  DERIVED. THE GIVEN ROWS OF THIS SEAT. 8 by the template 'for every input the law returns true; each argument reads behind the call as it read before'; 0 by the template 'total and deterministic' (their statements: YtajddbabgclhoaaGreatTotals.lean).
  GIVEN WITH THE SEED: the statements are not yours to turn. If you find one false, say at which input.
  Laid BY PROGRAM, IN A SANDBOX (cutbox-rows.mjs): the forced cells as the released guide's own fill.sh prints them over the translation 4e8fb44aea57403b… (all of the seat's roots in one cut). By AI agents, Wed Nov 11 2026. No macro, syntax, notation, axiom, sorry.
-/
import Derived.Test.YtajddbabgclhoaaGreatChecked
import GoSem.Claim
import GoSem.ClaimJoined
import GoSem.ClaimMapViews
import Derived.JoinedTies
import Derived.KernelRfl
namespace Go.Proofs.YtajddbabgclhoaaGreat
/- THE CELL 'sum', in the pinned program and in every row, IS THE sha256 OF THE DUMP (.gsa) THAT YtajddbabgclhoaaGreatProg.lean LOADS. Nothing in Lean hashes anything: it is a label: what it is worth is what the hold of that sum in a sandbox is worth. -/
noncomputable def Tryz.pinned : Pinned := { name := "ytajddbabgclhoaagreat", sum := "4e8fb44aea57403b0e7c67e8f7087b25b4a52c16985a1870ed3507a9e9bd95cf", checked := Tryz.checked }
namespace Rows
def none {H : Type} : Left H := { results := [], args := [] }

/-- 'tollerlaw14.TableDoes': WHATEVER THE INPUT: true; the input reads as it did. -/
def tableDoesSpec : ChangeSpec := { name := "tableDoes", fn := fun _ => fun
  | [d1, d2, d3] => { results := [.lit (.bool true)], args := [d1, d2, d3] }
  | _ => none }
def tableDoesRow : OpenClaim := { program := "ytajddbabgclhoaagreat", sum := "4e8fb44aea57403b0e7c67e8f7087b25b4a52c16985a1870ed3507a9e9bd95cf", func := "toller/tollerlaw14.TableDoes", spec := "tableDoes", inPlace := ["internal/reflectlite.ValueOf", "internal/reflectlite.Swapper", "(internal/reflectlite.Value).Len"], unfollowed := true, recurses := true, apart := false }
def TableDoesSaid : Prop := tableDoesRow.holds Tryz.pinned (OpenSpec.ofChange tableDoesSpec)

/-- ITS FALSE NEIGHBOUR: 'it returns false'. Refute it at one input. -/
def tableDoesWrong : ChangeSpec := { name := "tableDoes", fn := fun _ => fun
  | [d1, d2, d3] => { results := [.lit (.bool false)], args := [d1, d2, d3] }
  | _ => none }
def TableDoesWrongFalsely : Prop := tableDoesRow.holds Tryz.pinned (OpenSpec.ofChange tableDoesWrong)

/-- 'tollerlaw14.TableOf': WHATEVER THE INPUT: true; the input reads as it did. -/
def tableOfSpec : ChangeSpec := { name := "tableOf", fn := fun _ => fun
  | [d1, d2, d3, d4, d5, d6] => { results := [.lit (.bool true)], args := [d1, d2, d3, d4, d5, d6] }
  | _ => none }
def tableOfRow : OpenClaim := { program := "ytajddbabgclhoaagreat", sum := "4e8fb44aea57403b0e7c67e8f7087b25b4a52c16985a1870ed3507a9e9bd95cf", func := "toller/tollerlaw14.TableOf", spec := "tableOf", inPlace := ["internal/reflectlite.ValueOf", "internal/reflectlite.Swapper", "(internal/reflectlite.Value).Len"], unfollowed := true, recurses := true, apart := false }
def TableOfSaid : Prop := tableOfRow.holds Tryz.pinned (OpenSpec.ofChange tableOfSpec)

/-- ITS FALSE NEIGHBOUR: 'it returns false'. Refute it at one input. -/
def tableOfWrong : ChangeSpec := { name := "tableOf", fn := fun _ => fun
  | [d1, d2, d3, d4, d5, d6] => { results := [.lit (.bool false)], args := [d1, d2, d3, d4, d5, d6] }
  | _ => none }
def TableOfWrongFalsely : Prop := tableOfRow.holds Tryz.pinned (OpenSpec.ofChange tableOfWrong)

/-- 'tollerlaw15.KeepAsks': WHATEVER THE INPUT: true; the input reads as it did. -/
def keepAsksSpec : ChangeSpec := { name := "keepAsks", fn := fun _ => fun
  | [d1, d2, d3, d4, d5, d6, d7, d8, d9] => { results := [.lit (.bool true)], args := [d1, d2, d3, d4, d5, d6, d7, d8, d9] }
  | _ => none }
def keepAsksRow : OpenClaim := { program := "ytajddbabgclhoaagreat", sum := "4e8fb44aea57403b0e7c67e8f7087b25b4a52c16985a1870ed3507a9e9bd95cf", func := "toller/tollerlaw15.KeepAsks", spec := "keepAsks", inPlace := ["internal/reflectlite.ValueOf", "internal/reflectlite.Swapper", "(internal/reflectlite.Value).Len"], unfollowed := true, recurses := true, apart := false }
def KeepAsksSaid : Prop := keepAsksRow.holds Tryz.pinned (OpenSpec.ofChange keepAsksSpec)

/-- ITS FALSE NEIGHBOUR: 'it returns false'. Refute it at one input. -/
def keepAsksWrong : ChangeSpec := { name := "keepAsks", fn := fun _ => fun
  | [d1, d2, d3, d4, d5, d6, d7, d8, d9] => { results := [.lit (.bool false)], args := [d1, d2, d3, d4, d5, d6, d7, d8, d9] }
  | _ => none }
def KeepAsksWrongFalsely : Prop := keepAsksRow.holds Tryz.pinned (OpenSpec.ofChange keepAsksWrong)

/-- 'tollerlaw15.KeepFull': WHATEVER THE INPUT: true; the input reads as it did. -/
def keepFullSpec : ChangeSpec := { name := "keepFull", fn := fun _ => fun
  | [d1, d2, d3, d4] => { results := [.lit (.bool true)], args := [d1, d2, d3, d4] }
  | _ => none }
def keepFullRow : OpenClaim := { program := "ytajddbabgclhoaagreat", sum := "4e8fb44aea57403b0e7c67e8f7087b25b4a52c16985a1870ed3507a9e9bd95cf", func := "toller/tollerlaw15.KeepFull", spec := "keepFull", inPlace := ["internal/reflectlite.ValueOf", "internal/reflectlite.Swapper", "(internal/reflectlite.Value).Len"], unfollowed := true, recurses := true, apart := false }
def KeepFullSaid : Prop := keepFullRow.holds Tryz.pinned (OpenSpec.ofChange keepFullSpec)

/-- ITS FALSE NEIGHBOUR: 'it returns false'. Refute it at one input. -/
def keepFullWrong : ChangeSpec := { name := "keepFull", fn := fun _ => fun
  | [d1, d2, d3, d4] => { results := [.lit (.bool false)], args := [d1, d2, d3, d4] }
  | _ => none }
def KeepFullWrongFalsely : Prop := keepFullRow.holds Tryz.pinned (OpenSpec.ofChange keepFullWrong)

/-- 'tollerlaw15.KeepMost': WHATEVER THE INPUT: true; the input reads as it did. -/
def keepMostSpec : ChangeSpec := { name := "keepMost", fn := fun _ => fun
  | [d1, d2, d3, d4, d5] => { results := [.lit (.bool true)], args := [d1, d2, d3, d4, d5] }
  | _ => none }
def keepMostRow : OpenClaim := { program := "ytajddbabgclhoaagreat", sum := "4e8fb44aea57403b0e7c67e8f7087b25b4a52c16985a1870ed3507a9e9bd95cf", func := "toller/tollerlaw15.KeepMost", spec := "keepMost", inPlace := ["internal/reflectlite.ValueOf", "internal/reflectlite.Swapper", "(internal/reflectlite.Value).Len"], unfollowed := true, recurses := true, apart := false }
def KeepMostSaid : Prop := keepMostRow.holds Tryz.pinned (OpenSpec.ofChange keepMostSpec)

/-- ITS FALSE NEIGHBOUR: 'it returns false'. Refute it at one input. -/
def keepMostWrong : ChangeSpec := { name := "keepMost", fn := fun _ => fun
  | [d1, d2, d3, d4, d5] => { results := [.lit (.bool false)], args := [d1, d2, d3, d4, d5] }
  | _ => none }
def KeepMostWrongFalsely : Prop := keepMostRow.holds Tryz.pinned (OpenSpec.ofChange keepMostWrong)

/-- 'tollerlaw15.KeepTwice': WHATEVER THE INPUT: true; the input reads as it did. -/
def keepTwiceSpec : ChangeSpec := { name := "keepTwice", fn := fun _ => fun
  | [d1, d2, d3, d4] => { results := [.lit (.bool true)], args := [d1, d2, d3, d4] }
  | _ => none }
def keepTwiceRow : OpenClaim := { program := "ytajddbabgclhoaagreat", sum := "4e8fb44aea57403b0e7c67e8f7087b25b4a52c16985a1870ed3507a9e9bd95cf", func := "toller/tollerlaw15.KeepTwice", spec := "keepTwice", inPlace := ["internal/reflectlite.ValueOf", "internal/reflectlite.Swapper", "(internal/reflectlite.Value).Len"], unfollowed := true, recurses := true, apart := false }
def KeepTwiceSaid : Prop := keepTwiceRow.holds Tryz.pinned (OpenSpec.ofChange keepTwiceSpec)

/-- ITS FALSE NEIGHBOUR: 'it returns false'. Refute it at one input. -/
def keepTwiceWrong : ChangeSpec := { name := "keepTwice", fn := fun _ => fun
  | [d1, d2, d3, d4] => { results := [.lit (.bool false)], args := [d1, d2, d3, d4] }
  | _ => none }
def KeepTwiceWrongFalsely : Prop := keepTwiceRow.holds Tryz.pinned (OpenSpec.ofChange keepTwiceWrong)

/-- 'tollerlaw15.KeepNothing': WHATEVER THE INPUT: true; the input reads as it did. -/
def keepNothingSpec : ChangeSpec := { name := "keepNothing", fn := fun _ => fun
  | [d1, d2, d3, d4] => { results := [.lit (.bool true)], args := [d1, d2, d3, d4] }
  | _ => none }
def keepNothingRow : OpenClaim := { program := "ytajddbabgclhoaagreat", sum := "4e8fb44aea57403b0e7c67e8f7087b25b4a52c16985a1870ed3507a9e9bd95cf", func := "toller/tollerlaw15.KeepNothing", spec := "keepNothing", inPlace := ["internal/reflectlite.ValueOf", "internal/reflectlite.Swapper", "(internal/reflectlite.Value).Len"], unfollowed := true, recurses := true, apart := false }
def KeepNothingSaid : Prop := keepNothingRow.holds Tryz.pinned (OpenSpec.ofChange keepNothingSpec)

/-- ITS FALSE NEIGHBOUR: 'it returns false'. Refute it at one input. -/
def keepNothingWrong : ChangeSpec := { name := "keepNothing", fn := fun _ => fun
  | [d1, d2, d3, d4] => { results := [.lit (.bool false)], args := [d1, d2, d3, d4] }
  | _ => none }
def KeepNothingWrongFalsely : Prop := keepNothingRow.holds Tryz.pinned (OpenSpec.ofChange keepNothingWrong)

/-- 'tollerlaw15.KeepSame': WHATEVER THE INPUT: true; the input reads as it did. -/
def keepSameSpec : ChangeSpec := { name := "keepSame", fn := fun _ => fun
  | [d1, d2, d3] => { results := [.lit (.bool true)], args := [d1, d2, d3] }
  | _ => none }
def keepSameRow : OpenClaim := { program := "ytajddbabgclhoaagreat", sum := "4e8fb44aea57403b0e7c67e8f7087b25b4a52c16985a1870ed3507a9e9bd95cf", func := "toller/tollerlaw15.KeepSame", spec := "keepSame", inPlace := ["internal/reflectlite.ValueOf", "internal/reflectlite.Swapper", "(internal/reflectlite.Value).Len"], unfollowed := true, recurses := true, apart := false }
def KeepSameSaid : Prop := keepSameRow.holds Tryz.pinned (OpenSpec.ofChange keepSameSpec)

/-- ITS FALSE NEIGHBOUR: 'it returns false'. Refute it at one input. -/
def keepSameWrong : ChangeSpec := { name := "keepSame", fn := fun _ => fun
  | [d1, d2, d3] => { results := [.lit (.bool false)], args := [d1, d2, d3] }
  | _ => none }
def KeepSameWrongFalsely : Prop := keepSameRow.holds Tryz.pinned (OpenSpec.ofChange keepSameWrong)

/- THE SECOND FORM. 'bulk': how many values and letters a reading holds, each counted each time it is reached (what is shared counts as often as it is met; a slice's spare places count too). A statement '..UptoSaid' is the law's where the arguments, and the package variables that the reading takes, are together of bulk at most 1048576: NARROWER than '..Said'. Prove '..Said' where nothing that the law and all that it calls make is longer than what came in: it says more and counts as full. Else prove '..UptoSaid'. A law counts once. -/
mutual
def uptoBulk {H : Type} : DataW H → Nat
  | .lit (.string bytes) => bytes.length + 1
  | .lit _ => 1
  | .nil => 1
  | .ptr d => uptoBulk d + 1
  | .slice elems spare => uptoBulkAll elems + uptoBulkAll spare + 1
  | .agg parts => uptoBulkAll parts + 1
  | .iface _ d => uptoBulk d + 1
  | .map entries => uptoBulkEntries entries + 1
  | .held _ => 1
def uptoBulkAll {H : Type} : List (DataW H) → Nat
  | [] => 0
  | d :: r => uptoBulk d + uptoBulkAll r
def uptoBulkEntries {H : Type} : List (Lit × DataW H) → Nat
  | [] => 0
  | x :: r => uptoBulkEntry x + uptoBulkEntries r
def uptoBulkEntry {H : Type} : Lit × DataW H → Nat
  | (.string bytes, d) => bytes.length + uptoBulk d + 1
  | (_, d) => uptoBulk d + 1
 end
def uptoSmall : (H : Type) → List (DataW H) → Bool := fun _ ds => decide (uptoBulkAll ds ≤ 1048576)
def OpenSpec.upto (s : _root_.Go.ChangeSpec) : _root_.Go.OpenSpec := { _root_.Go.OpenSpec.ofChange s with cond := some uptoSmall }

/-- 'tollerlaw14.TableDoes', WHERE WHAT IT READS IS OF BULK AT MOST 1048576: true; the input reads as it did. -/
def tableDoesUptoRow : OpenClaim := { program := "ytajddbabgclhoaagreat", sum := "4e8fb44aea57403b0e7c67e8f7087b25b4a52c16985a1870ed3507a9e9bd95cf", func := "toller/tollerlaw14.TableDoes", spec := "tableDoes", inPlace := ["internal/reflectlite.ValueOf", "internal/reflectlite.Swapper", "(internal/reflectlite.Value).Len"], unfollowed := true, recurses := true, apart := false, narrowed := true }
def TableDoesUptoSaid : Prop := tableDoesUptoRow.holds Tryz.pinned (OpenSpec.upto tableDoesSpec)

/-- 'tollerlaw14.TableOf', WHERE WHAT IT READS IS OF BULK AT MOST 1048576: true; the input reads as it did. -/
def tableOfUptoRow : OpenClaim := { program := "ytajddbabgclhoaagreat", sum := "4e8fb44aea57403b0e7c67e8f7087b25b4a52c16985a1870ed3507a9e9bd95cf", func := "toller/tollerlaw14.TableOf", spec := "tableOf", inPlace := ["internal/reflectlite.ValueOf", "internal/reflectlite.Swapper", "(internal/reflectlite.Value).Len"], unfollowed := true, recurses := true, apart := false, narrowed := true }
def TableOfUptoSaid : Prop := tableOfUptoRow.holds Tryz.pinned (OpenSpec.upto tableOfSpec)

/-- 'tollerlaw15.KeepAsks', WHERE WHAT IT READS IS OF BULK AT MOST 1048576: true; the input reads as it did. -/
def keepAsksUptoRow : OpenClaim := { program := "ytajddbabgclhoaagreat", sum := "4e8fb44aea57403b0e7c67e8f7087b25b4a52c16985a1870ed3507a9e9bd95cf", func := "toller/tollerlaw15.KeepAsks", spec := "keepAsks", inPlace := ["internal/reflectlite.ValueOf", "internal/reflectlite.Swapper", "(internal/reflectlite.Value).Len"], unfollowed := true, recurses := true, apart := false, narrowed := true }
def KeepAsksUptoSaid : Prop := keepAsksUptoRow.holds Tryz.pinned (OpenSpec.upto keepAsksSpec)

/-- 'tollerlaw15.KeepFull', WHERE WHAT IT READS IS OF BULK AT MOST 1048576: true; the input reads as it did. -/
def keepFullUptoRow : OpenClaim := { program := "ytajddbabgclhoaagreat", sum := "4e8fb44aea57403b0e7c67e8f7087b25b4a52c16985a1870ed3507a9e9bd95cf", func := "toller/tollerlaw15.KeepFull", spec := "keepFull", inPlace := ["internal/reflectlite.ValueOf", "internal/reflectlite.Swapper", "(internal/reflectlite.Value).Len"], unfollowed := true, recurses := true, apart := false, narrowed := true }
def KeepFullUptoSaid : Prop := keepFullUptoRow.holds Tryz.pinned (OpenSpec.upto keepFullSpec)

/-- 'tollerlaw15.KeepMost', WHERE WHAT IT READS IS OF BULK AT MOST 1048576: true; the input reads as it did. -/
def keepMostUptoRow : OpenClaim := { program := "ytajddbabgclhoaagreat", sum := "4e8fb44aea57403b0e7c67e8f7087b25b4a52c16985a1870ed3507a9e9bd95cf", func := "toller/tollerlaw15.KeepMost", spec := "keepMost", inPlace := ["internal/reflectlite.ValueOf", "internal/reflectlite.Swapper", "(internal/reflectlite.Value).Len"], unfollowed := true, recurses := true, apart := false, narrowed := true }
def KeepMostUptoSaid : Prop := keepMostUptoRow.holds Tryz.pinned (OpenSpec.upto keepMostSpec)

/-- 'tollerlaw15.KeepTwice', WHERE WHAT IT READS IS OF BULK AT MOST 1048576: true; the input reads as it did. -/
def keepTwiceUptoRow : OpenClaim := { program := "ytajddbabgclhoaagreat", sum := "4e8fb44aea57403b0e7c67e8f7087b25b4a52c16985a1870ed3507a9e9bd95cf", func := "toller/tollerlaw15.KeepTwice", spec := "keepTwice", inPlace := ["internal/reflectlite.ValueOf", "internal/reflectlite.Swapper", "(internal/reflectlite.Value).Len"], unfollowed := true, recurses := true, apart := false, narrowed := true }
def KeepTwiceUptoSaid : Prop := keepTwiceUptoRow.holds Tryz.pinned (OpenSpec.upto keepTwiceSpec)

/-- 'tollerlaw15.KeepNothing', WHERE WHAT IT READS IS OF BULK AT MOST 1048576: true; the input reads as it did. -/
def keepNothingUptoRow : OpenClaim := { program := "ytajddbabgclhoaagreat", sum := "4e8fb44aea57403b0e7c67e8f7087b25b4a52c16985a1870ed3507a9e9bd95cf", func := "toller/tollerlaw15.KeepNothing", spec := "keepNothing", inPlace := ["internal/reflectlite.ValueOf", "internal/reflectlite.Swapper", "(internal/reflectlite.Value).Len"], unfollowed := true, recurses := true, apart := false, narrowed := true }
def KeepNothingUptoSaid : Prop := keepNothingUptoRow.holds Tryz.pinned (OpenSpec.upto keepNothingSpec)

/-- 'tollerlaw15.KeepSame', WHERE WHAT IT READS IS OF BULK AT MOST 1048576: true; the input reads as it did. -/
def keepSameUptoRow : OpenClaim := { program := "ytajddbabgclhoaagreat", sum := "4e8fb44aea57403b0e7c67e8f7087b25b4a52c16985a1870ed3507a9e9bd95cf", func := "toller/tollerlaw15.KeepSame", spec := "keepSame", inPlace := ["internal/reflectlite.ValueOf", "internal/reflectlite.Swapper", "(internal/reflectlite.Value).Len"], unfollowed := true, recurses := true, apart := false, narrowed := true }
def KeepSameUptoSaid : Prop := keepSameUptoRow.holds Tryz.pinned (OpenSpec.upto keepSameSpec)

end Rows
end Go.Proofs.YtajddbabgclhoaaGreat
