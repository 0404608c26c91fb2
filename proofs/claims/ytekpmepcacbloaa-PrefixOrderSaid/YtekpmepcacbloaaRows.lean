/-
  No cell of these rows narrows 'for every input' (looked for: loops, veiled, ifaces, maps, wideKeys, modest, calm, conditions, laid).
  DERIVED. THE GIVEN ROWS OF THIS SEAT. 5 by the template 'for every input the law returns true; each argument reads behind the call as it read before'; 0 by the template 'total and deterministic' (their statements: YtekpmepcacbloaaTotals.lean).
  GIVEN WITH THE SEED: the statements are not yours to turn. If you find one false, say at which input.
  Laid BY PROGRAM, IN A SANDBOX (cutbox-rows.mjs): the forced cells as the released guide's own fill.sh prints them over the translation 101772109ae5178a… (all of the seat's roots in one cut). By AI agents, Wed Nov 11 2026. No macro, syntax, notation, axiom, sorry.
-/
import Derived.Test.YtekpmepcacbloaaChecked
import GoSem.Claim
import GoSem.ClaimJoined
import GoSem.ClaimMapViews
import Derived.JoinedTies
import Derived.KernelRfl
namespace Go.Proofs.Ytekpmepcacbloaa
/- THE CELL 'sum', in the pinned program and in every row, IS THE sha256 OF THE DUMP (.gsa) THAT YtekpmepcacbloaaProg.lean LOADS. Nothing in Lean hashes anything: it is a label: what it is worth is what the hold of that sum in a sandbox is worth. -/
noncomputable def Try.pinned : Pinned := { name := "ytekpmepcacbloaa", sum := "101772109ae5178a1df9a338de87e25718d36132b177563de0558c71e797f217", checked := Try.checked }
namespace Rows
def none {H : Type} : Left H := { results := [], args := [] }

/-- 'tollerlaw13.PrefixAsks': WHATEVER THE INPUT: true; the input reads as it did. -/
def prefixAsksSpec : ChangeSpec := { name := "prefixAsks", fn := fun _ => fun
  | [d1, d2, d3, d4, d5] => { results := [.lit (.bool true)], args := [d1, d2, d3, d4, d5] }
  | _ => none }
def prefixAsksRow : OpenClaim := { program := "ytekpmepcacbloaa", sum := "101772109ae5178a1df9a338de87e25718d36132b177563de0558c71e797f217", func := "toller/tollerlaw13.PrefixAsks", spec := "prefixAsks", unfollowed := true, recurses := true, apart := false }
def PrefixAsksSaid : Prop := prefixAsksRow.holds Try.pinned (OpenSpec.ofChange prefixAsksSpec)

/-- ITS FALSE NEIGHBOUR: 'it returns false'. Refute it at one input. -/
def prefixAsksWrong : ChangeSpec := { name := "prefixAsks", fn := fun _ => fun
  | [d1, d2, d3, d4, d5] => { results := [.lit (.bool false)], args := [d1, d2, d3, d4, d5] }
  | _ => none }
def PrefixAsksWrongFalsely : Prop := prefixAsksRow.holds Try.pinned (OpenSpec.ofChange prefixAsksWrong)

/-- 'tollerlaw13.PrefixOrder': WHATEVER THE INPUT: true; the input reads as it did. -/
def prefixOrderSpec : ChangeSpec := { name := "prefixOrder", fn := fun _ => fun
  | [d1, d2, d3] => { results := [.lit (.bool true)], args := [d1, d2, d3] }
  | _ => none }
def prefixOrderRow : OpenClaim := { program := "ytekpmepcacbloaa", sum := "101772109ae5178a1df9a338de87e25718d36132b177563de0558c71e797f217", func := "toller/tollerlaw13.PrefixOrder", spec := "prefixOrder", unfollowed := true, recurses := true, apart := false }
def PrefixOrderSaid : Prop := prefixOrderRow.holds Try.pinned (OpenSpec.ofChange prefixOrderSpec)

/-- ITS FALSE NEIGHBOUR: 'it returns false'. Refute it at one input. -/
def prefixOrderWrong : ChangeSpec := { name := "prefixOrder", fn := fun _ => fun
  | [d1, d2, d3] => { results := [.lit (.bool false)], args := [d1, d2, d3] }
  | _ => none }
def PrefixOrderWrongFalsely : Prop := prefixOrderRow.holds Try.pinned (OpenSpec.ofChange prefixOrderWrong)

/-- 'tollerlaw13.PrefixFirst': WHATEVER THE INPUT: true; the input reads as it did. -/
def prefixFirstSpec : ChangeSpec := { name := "prefixFirst", fn := fun _ => fun
  | [d1, d2, d3, d4, d5] => { results := [.lit (.bool true)], args := [d1, d2, d3, d4, d5] }
  | _ => none }
def prefixFirstRow : OpenClaim := { program := "ytekpmepcacbloaa", sum := "101772109ae5178a1df9a338de87e25718d36132b177563de0558c71e797f217", func := "toller/tollerlaw13.PrefixFirst", spec := "prefixFirst", unfollowed := true, recurses := true, apart := false }
def PrefixFirstSaid : Prop := prefixFirstRow.holds Try.pinned (OpenSpec.ofChange prefixFirstSpec)

/-- ITS FALSE NEIGHBOUR: 'it returns false'. Refute it at one input. -/
def prefixFirstWrong : ChangeSpec := { name := "prefixFirst", fn := fun _ => fun
  | [d1, d2, d3, d4, d5] => { results := [.lit (.bool false)], args := [d1, d2, d3, d4, d5] }
  | _ => none }
def PrefixFirstWrongFalsely : Prop := prefixFirstRow.holds Try.pinned (OpenSpec.ofChange prefixFirstWrong)

/-- 'tollerlaw13.PrefixMore': WHATEVER THE INPUT: true; the input reads as it did. -/
def prefixMoreSpec : ChangeSpec := { name := "prefixMore", fn := fun _ => fun
  | [d1, d2, d3, d4] => { results := [.lit (.bool true)], args := [d1, d2, d3, d4] }
  | _ => none }
def prefixMoreRow : OpenClaim := { program := "ytekpmepcacbloaa", sum := "101772109ae5178a1df9a338de87e25718d36132b177563de0558c71e797f217", func := "toller/tollerlaw13.PrefixMore", spec := "prefixMore", unfollowed := true, recurses := true, apart := false }
def PrefixMoreSaid : Prop := prefixMoreRow.holds Try.pinned (OpenSpec.ofChange prefixMoreSpec)

/-- ITS FALSE NEIGHBOUR: 'it returns false'. Refute it at one input. -/
def prefixMoreWrong : ChangeSpec := { name := "prefixMore", fn := fun _ => fun
  | [d1, d2, d3, d4] => { results := [.lit (.bool false)], args := [d1, d2, d3, d4] }
  | _ => none }
def PrefixMoreWrongFalsely : Prop := prefixMoreRow.holds Try.pinned (OpenSpec.ofChange prefixMoreWrong)

/-- 'tollerlaw13.PrefixBehind': WHATEVER THE INPUT: true; the input reads as it did. -/
def prefixBehindSpec : ChangeSpec := { name := "prefixBehind", fn := fun _ => fun
  | [d1, d2, d3, d4] => { results := [.lit (.bool true)], args := [d1, d2, d3, d4] }
  | _ => none }
def prefixBehindRow : OpenClaim := { program := "ytekpmepcacbloaa", sum := "101772109ae5178a1df9a338de87e25718d36132b177563de0558c71e797f217", func := "toller/tollerlaw13.PrefixBehind", spec := "prefixBehind", unfollowed := true, recurses := true, apart := false }
def PrefixBehindSaid : Prop := prefixBehindRow.holds Try.pinned (OpenSpec.ofChange prefixBehindSpec)

/-- ITS FALSE NEIGHBOUR: 'it returns false'. Refute it at one input. -/
def prefixBehindWrong : ChangeSpec := { name := "prefixBehind", fn := fun _ => fun
  | [d1, d2, d3, d4] => { results := [.lit (.bool false)], args := [d1, d2, d3, d4] }
  | _ => none }
def PrefixBehindWrongFalsely : Prop := prefixBehindRow.holds Try.pinned (OpenSpec.ofChange prefixBehindWrong)

/- THE SECOND FORM. 'bulk': how many values and letters a reading holds, each counted each time it is reached (what is shared counts as often as it is met; a slice's spare places count too). A statement '..UptoSaid' is the law's where the arguments, and the package variables that the reading takes, are together of bulk at most 1048576: NARROWER than '..Said'. Prove '..Said' where nothing that the law and all that it calls make is longer than what came in: it says more and counts as full. Else prove '..UptoSaid'. A law counts once. -/
mutual
def uptoBulk {H : Type} : DataW H → Nat
  | .lit (.string bytes) => bytes.length + 1
  | .lit _ => 1
  | .nil => 1
  | .ptr d => uptoBulk d + 1
  | .slice elems spare => uptoBulkAll elems + uptoBulkAll spare + 1
  | .agg parts => uptoBulkAll parts + 1
  | .iface _ d => uptoBulk d + 1
  | .map entries => uptoBulkEntries entries + 1
  | .held _ => 1
def uptoBulkAll {H : Type} : List (DataW H) → Nat
  | [] => 0
  | d :: r => uptoBulk d + uptoBulkAll r
def uptoBulkEntries {H : Type} : List (Lit × DataW H) → Nat
  | [] => 0
  | x :: r => uptoBulkEntry x + uptoBulkEntries r
def uptoBulkEntry {H : Type} : Lit × DataW H → Nat
  | (.string bytes, d) => bytes.length + uptoBulk d + 1
  | (_, d) => uptoBulk d + 1
 end
def uptoSmall : (H : Type) → List (DataW H) → Bool := fun _ ds => decide (uptoBulkAll ds ≤ 1048576)
def OpenSpec.upto (s : _root_.Go.ChangeSpec) : _root_.Go.OpenSpec := { _root_.Go.OpenSpec.ofChange s with cond := some uptoSmall }

/-- 'tollerlaw13.PrefixAsks', WHERE WHAT IT READS IS OF BULK AT MOST 1048576: true; the input reads as it did. -/
def prefixAsksUptoRow : OpenClaim := { program := "ytekpmepcacbloaa", sum := "101772109ae5178a1df9a338de87e25718d36132b177563de0558c71e797f217", func := "toller/tollerlaw13.PrefixAsks", spec := "prefixAsks", unfollowed := true, recurses := true, apart := false, narrowed := true }
def PrefixAsksUptoSaid : Prop := prefixAsksUptoRow.holds Try.pinned (OpenSpec.upto prefixAsksSpec)

/-- 'tollerlaw13.PrefixOrder', WHERE WHAT IT READS IS OF BULK AT MOST 1048576: true; the input reads as it did. -/
def prefixOrderUptoRow : OpenClaim := { program := "ytekpmepcacbloaa", sum := "101772109ae5178a1df9a338de87e25718d36132b177563de0558c71e797f217", func := "toller/tollerlaw13.PrefixOrder", spec := "prefixOrder", unfollowed := true, recurses := true, apart := false, narrowed := true }
def PrefixOrderUptoSaid : Prop := prefixOrderUptoRow.holds Try.pinned (OpenSpec.upto prefixOrderSpec)

/-- 'tollerlaw13.PrefixFirst', WHERE WHAT IT READS IS OF BULK AT MOST 1048576: true; the input reads as it did. -/
def prefixFirstUptoRow : OpenClaim := { program := "ytekpmepcacbloaa", sum := "101772109ae5178a1df9a338de87e25718d36132b177563de0558c71e797f217", func := "toller/tollerlaw13.PrefixFirst", spec := "prefixFirst", unfollowed := true, recurses := true, apart := false, narrowed := true }
def PrefixFirstUptoSaid : Prop := prefixFirstUptoRow.holds Try.pinned (OpenSpec.upto prefixFirstSpec)

/-- 'tollerlaw13.PrefixMore', WHERE WHAT IT READS IS OF BULK AT MOST 1048576: true; the input reads as it did. -/
def prefixMoreUptoRow : OpenClaim := { program := "ytekpmepcacbloaa", sum := "101772109ae5178a1df9a338de87e25718d36132b177563de0558c71e797f217", func := "toller/tollerlaw13.PrefixMore", spec := "prefixMore", unfollowed := true, recurses := true, apart := false, narrowed := true }
def PrefixMoreUptoSaid : Prop := prefixMoreUptoRow.holds Try.pinned (OpenSpec.upto prefixMoreSpec)

/-- 'tollerlaw13.PrefixBehind', WHERE WHAT IT READS IS OF BULK AT MOST 1048576: true; the input reads as it did. -/
def prefixBehindUptoRow : OpenClaim := { program := "ytekpmepcacbloaa", sum := "101772109ae5178a1df9a338de87e25718d36132b177563de0558c71e797f217", func := "toller/tollerlaw13.PrefixBehind", spec := "prefixBehind", unfollowed := true, recurses := true, apart := false, narrowed := true }
def PrefixBehindUptoSaid : Prop := prefixBehindUptoRow.holds Try.pinned (OpenSpec.upto prefixBehindSpec)

end Rows
end Go.Proofs.Ytekpmepcacbloaa
