/-
  No cell of these rows narrows 'for every input' (looked for: loops, veiled, ifaces, maps, wideKeys, modest, calm, conditions, laid).
  DERIVED. THE GIVEN ROWS OF THIS SEAT. 6 by the template 'for every input the law returns true; each argument reads behind the call as it read before'; 0 by the template 'total and deterministic' (their statements: YtndipebpccdlfaaTotals.lean).
  GIVEN WITH THE SEED: the statements are not yours to turn. If you find one false, say at which input.
  Laid BY PROGRAM, IN A SANDBOX (cutbox-rows.mjs): the forced cells as the released guide's own fill.sh prints them over the translation 7a9238e20af71737… (all of the seat's roots in one cut). By AI agents, Wed Nov 11 2026. No macro, syntax, notation, axiom, sorry.
-/
import Derived.Test.YtndipebpccdlfaaChecked
import GoSem.Claim
import GoSem.ClaimJoined
import GoSem.ClaimMapViews
import Derived.JoinedTies
import Derived.KernelRfl
namespace Go.Proofs.Ytndipebpccdlfaa
/- THE CELL 'sum', in the pinned program and in every row, IS THE sha256 OF THE DUMP (.gsa) THAT YtndipebpccdlfaaProg.lean LOADS. Nothing in Lean hashes anything: it is a label: what it is worth is what the hold of that sum in a sandbox is worth. -/
noncomputable def Try.pinned : Pinned := { name := "ytndipebpccdlfaa", sum := "7a9238e20af7173702858e12b507fb8722e6ad182ec510a293f089f91f87d52d", checked := Try.checked }
namespace Rows
def none {H : Type} : Left H := { results := [], args := [] }

/-- 'tollerlaw09.KeyAsks': WHATEVER THE INPUT: true; the input reads as it did. -/
def keyAsksSpec : ChangeSpec := { name := "keyAsks", fn := fun _ => fun
  | [d1, d2, d3, d4, d5, d6] => { results := [.lit (.bool true)], args := [d1, d2, d3, d4, d5, d6] }
  | _ => none }
def keyAsksRow : OpenClaim := { program := "ytndipebpccdlfaa", sum := "7a9238e20af7173702858e12b507fb8722e6ad182ec510a293f089f91f87d52d", func := "toller/tollerlaw09.KeyAsks", spec := "keyAsks", unfollowed := true, recurses := true, apart := false }
def KeyAsksSaid : Prop := keyAsksRow.holds Try.pinned (OpenSpec.ofChange keyAsksSpec)

/-- ITS FALSE NEIGHBOUR: 'it returns false'. Refute it at one input. -/
def keyAsksWrong : ChangeSpec := { name := "keyAsks", fn := fun _ => fun
  | [d1, d2, d3, d4, d5, d6] => { results := [.lit (.bool false)], args := [d1, d2, d3, d4, d5, d6] }
  | _ => none }
def KeyAsksWrongFalsely : Prop := keyAsksRow.holds Try.pinned (OpenSpec.ofChange keyAsksWrong)

/-- 'tollerlaw09.KeyOrder': WHATEVER THE INPUT: true; the input reads as it did. -/
def keyOrderSpec : ChangeSpec := { name := "keyOrder", fn := fun _ => fun
  | [d1, d2, d3, d4, d5, d6] => { results := [.lit (.bool true)], args := [d1, d2, d3, d4, d5, d6] }
  | _ => none }
def keyOrderRow : OpenClaim := { program := "ytndipebpccdlfaa", sum := "7a9238e20af7173702858e12b507fb8722e6ad182ec510a293f089f91f87d52d", func := "toller/tollerlaw09.KeyOrder", spec := "keyOrder", unfollowed := true, recurses := true, apart := false }
def KeyOrderSaid : Prop := keyOrderRow.holds Try.pinned (OpenSpec.ofChange keyOrderSpec)

/-- ITS FALSE NEIGHBOUR: 'it returns false'. Refute it at one input. -/
def keyOrderWrong : ChangeSpec := { name := "keyOrder", fn := fun _ => fun
  | [d1, d2, d3, d4, d5, d6] => { results := [.lit (.bool false)], args := [d1, d2, d3, d4, d5, d6] }
  | _ => none }
def KeyOrderWrongFalsely : Prop := keyOrderRow.holds Try.pinned (OpenSpec.ofChange keyOrderWrong)

/-- 'tollerlaw09.KeyCommon': WHATEVER THE INPUT: true; the input reads as it did. -/
def keyCommonSpec : ChangeSpec := { name := "keyCommon", fn := fun _ => fun
  | [d1, d2, d3, d4] => { results := [.lit (.bool true)], args := [d1, d2, d3, d4] }
  | _ => none }
def keyCommonRow : OpenClaim := { program := "ytndipebpccdlfaa", sum := "7a9238e20af7173702858e12b507fb8722e6ad182ec510a293f089f91f87d52d", func := "toller/tollerlaw09.KeyCommon", spec := "keyCommon", unfollowed := true, recurses := true, apart := false }
def KeyCommonSaid : Prop := keyCommonRow.holds Try.pinned (OpenSpec.ofChange keyCommonSpec)

/-- ITS FALSE NEIGHBOUR: 'it returns false'. Refute it at one input. -/
def keyCommonWrong : ChangeSpec := { name := "keyCommon", fn := fun _ => fun
  | [d1, d2, d3, d4] => { results := [.lit (.bool false)], args := [d1, d2, d3, d4] }
  | _ => none }
def KeyCommonWrongFalsely : Prop := keyCommonRow.holds Try.pinned (OpenSpec.ofChange keyCommonWrong)

/-- 'tollerlaw09.KeyBytes': WHATEVER THE INPUT: true; the input reads as it did. -/
def keyBytesSpec : ChangeSpec := { name := "keyBytes", fn := fun _ => fun
  | [d1, d2, d3, d4] => { results := [.lit (.bool true)], args := [d1, d2, d3, d4] }
  | _ => none }
def keyBytesRow : OpenClaim := { program := "ytndipebpccdlfaa", sum := "7a9238e20af7173702858e12b507fb8722e6ad182ec510a293f089f91f87d52d", func := "toller/tollerlaw09.KeyBytes", spec := "keyBytes", unfollowed := true, recurses := true, apart := false }
def KeyBytesSaid : Prop := keyBytesRow.holds Try.pinned (OpenSpec.ofChange keyBytesSpec)

/-- ITS FALSE NEIGHBOUR: 'it returns false'. Refute it at one input. -/
def keyBytesWrong : ChangeSpec := { name := "keyBytes", fn := fun _ => fun
  | [d1, d2, d3, d4] => { results := [.lit (.bool false)], args := [d1, d2, d3, d4] }
  | _ => none }
def KeyBytesWrongFalsely : Prop := keyBytesRow.holds Try.pinned (OpenSpec.ofChange keyBytesWrong)

/-- 'tollerlaw09.KeySorted': WHATEVER THE INPUT: true; the input reads as it did. -/
def keySortedSpec : ChangeSpec := { name := "keySorted", fn := fun _ => fun
  | [d1, d2, d3] => { results := [.lit (.bool true)], args := [d1, d2, d3] }
  | _ => none }
def keySortedRow : OpenClaim := { program := "ytndipebpccdlfaa", sum := "7a9238e20af7173702858e12b507fb8722e6ad182ec510a293f089f91f87d52d", func := "toller/tollerlaw09.KeySorted", spec := "keySorted", unfollowed := true, recurses := true, apart := false }
def KeySortedSaid : Prop := keySortedRow.holds Try.pinned (OpenSpec.ofChange keySortedSpec)

/-- ITS FALSE NEIGHBOUR: 'it returns false'. Refute it at one input. -/
def keySortedWrong : ChangeSpec := { name := "keySorted", fn := fun _ => fun
  | [d1, d2, d3] => { results := [.lit (.bool false)], args := [d1, d2, d3] }
  | _ => none }
def KeySortedWrongFalsely : Prop := keySortedRow.holds Try.pinned (OpenSpec.ofChange keySortedWrong)

/-- 'tollerlaw09.KeyHas': WHATEVER THE INPUT: true; the input reads as it did. -/
def keyHasSpec : ChangeSpec := { name := "keyHas", fn := fun _ => fun
  | [d1, d2, d3] => { results := [.lit (.bool true)], args := [d1, d2, d3] }
  | _ => none }
def keyHasRow : OpenClaim := { program := "ytndipebpccdlfaa", sum := "7a9238e20af7173702858e12b507fb8722e6ad182ec510a293f089f91f87d52d", func := "toller/tollerlaw09.KeyHas", spec := "keyHas", unfollowed := true, recurses := true, apart := false }
def KeyHasSaid : Prop := keyHasRow.holds Try.pinned (OpenSpec.ofChange keyHasSpec)

/-- ITS FALSE NEIGHBOUR: 'it returns false'. Refute it at one input. -/
def keyHasWrong : ChangeSpec := { name := "keyHas", fn := fun _ => fun
  | [d1, d2, d3] => { results := [.lit (.bool false)], args := [d1, d2, d3] }
  | _ => none }
def KeyHasWrongFalsely : Prop := keyHasRow.holds Try.pinned (OpenSpec.ofChange keyHasWrong)

/- THE SECOND FORM. 'bulk': how many values and letters a reading holds, each counted each time it is reached (what is shared counts as often as it is met; a slice's spare places count too). A statement '..UptoSaid' is the law's where the arguments, and the package variables that the reading takes, are together of bulk at most 1048576: NARROWER than '..Said'. Prove '..Said' where nothing that the law and all that it calls make is longer than what came in: it says more and counts as full. Else prove '..UptoSaid'. A law counts once. -/
mutual
def uptoBulk {H : Type} : DataW H → Nat
  | .lit (.string bytes) => bytes.length + 1
  | .lit _ => 1
  | .nil => 1
  | .ptr d => uptoBulk d + 1
  | .slice elems spare => uptoBulkAll elems + uptoBulkAll spare + 1
  | .agg parts => uptoBulkAll parts + 1
  | .iface _ d => uptoBulk d + 1
  | .map entries => uptoBulkEntries entries + 1
  | .held _ => 1
def uptoBulkAll {H : Type} : List (DataW H) → Nat
  | [] => 0
  | d :: r => uptoBulk d + uptoBulkAll r
def uptoBulkEntries {H : Type} : List (Lit × DataW H) → Nat
  | [] => 0
  | x :: r => uptoBulkEntry x + uptoBulkEntries r
def uptoBulkEntry {H : Type} : Lit × DataW H → Nat
  | (.string bytes, d) => bytes.length + uptoBulk d + 1
  | (_, d) => uptoBulk d + 1
 end
def uptoSmall : (H : Type) → List (DataW H) → Bool := fun _ ds => decide (uptoBulkAll ds ≤ 1048576)
def OpenSpec.upto (s : _root_.Go.ChangeSpec) : _root_.Go.OpenSpec := { _root_.Go.OpenSpec.ofChange s with cond := some uptoSmall }

/-- 'tollerlaw09.KeyAsks', WHERE WHAT IT READS IS OF BULK AT MOST 1048576: true; the input reads as it did. -/
def keyAsksUptoRow : OpenClaim := { program := "ytndipebpccdlfaa", sum := "7a9238e20af7173702858e12b507fb8722e6ad182ec510a293f089f91f87d52d", func := "toller/tollerlaw09.KeyAsks", spec := "keyAsks", unfollowed := true, recurses := true, apart := false, narrowed := true }
def KeyAsksUptoSaid : Prop := keyAsksUptoRow.holds Try.pinned (OpenSpec.upto keyAsksSpec)

/-- 'tollerlaw09.KeyOrder', WHERE WHAT IT READS IS OF BULK AT MOST 1048576: true; the input reads as it did. -/
def keyOrderUptoRow : OpenClaim := { program := "ytndipebpccdlfaa", sum := "7a9238e20af7173702858e12b507fb8722e6ad182ec510a293f089f91f87d52d", func := "toller/tollerlaw09.KeyOrder", spec := "keyOrder", unfollowed := true, recurses := true, apart := false, narrowed := true }
def KeyOrderUptoSaid : Prop := keyOrderUptoRow.holds Try.pinned (OpenSpec.upto keyOrderSpec)

/-- 'tollerlaw09.KeyCommon', WHERE WHAT IT READS IS OF BULK AT MOST 1048576: true; the input reads as it did. -/
def keyCommonUptoRow : OpenClaim := { program := "ytndipebpccdlfaa", sum := "7a9238e20af7173702858e12b507fb8722e6ad182ec510a293f089f91f87d52d", func := "toller/tollerlaw09.KeyCommon", spec := "keyCommon", unfollowed := true, recurses := true, apart := false, narrowed := true }
def KeyCommonUptoSaid : Prop := keyCommonUptoRow.holds Try.pinned (OpenSpec.upto keyCommonSpec)

/-- 'tollerlaw09.KeyBytes', WHERE WHAT IT READS IS OF BULK AT MOST 1048576: true; the input reads as it did. -/
def keyBytesUptoRow : OpenClaim := { program := "ytndipebpccdlfaa", sum := "7a9238e20af7173702858e12b507fb8722e6ad182ec510a293f089f91f87d52d", func := "toller/tollerlaw09.KeyBytes", spec := "keyBytes", unfollowed := true, recurses := true, apart := false, narrowed := true }
def KeyBytesUptoSaid : Prop := keyBytesUptoRow.holds Try.pinned (OpenSpec.upto keyBytesSpec)

/-- 'tollerlaw09.KeySorted', WHERE WHAT IT READS IS OF BULK AT MOST 1048576: true; the input reads as it did. -/
def keySortedUptoRow : OpenClaim := { program := "ytndipebpccdlfaa", sum := "7a9238e20af7173702858e12b507fb8722e6ad182ec510a293f089f91f87d52d", func := "toller/tollerlaw09.KeySorted", spec := "keySorted", unfollowed := true, recurses := true, apart := false, narrowed := true }
def KeySortedUptoSaid : Prop := keySortedUptoRow.holds Try.pinned (OpenSpec.upto keySortedSpec)

/-- 'tollerlaw09.KeyHas', WHERE WHAT IT READS IS OF BULK AT MOST 1048576: true; the input reads as it did. -/
def keyHasUptoRow : OpenClaim := { program := "ytndipebpccdlfaa", sum := "7a9238e20af7173702858e12b507fb8722e6ad182ec510a293f089f91f87d52d", func := "toller/tollerlaw09.KeyHas", spec := "keyHas", unfollowed := true, recurses := true, apart := false, narrowed := true }
def KeyHasUptoSaid : Prop := keyHasUptoRow.holds Try.pinned (OpenSpec.upto keyHasSpec)

end Rows
end Go.Proofs.Ytndipebpccdlfaa
