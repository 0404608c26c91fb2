/-
  NARROWER THAN 'FOR EVERY INPUT', by the rows' own cells (each row's printed sentence says how): ConfigParses: laid · ConfigPrints: laid · ConfigBack: laid · ConfigBlanks: laid · ConfigMost: laid · ConfigTwice: laid · ConfigLacks: laid.
  DERIVED. THE GIVEN ROWS OF THIS SEAT. 7 by the template 'for every input the law returns true; each argument reads behind the call as it read before'; 0 by the template 'total and deterministic' (their statements: YtckaiejbgnhgcaaGreatDoorTotals.lean).
  GIVEN WITH THE SEED: the statements are not yours to turn. If you find one false, say at which input.
  Laid BY PROGRAM, IN A SANDBOX (cutbox-rows.mjs): the forced cells as the released guide's own fill.sh prints them over the translation 94d01691906a10fa… (all of the seat's roots in one cut). By AI agents, Wed Nov 11 2026. No macro, syntax, notation, axiom, sorry.
-/
import Derived.Test.YtckaiejbgnhgcaaGreatDoorChecked
import GoSem.Claim
import GoSem.ClaimJoined
import GoSem.ClaimMapViews
import Derived.JoinedTies
import Derived.KernelRfl
namespace Go.Proofs.YtckaiejbgnhgcaaGreatDoor
/- THE CELL 'sum', in the pinned program and in every row, IS THE sha256 OF THE DUMP (.gsa) THAT YtckaiejbgnhgcaaGreatDoorProg.lean LOADS. Nothing in Lean hashes anything: it is a label: what it is worth is what the hold of that sum in a sandbox is worth. -/
noncomputable def Tryz.pinned : Pinned := { name := "ytckaiejbgnhgcaagreatdoor", sum := "94d01691906a10faee9a11d520ce8f916dd60cb22d6f0e46936242debec68b37", checked := Tryz.checked }
namespace Rows
def none {H : Type} : Left H := { results := [], args := [] }

/- WHAT THE LISTED PACKAGE-LEVEL VARIABLES READ AS WHEN THE CALL BEGINS. Each datum BY PROGRAM (the guide's laid-datum.mjs) off the statement by which the dump's own 'gosem.cut.vars' lays the variable. In a bare row this is a premise. The card (YtckaiejbgnhgcaaGreatDoorCards.lean) ties it to the program's text. -/
def laid_toller_rule_names {H : Type} : DataW H := .agg [.lit (.string []), .lit (.string [103, 99, 114, 97]), .lit (.string [98, 117, 99, 107, 101, 116]), .lit (.string [108, 101, 97, 107, 121])]

/-- 'tollerlaw12.ConfigParses': WHATEVER THE INPUT: true; the input reads as it did. -/
def configParsesSpec : ChangeSpec := { name := "configParses", fn := fun _ => fun
  | [d1, d2, d3, d4, d5, d6, d7] => { results := [.lit (.bool true)], args := [d1, d2, d3, d4, d5, d6, d7] }
  | _ => none }
def configParsesRow : OpenClaim := { program := "ytckaiejbgnhgcaagreatdoor", sum := "94d01691906a10faee9a11d520ce8f916dd60cb22d6f0e46936242debec68b37", func := "toller/tollerlaw12.ConfigParses", spec := "configParses", inPlace := ["internal/reflectlite.ValueOf", "internal/reflectlite.Swapper", "(internal/reflectlite.Value).Len"], unfollowed := true, recurses := true, named := ["toller/rule.names"], apart := false, laid := [("toller/rule.names", laid_toller_rule_names)] }
def ConfigParsesSaid : Prop := configParsesRow.holds Tryz.pinned (OpenSpec.ofChange configParsesSpec)

/-- ITS FALSE NEIGHBOUR: 'it returns false'. Refute it at one input. -/
def configParsesWrong : ChangeSpec := { name := "configParses", fn := fun _ => fun
  | [d1, d2, d3, d4, d5, d6, d7] => { results := [.lit (.bool false)], args := [d1, d2, d3, d4, d5, d6, d7] }
  | _ => none }
def ConfigParsesWrongFalsely : Prop := configParsesRow.holds Tryz.pinned (OpenSpec.ofChange configParsesWrong)

/-- 'tollerlaw12.ConfigPrints': WHATEVER THE INPUT: true; the input reads as it did. -/
def configPrintsSpec : ChangeSpec := { name := "configPrints", fn := fun _ => fun
  | [d1, d2, d3, d4, d5, d6] => { results := [.lit (.bool true)], args := [d1, d2, d3, d4, d5, d6] }
  | _ => none }
def configPrintsRow : OpenClaim := { program := "ytckaiejbgnhgcaagreatdoor", sum := "94d01691906a10faee9a11d520ce8f916dd60cb22d6f0e46936242debec68b37", func := "toller/tollerlaw12.ConfigPrints", spec := "configPrints", inPlace := ["internal/reflectlite.ValueOf", "internal/reflectlite.Swapper", "(internal/reflectlite.Value).Len"], unfollowed := true, recurses := true, named := ["toller/rule.names"], apart := false, laid := [("toller/rule.names", laid_toller_rule_names)] }
def ConfigPrintsSaid : Prop := configPrintsRow.holds Tryz.pinned (OpenSpec.ofChange configPrintsSpec)

/-- ITS FALSE NEIGHBOUR: 'it returns false'. Refute it at one input. -/
def configPrintsWrong : ChangeSpec := { name := "configPrints", fn := fun _ => fun
  | [d1, d2, d3, d4, d5, d6] => { results := [.lit (.bool false)], args := [d1, d2, d3, d4, d5, d6] }
  | _ => none }
def ConfigPrintsWrongFalsely : Prop := configPrintsRow.holds Tryz.pinned (OpenSpec.ofChange configPrintsWrong)

/-- 'tollerlaw12.ConfigBack': WHATEVER THE INPUT: true; the input reads as it did. -/
def configBackSpec : ChangeSpec := { name := "configBack", fn := fun _ => fun
  | [d1, d2, d3, d4, d5] => { results := [.lit (.bool true)], args := [d1, d2, d3, d4, d5] }
  | _ => none }
def configBackRow : OpenClaim := { program := "ytckaiejbgnhgcaagreatdoor", sum := "94d01691906a10faee9a11d520ce8f916dd60cb22d6f0e46936242debec68b37", func := "toller/tollerlaw12.ConfigBack", spec := "configBack", inPlace := ["internal/reflectlite.ValueOf", "internal/reflectlite.Swapper", "(internal/reflectlite.Value).Len"], unfollowed := true, recurses := true, named := ["toller/rule.names"], apart := false, laid := [("toller/rule.names", laid_toller_rule_names)] }
def ConfigBackSaid : Prop := configBackRow.holds Tryz.pinned (OpenSpec.ofChange configBackSpec)

/-- ITS FALSE NEIGHBOUR: 'it returns false'. Refute it at one input. -/
def configBackWrong : ChangeSpec := { name := "configBack", fn := fun _ => fun
  | [d1, d2, d3, d4, d5] => { results := [.lit (.bool false)], args := [d1, d2, d3, d4, d5] }
  | _ => none }
def ConfigBackWrongFalsely : Prop := configBackRow.holds Tryz.pinned (OpenSpec.ofChange configBackWrong)

/-- 'tollerlaw12.ConfigBlanks': WHATEVER THE INPUT: true; the input reads as it did. -/
def configBlanksSpec : ChangeSpec := { name := "configBlanks", fn := fun _ => fun
  | [d1, d2, d3] => { results := [.lit (.bool true)], args := [d1, d2, d3] }
  | _ => none }
def configBlanksRow : OpenClaim := { program := "ytckaiejbgnhgcaagreatdoor", sum := "94d01691906a10faee9a11d520ce8f916dd60cb22d6f0e46936242debec68b37", func := "toller/tollerlaw12.ConfigBlanks", spec := "configBlanks", inPlace := ["internal/reflectlite.ValueOf", "internal/reflectlite.Swapper", "(internal/reflectlite.Value).Len"], unfollowed := true, recurses := true, named := ["toller/rule.names"], apart := false, laid := [("toller/rule.names", laid_toller_rule_names)] }
def ConfigBlanksSaid : Prop := configBlanksRow.holds Tryz.pinned (OpenSpec.ofChange configBlanksSpec)

/-- ITS FALSE NEIGHBOUR: 'it returns false'. Refute it at one input. -/
def configBlanksWrong : ChangeSpec := { name := "configBlanks", fn := fun _ => fun
  | [d1, d2, d3] => { results := [.lit (.bool false)], args := [d1, d2, d3] }
  | _ => none }
def ConfigBlanksWrongFalsely : Prop := configBlanksRow.holds Tryz.pinned (OpenSpec.ofChange configBlanksWrong)

/-- 'tollerlaw12.ConfigMost': WHATEVER THE INPUT: true; the input reads as it did. -/
def configMostSpec : ChangeSpec := { name := "configMost", fn := fun _ => fun
  | [d1, d2] => { results := [.lit (.bool true)], args := [d1, d2] }
  | _ => none }
def configMostRow : OpenClaim := { program := "ytckaiejbgnhgcaagreatdoor", sum := "94d01691906a10faee9a11d520ce8f916dd60cb22d6f0e46936242debec68b37", func := "toller/tollerlaw12.ConfigMost", spec := "configMost", inPlace := ["internal/reflectlite.ValueOf", "internal/reflectlite.Swapper", "(internal/reflectlite.Value).Len"], unfollowed := true, recurses := true, named := ["toller/rule.names"], apart := false, laid := [("toller/rule.names", laid_toller_rule_names)] }
def ConfigMostSaid : Prop := configMostRow.holds Tryz.pinned (OpenSpec.ofChange configMostSpec)

/-- ITS FALSE NEIGHBOUR: 'it returns false'. Refute it at one input. -/
def configMostWrong : ChangeSpec := { name := "configMost", fn := fun _ => fun
  | [d1, d2] => { results := [.lit (.bool false)], args := [d1, d2] }
  | _ => none }
def ConfigMostWrongFalsely : Prop := configMostRow.holds Tryz.pinned (OpenSpec.ofChange configMostWrong)

/-- 'tollerlaw12.ConfigTwice': WHATEVER THE INPUT: true; the input reads as it did. -/
def configTwiceSpec : ChangeSpec := { name := "configTwice", fn := fun _ => fun
  | [d1, d2, d3] => { results := [.lit (.bool true)], args := [d1, d2, d3] }
  | _ => none }
def configTwiceRow : OpenClaim := { program := "ytckaiejbgnhgcaagreatdoor", sum := "94d01691906a10faee9a11d520ce8f916dd60cb22d6f0e46936242debec68b37", func := "toller/tollerlaw12.ConfigTwice", spec := "configTwice", inPlace := ["internal/reflectlite.ValueOf", "internal/reflectlite.Swapper", "(internal/reflectlite.Value).Len"], unfollowed := true, recurses := true, named := ["toller/rule.names"], apart := false, laid := [("toller/rule.names", laid_toller_rule_names)] }
def ConfigTwiceSaid : Prop := configTwiceRow.holds Tryz.pinned (OpenSpec.ofChange configTwiceSpec)

/-- ITS FALSE NEIGHBOUR: 'it returns false'. Refute it at one input. -/
def configTwiceWrong : ChangeSpec := { name := "configTwice", fn := fun _ => fun
  | [d1, d2, d3] => { results := [.lit (.bool false)], args := [d1, d2, d3] }
  | _ => none }
def ConfigTwiceWrongFalsely : Prop := configTwiceRow.holds Tryz.pinned (OpenSpec.ofChange configTwiceWrong)

/-- 'tollerlaw12.ConfigLacks': WHATEVER THE INPUT: true; the input reads as it did. -/
def configLacksSpec : ChangeSpec := { name := "configLacks", fn := fun _ => fun
  | [d1, d2] => { results := [.lit (.bool true)], args := [d1, d2] }
  | _ => none }
def configLacksRow : OpenClaim := { program := "ytckaiejbgnhgcaagreatdoor", sum := "94d01691906a10faee9a11d520ce8f916dd60cb22d6f0e46936242debec68b37", func := "toller/tollerlaw12.ConfigLacks", spec := "configLacks", inPlace := ["internal/reflectlite.ValueOf", "internal/reflectlite.Swapper", "(internal/reflectlite.Value).Len"], unfollowed := true, recurses := true, named := ["toller/rule.names"], apart := false, laid := [("toller/rule.names", laid_toller_rule_names)] }
def ConfigLacksSaid : Prop := configLacksRow.holds Tryz.pinned (OpenSpec.ofChange configLacksSpec)

/-- ITS FALSE NEIGHBOUR: 'it returns false'. Refute it at one input. -/
def configLacksWrong : ChangeSpec := { name := "configLacks", fn := fun _ => fun
  | [d1, d2] => { results := [.lit (.bool false)], args := [d1, d2] }
  | _ => none }
def ConfigLacksWrongFalsely : Prop := configLacksRow.holds Tryz.pinned (OpenSpec.ofChange configLacksWrong)

/- THE SECOND FORM. 'bulk': how many values and letters a reading holds, each counted each time it is reached (what is shared counts as often as it is met; a slice's spare places count too). A statement '..UptoSaid' is the law's where the arguments, and the package variables that the reading takes, are together of bulk at most 1048576: NARROWER than '..Said'. Prove '..Said' where nothing that the law and all that it calls make is longer than what came in: it says more and counts as full. Else prove '..UptoSaid'. A law counts once. -/
mutual
def uptoBulk {H : Type} : DataW H → Nat
  | .lit (.string bytes) => bytes.length + 1
  | .lit _ => 1
  | .nil => 1
  | .ptr d => uptoBulk d + 1
  | .slice elems spare => uptoBulkAll elems + uptoBulkAll spare + 1
  | .agg parts => uptoBulkAll parts + 1
  | .iface _ d => uptoBulk d + 1
  | .map entries => uptoBulkEntries entries + 1
  | .held _ => 1
def uptoBulkAll {H : Type} : List (DataW H) → Nat
  | [] => 0
  | d :: r => uptoBulk d + uptoBulkAll r
def uptoBulkEntries {H : Type} : List (Lit × DataW H) → Nat
  | [] => 0
  | x :: r => uptoBulkEntry x + uptoBulkEntries r
def uptoBulkEntry {H : Type} : Lit × DataW H → Nat
  | (.string bytes, d) => bytes.length + uptoBulk d + 1
  | (_, d) => uptoBulk d + 1
 end
def uptoSmall : (H : Type) → List (DataW H) → Bool := fun _ ds => decide (uptoBulkAll ds ≤ 1048576)
def OpenSpec.upto (s : _root_.Go.ChangeSpec) : _root_.Go.OpenSpec := { _root_.Go.OpenSpec.ofChange s with cond := some uptoSmall }

/-- 'tollerlaw12.ConfigParses', WHERE WHAT IT READS IS OF BULK AT MOST 1048576: true; the input reads as it did. -/
def configParsesUptoRow : OpenClaim := { program := "ytckaiejbgnhgcaagreatdoor", sum := "94d01691906a10faee9a11d520ce8f916dd60cb22d6f0e46936242debec68b37", func := "toller/tollerlaw12.ConfigParses", spec := "configParses", inPlace := ["internal/reflectlite.ValueOf", "internal/reflectlite.Swapper", "(internal/reflectlite.Value).Len"], unfollowed := true, recurses := true, named := ["toller/rule.names"], apart := false, laid := [("toller/rule.names", laid_toller_rule_names)], narrowed := true }
def ConfigParsesUptoSaid : Prop := configParsesUptoRow.holds Tryz.pinned (OpenSpec.upto configParsesSpec)

/-- 'tollerlaw12.ConfigPrints', WHERE WHAT IT READS IS OF BULK AT MOST 1048576: true; the input reads as it did. -/
def configPrintsUptoRow : OpenClaim := { program := "ytckaiejbgnhgcaagreatdoor", sum := "94d01691906a10faee9a11d520ce8f916dd60cb22d6f0e46936242debec68b37", func := "toller/tollerlaw12.ConfigPrints", spec := "configPrints", inPlace := ["internal/reflectlite.ValueOf", "internal/reflectlite.Swapper", "(internal/reflectlite.Value).Len"], unfollowed := true, recurses := true, named := ["toller/rule.names"], apart := false, laid := [("toller/rule.names", laid_toller_rule_names)], narrowed := true }
def ConfigPrintsUptoSaid : Prop := configPrintsUptoRow.holds Tryz.pinned (OpenSpec.upto configPrintsSpec)

/-- 'tollerlaw12.ConfigBack', WHERE WHAT IT READS IS OF BULK AT MOST 1048576: true; the input reads as it did. -/
def configBackUptoRow : OpenClaim := { program := "ytckaiejbgnhgcaagreatdoor", sum := "94d01691906a10faee9a11d520ce8f916dd60cb22d6f0e46936242debec68b37", func := "toller/tollerlaw12.ConfigBack", spec := "configBack", inPlace := ["internal/reflectlite.ValueOf", "internal/reflectlite.Swapper", "(internal/reflectlite.Value).Len"], unfollowed := true, recurses := true, named := ["toller/rule.names"], apart := false, laid := [("toller/rule.names", laid_toller_rule_names)], narrowed := true }
def ConfigBackUptoSaid : Prop := configBackUptoRow.holds Tryz.pinned (OpenSpec.upto configBackSpec)

/-- 'tollerlaw12.ConfigBlanks', WHERE WHAT IT READS IS OF BULK AT MOST 1048576: true; the input reads as it did. -/
def configBlanksUptoRow : OpenClaim := { program := "ytckaiejbgnhgcaagreatdoor", sum := "94d01691906a10faee9a11d520ce8f916dd60cb22d6f0e46936242debec68b37", func := "toller/tollerlaw12.ConfigBlanks", spec := "configBlanks", inPlace := ["internal/reflectlite.ValueOf", "internal/reflectlite.Swapper", "(internal/reflectlite.Value).Len"], unfollowed := true, recurses := true, named := ["toller/rule.names"], apart := false, laid := [("toller/rule.names", laid_toller_rule_names)], narrowed := true }
def ConfigBlanksUptoSaid : Prop := configBlanksUptoRow.holds Tryz.pinned (OpenSpec.upto configBlanksSpec)

/-- 'tollerlaw12.ConfigMost', WHERE WHAT IT READS IS OF BULK AT MOST 1048576: true; the input reads as it did. -/
def configMostUptoRow : OpenClaim := { program := "ytckaiejbgnhgcaagreatdoor", sum := "94d01691906a10faee9a11d520ce8f916dd60cb22d6f0e46936242debec68b37", func := "toller/tollerlaw12.ConfigMost", spec := "configMost", inPlace := ["internal/reflectlite.ValueOf", "internal/reflectlite.Swapper", "(internal/reflectlite.Value).Len"], unfollowed := true, recurses := true, named := ["toller/rule.names"], apart := false, laid := [("toller/rule.names", laid_toller_rule_names)], narrowed := true }
def ConfigMostUptoSaid : Prop := configMostUptoRow.holds Tryz.pinned (OpenSpec.upto configMostSpec)

/-- 'tollerlaw12.ConfigTwice', WHERE WHAT IT READS IS OF BULK AT MOST 1048576: true; the input reads as it did. -/
def configTwiceUptoRow : OpenClaim := { program := "ytckaiejbgnhgcaagreatdoor", sum := "94d01691906a10faee9a11d520ce8f916dd60cb22d6f0e46936242debec68b37", func := "toller/tollerlaw12.ConfigTwice", spec := "configTwice", inPlace := ["internal/reflectlite.ValueOf", "internal/reflectlite.Swapper", "(internal/reflectlite.Value).Len"], unfollowed := true, recurses := true, named := ["toller/rule.names"], apart := false, laid := [("toller/rule.names", laid_toller_rule_names)], narrowed := true }
def ConfigTwiceUptoSaid : Prop := configTwiceUptoRow.holds Tryz.pinned (OpenSpec.upto configTwiceSpec)

/-- 'tollerlaw12.ConfigLacks', WHERE WHAT IT READS IS OF BULK AT MOST 1048576: true; the input reads as it did. -/
def configLacksUptoRow : OpenClaim := { program := "ytckaiejbgnhgcaagreatdoor", sum := "94d01691906a10faee9a11d520ce8f916dd60cb22d6f0e46936242debec68b37", func := "toller/tollerlaw12.ConfigLacks", spec := "configLacks", inPlace := ["internal/reflectlite.ValueOf", "internal/reflectlite.Swapper", "(internal/reflectlite.Value).Len"], unfollowed := true, recurses := true, named := ["toller/rule.names"], apart := false, laid := [("toller/rule.names", laid_toller_rule_names)], narrowed := true }
def ConfigLacksUptoSaid : Prop := configLacksUptoRow.holds Tryz.pinned (OpenSpec.upto configLacksSpec)

end Rows
end Go.Proofs.YtckaiejbgnhgcaaGreatDoor
