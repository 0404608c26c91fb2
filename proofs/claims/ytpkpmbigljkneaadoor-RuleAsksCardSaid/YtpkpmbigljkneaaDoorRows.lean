/-
  NARROWER THAN 'FOR EVERY INPUT', by the rows' own cells (each row's printed sentence says how): RuleAsks: laid · RuleBack: laid · RuleCap: laid · RuleNames: laid · RuleWords: laid · RuleEdge: laid.
  DERIVED. THE GIVEN ROWS OF THIS SEAT. 6 by the template 'for every input the law returns true; each argument reads behind the call as it read before'; 0 by the template 'total and deterministic' (their statements: YtpkpmbigljkneaaDoorTotals.lean).
  GIVEN WITH THE SEED: the statements are not yours to turn. If you find one false, say at which input.
  Laid BY PROGRAM, IN A SANDBOX (cutbox-rows.mjs): the forced cells as the released guide's own fill.sh prints them over the translation b3a87fc834ab4bbe… (all of the seat's roots in one cut). By AI agents, Wed Nov 11 2026. No macro, syntax, notation, axiom, sorry.
-/
import Derived.Test.YtpkpmbigljkneaaDoorChecked
import GoSem.Claim
import GoSem.ClaimJoined
import GoSem.ClaimMapViews
import Derived.JoinedTies
import Derived.KernelRfl
namespace Go.Proofs.YtpkpmbigljkneaaDoor
/- THE CELL 'sum', in the pinned program and in every row, IS THE sha256 OF THE DUMP (.gsa) THAT YtpkpmbigljkneaaDoorProg.lean LOADS. Nothing in Lean hashes anything: it is a label: what it is worth is what the hold of that sum in a sandbox is worth. -/
noncomputable def Tryd.pinned : Pinned := { name := "ytpkpmbigljkneaadoor", sum := "b3a87fc834ab4bbed8c1e8f64bcc2be5e279a736b252245658fea70326ed6774", checked := Tryd.checked }
namespace Rows
def none {H : Type} : Left H := { results := [], args := [] }

/- WHAT THE LISTED PACKAGE-LEVEL VARIABLES READ AS WHEN THE CALL BEGINS. Each datum BY PROGRAM (the guide's laid-datum.mjs) off the statement by which the dump's own 'gosem.cut.vars' lays the variable. In a bare row this is a premise. The card (YtpkpmbigljkneaaDoorCards.lean) ties it to the program's text. -/
def laid_toller_rule_names {H : Type} : DataW H := .agg [.lit (.string []), .lit (.string [103, 99, 114, 97]), .lit (.string [98, 117, 99, 107, 101, 116]), .lit (.string [108, 101, 97, 107, 121])]

/-- 'tollerlaw11.RuleAsks': WHATEVER THE INPUT: true; the input reads as it did. -/
def ruleAsksSpec : ChangeSpec := { name := "ruleAsks", fn := fun _ => fun
  | [d1, d2, d3, d4, d5, d6, d7, d8, d9, d10] => { results := [.lit (.bool true)], args := [d1, d2, d3, d4, d5, d6, d7, d8, d9, d10] }
  | _ => none }
def ruleAsksRow : OpenClaim := { program := "ytpkpmbigljkneaadoor", sum := "b3a87fc834ab4bbed8c1e8f64bcc2be5e279a736b252245658fea70326ed6774", func := "toller/tollerlaw11.RuleAsks", spec := "ruleAsks", unfollowed := true, recurses := true, named := ["toller/rule.names"], apart := false, laid := [("toller/rule.names", laid_toller_rule_names)] }
def RuleAsksSaid : Prop := ruleAsksRow.holds Tryd.pinned (OpenSpec.ofChange ruleAsksSpec)

/-- ITS FALSE NEIGHBOUR: 'it returns false'. Refute it at one input. -/
def ruleAsksWrong : ChangeSpec := { name := "ruleAsks", fn := fun _ => fun
  | [d1, d2, d3, d4, d5, d6, d7, d8, d9, d10] => { results := [.lit (.bool false)], args := [d1, d2, d3, d4, d5, d6, d7, d8, d9, d10] }
  | _ => none }
def RuleAsksWrongFalsely : Prop := ruleAsksRow.holds Tryd.pinned (OpenSpec.ofChange ruleAsksWrong)

/-- 'tollerlaw11.RuleBack': WHATEVER THE INPUT: true; the input reads as it did. -/
def ruleBackSpec : ChangeSpec := { name := "ruleBack", fn := fun _ => fun
  | [d1, d2, d3, d4, d5, d6] => { results := [.lit (.bool true)], args := [d1, d2, d3, d4, d5, d6] }
  | _ => none }
def ruleBackRow : OpenClaim := { program := "ytpkpmbigljkneaadoor", sum := "b3a87fc834ab4bbed8c1e8f64bcc2be5e279a736b252245658fea70326ed6774", func := "toller/tollerlaw11.RuleBack", spec := "ruleBack", unfollowed := true, recurses := true, named := ["toller/rule.names"], apart := false, laid := [("toller/rule.names", laid_toller_rule_names)] }
def RuleBackSaid : Prop := ruleBackRow.holds Tryd.pinned (OpenSpec.ofChange ruleBackSpec)

/-- ITS FALSE NEIGHBOUR: 'it returns false'. Refute it at one input. -/
def ruleBackWrong : ChangeSpec := { name := "ruleBack", fn := fun _ => fun
  | [d1, d2, d3, d4, d5, d6] => { results := [.lit (.bool false)], args := [d1, d2, d3, d4, d5, d6] }
  | _ => none }
def RuleBackWrongFalsely : Prop := ruleBackRow.holds Tryd.pinned (OpenSpec.ofChange ruleBackWrong)

/-- 'tollerlaw11.RuleCap': WHATEVER THE INPUT: true; the input reads as it did. -/
def ruleCapSpec : ChangeSpec := { name := "ruleCap", fn := fun _ => fun
  | [d1, d2, d3, d4] => { results := [.lit (.bool true)], args := [d1, d2, d3, d4] }
  | _ => none }
def ruleCapRow : OpenClaim := { program := "ytpkpmbigljkneaadoor", sum := "b3a87fc834ab4bbed8c1e8f64bcc2be5e279a736b252245658fea70326ed6774", func := "toller/tollerlaw11.RuleCap", spec := "ruleCap", unfollowed := true, recurses := true, named := ["toller/rule.names"], apart := false, laid := [("toller/rule.names", laid_toller_rule_names)] }
def RuleCapSaid : Prop := ruleCapRow.holds Tryd.pinned (OpenSpec.ofChange ruleCapSpec)

/-- ITS FALSE NEIGHBOUR: 'it returns false'. Refute it at one input. -/
def ruleCapWrong : ChangeSpec := { name := "ruleCap", fn := fun _ => fun
  | [d1, d2, d3, d4] => { results := [.lit (.bool false)], args := [d1, d2, d3, d4] }
  | _ => none }
def RuleCapWrongFalsely : Prop := ruleCapRow.holds Tryd.pinned (OpenSpec.ofChange ruleCapWrong)

/-- 'tollerlaw11.RuleNames': WHATEVER THE INPUT: true; the input reads as it did. -/
def ruleNamesSpec : ChangeSpec := { name := "ruleNames", fn := fun _ => fun
  | [d1, d2] => { results := [.lit (.bool true)], args := [d1, d2] }
  | _ => none }
def ruleNamesRow : OpenClaim := { program := "ytpkpmbigljkneaadoor", sum := "b3a87fc834ab4bbed8c1e8f64bcc2be5e279a736b252245658fea70326ed6774", func := "toller/tollerlaw11.RuleNames", spec := "ruleNames", unfollowed := true, recurses := true, named := ["toller/rule.names"], apart := false, laid := [("toller/rule.names", laid_toller_rule_names)] }
def RuleNamesSaid : Prop := ruleNamesRow.holds Tryd.pinned (OpenSpec.ofChange ruleNamesSpec)

/-- ITS FALSE NEIGHBOUR: 'it returns false'. Refute it at one input. -/
def ruleNamesWrong : ChangeSpec := { name := "ruleNames", fn := fun _ => fun
  | [d1, d2] => { results := [.lit (.bool false)], args := [d1, d2] }
  | _ => none }
def RuleNamesWrongFalsely : Prop := ruleNamesRow.holds Tryd.pinned (OpenSpec.ofChange ruleNamesWrong)

/-- 'tollerlaw11.RuleWords': WHATEVER THE INPUT: true; the input reads as it did. -/
def ruleWordsSpec : ChangeSpec := { name := "ruleWords", fn := fun _ => fun
  | [d1, d2, d3, d4, d5, d6] => { results := [.lit (.bool true)], args := [d1, d2, d3, d4, d5, d6] }
  | _ => none }
def ruleWordsRow : OpenClaim := { program := "ytpkpmbigljkneaadoor", sum := "b3a87fc834ab4bbed8c1e8f64bcc2be5e279a736b252245658fea70326ed6774", func := "toller/tollerlaw11.RuleWords", spec := "ruleWords", unfollowed := true, recurses := true, named := ["toller/rule.names"], apart := false, laid := [("toller/rule.names", laid_toller_rule_names)] }
def RuleWordsSaid : Prop := ruleWordsRow.holds Tryd.pinned (OpenSpec.ofChange ruleWordsSpec)

/-- ITS FALSE NEIGHBOUR: 'it returns false'. Refute it at one input. -/
def ruleWordsWrong : ChangeSpec := { name := "ruleWords", fn := fun _ => fun
  | [d1, d2, d3, d4, d5, d6] => { results := [.lit (.bool false)], args := [d1, d2, d3, d4, d5, d6] }
  | _ => none }
def RuleWordsWrongFalsely : Prop := ruleWordsRow.holds Tryd.pinned (OpenSpec.ofChange ruleWordsWrong)

/-- 'tollerlaw11.RuleEdge': WHATEVER THE INPUT: true; the input reads as it did. -/
def ruleEdgeSpec : ChangeSpec := { name := "ruleEdge", fn := fun _ => fun
  | [d1, d2] => { results := [.lit (.bool true)], args := [d1, d2] }
  | _ => none }
def ruleEdgeRow : OpenClaim := { program := "ytpkpmbigljkneaadoor", sum := "b3a87fc834ab4bbed8c1e8f64bcc2be5e279a736b252245658fea70326ed6774", func := "toller/tollerlaw11.RuleEdge", spec := "ruleEdge", unfollowed := true, recurses := true, named := ["toller/rule.names"], apart := false, laid := [("toller/rule.names", laid_toller_rule_names)] }
def RuleEdgeSaid : Prop := ruleEdgeRow.holds Tryd.pinned (OpenSpec.ofChange ruleEdgeSpec)

/-- ITS FALSE NEIGHBOUR: 'it returns false'. Refute it at one input. -/
def ruleEdgeWrong : ChangeSpec := { name := "ruleEdge", fn := fun _ => fun
  | [d1, d2] => { results := [.lit (.bool false)], args := [d1, d2] }
  | _ => none }
def RuleEdgeWrongFalsely : Prop := ruleEdgeRow.holds Tryd.pinned (OpenSpec.ofChange ruleEdgeWrong)

/- THE SECOND FORM. 'bulk': how many values and letters a reading holds, each counted each time it is reached (what is shared counts as often as it is met; a slice's spare places count too). A statement '..UptoSaid' is the law's where the arguments, and the package variables that the reading takes, are together of bulk at most 1048576: NARROWER than '..Said'. Prove '..Said' where nothing that the law and all that it calls make is longer than what came in: it says more and counts as full. Else prove '..UptoSaid'. A law counts once. -/
mutual
def uptoBulk {H : Type} : DataW H → Nat
  | .lit (.string bytes) => bytes.length + 1
  | .lit _ => 1
  | .nil => 1
  | .ptr d => uptoBulk d + 1
  | .slice elems spare => uptoBulkAll elems + uptoBulkAll spare + 1
  | .agg parts => uptoBulkAll parts + 1
  | .iface _ d => uptoBulk d + 1
  | .map entries => uptoBulkEntries entries + 1
  | .held _ => 1
def uptoBulkAll {H : Type} : List (DataW H) → Nat
  | [] => 0
  | d :: r => uptoBulk d + uptoBulkAll r
def uptoBulkEntries {H : Type} : List (Lit × DataW H) → Nat
  | [] => 0
  | x :: r => uptoBulkEntry x + uptoBulkEntries r
def uptoBulkEntry {H : Type} : Lit × DataW H → Nat
  | (.string bytes, d) => bytes.length + uptoBulk d + 1
  | (_, d) => uptoBulk d + 1
 end
def uptoSmall : (H : Type) → List (DataW H) → Bool := fun _ ds => decide (uptoBulkAll ds ≤ 1048576)
def OpenSpec.upto (s : _root_.Go.ChangeSpec) : _root_.Go.OpenSpec := { _root_.Go.OpenSpec.ofChange s with cond := some uptoSmall }

/-- 'tollerlaw11.RuleAsks', WHERE WHAT IT READS IS OF BULK AT MOST 1048576: true; the input reads as it did. -/
def ruleAsksUptoRow : OpenClaim := { program := "ytpkpmbigljkneaadoor", sum := "b3a87fc834ab4bbed8c1e8f64bcc2be5e279a736b252245658fea70326ed6774", func := "toller/tollerlaw11.RuleAsks", spec := "ruleAsks", unfollowed := true, recurses := true, named := ["toller/rule.names"], apart := false, laid := [("toller/rule.names", laid_toller_rule_names)], narrowed := true }
def RuleAsksUptoSaid : Prop := ruleAsksUptoRow.holds Tryd.pinned (OpenSpec.upto ruleAsksSpec)

/-- 'tollerlaw11.RuleBack', WHERE WHAT IT READS IS OF BULK AT MOST 1048576: true; the input reads as it did. -/
def ruleBackUptoRow : OpenClaim := { program := "ytpkpmbigljkneaadoor", sum := "b3a87fc834ab4bbed8c1e8f64bcc2be5e279a736b252245658fea70326ed6774", func := "toller/tollerlaw11.RuleBack", spec := "ruleBack", unfollowed := true, recurses := true, named := ["toller/rule.names"], apart := false, laid := [("toller/rule.names", laid_toller_rule_names)], narrowed := true }
def RuleBackUptoSaid : Prop := ruleBackUptoRow.holds Tryd.pinned (OpenSpec.upto ruleBackSpec)

/-- 'tollerlaw11.RuleCap', WHERE WHAT IT READS IS OF BULK AT MOST 1048576: true; the input reads as it did. -/
def ruleCapUptoRow : OpenClaim := { program := "ytpkpmbigljkneaadoor", sum := "b3a87fc834ab4bbed8c1e8f64bcc2be5e279a736b252245658fea70326ed6774", func := "toller/tollerlaw11.RuleCap", spec := "ruleCap", unfollowed := true, recurses := true, named := ["toller/rule.names"], apart := false, laid := [("toller/rule.names", laid_toller_rule_names)], narrowed := true }
def RuleCapUptoSaid : Prop := ruleCapUptoRow.holds Tryd.pinned (OpenSpec.upto ruleCapSpec)

/-- 'tollerlaw11.RuleNames', WHERE WHAT IT READS IS OF BULK AT MOST 1048576: true; the input reads as it did. -/
def ruleNamesUptoRow : OpenClaim := { program := "ytpkpmbigljkneaadoor", sum := "b3a87fc834ab4bbed8c1e8f64bcc2be5e279a736b252245658fea70326ed6774", func := "toller/tollerlaw11.RuleNames", spec := "ruleNames", unfollowed := true, recurses := true, named := ["toller/rule.names"], apart := false, laid := [("toller/rule.names", laid_toller_rule_names)], narrowed := true }
def RuleNamesUptoSaid : Prop := ruleNamesUptoRow.holds Tryd.pinned (OpenSpec.upto ruleNamesSpec)

/-- 'tollerlaw11.RuleWords', WHERE WHAT IT READS IS OF BULK AT MOST 1048576: true; the input reads as it did. -/
def ruleWordsUptoRow : OpenClaim := { program := "ytpkpmbigljkneaadoor", sum := "b3a87fc834ab4bbed8c1e8f64bcc2be5e279a736b252245658fea70326ed6774", func := "toller/tollerlaw11.RuleWords", spec := "ruleWords", unfollowed := true, recurses := true, named := ["toller/rule.names"], apart := false, laid := [("toller/rule.names", laid_toller_rule_names)], narrowed := true }
def RuleWordsUptoSaid : Prop := ruleWordsUptoRow.holds Tryd.pinned (OpenSpec.upto ruleWordsSpec)

/-- 'tollerlaw11.RuleEdge', WHERE WHAT IT READS IS OF BULK AT MOST 1048576: true; the input reads as it did. -/
def ruleEdgeUptoRow : OpenClaim := { program := "ytpkpmbigljkneaadoor", sum := "b3a87fc834ab4bbed8c1e8f64bcc2be5e279a736b252245658fea70326ed6774", func := "toller/tollerlaw11.RuleEdge", spec := "ruleEdge", unfollowed := true, recurses := true, named := ["toller/rule.names"], apart := false, laid := [("toller/rule.names", laid_toller_rule_names)], narrowed := true }
def RuleEdgeUptoSaid : Prop := ruleEdgeUptoRow.holds Tryd.pinned (OpenSpec.upto ruleEdgeSpec)

end Rows
end Go.Proofs.YtpkpmbigljkneaaDoor
