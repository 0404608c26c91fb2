/-
  DERIVED. GIVEN WITH THE SEED: THE CARDS: each row of YtpkpmbigljkneaaDoorRows.lean that lists a variable, with what it lists TIED to the program's text (the seventh form; the later family's looks); each row that meets fmt, with fmt's text TOLD by the authors' own Lean function (tested against real Go, not proved from fmt's source: count such statements apart). THE CARD IS WHAT COUNTS. Prove the row's statement (the work); the ties are given (YtpkpmbigljkneaaDoorTie.lean); close each card by the builder's one call (the guide's Derived/Test/ToyasCard.lean, 'card_holds'). Laid BY PROGRAM, IN A SANDBOX (cutbox-door.mjs). By AI agents, Wed Nov 11 2026. No macro, syntax, notation, axiom, sorry.
-/
import Derived.Test.YtpkpmbigljkneaaDoorRows
import GoSem.ClaimSeven
namespace Go.Proofs.YtpkpmbigljkneaaDoor
namespace Rows

/-- THE TIED CARD OF 'tollerlaw11.RuleAsks'. -/
def ruleAsksCard : Claim7 := { stood := { row := ruleAsksRow, standIns := [], harness := (true, "9c807abef4a646a0a60ed9f16b1bfea71ad9db302f36e0e055ca5fd589ddd952"), looks := false }, kinds := [], alts := [], laidByText := true, laidKinds := [.data], laidTests := true, laidLooks := .later }
def RuleAsksCardSaid : Prop := Claim7.holds Tryd.pinned (.plain (OpenSpec.ofChange ruleAsksSpec)) ruleAsksCard

/-- THE TIED CARD OF 'tollerlaw11.RuleBack'. -/
def ruleBackCard : Claim7 := { stood := { row := ruleBackRow, standIns := [], harness := (true, "9c807abef4a646a0a60ed9f16b1bfea71ad9db302f36e0e055ca5fd589ddd952"), looks := false }, kinds := [], alts := [], laidByText := true, laidKinds := [.data], laidTests := true, laidLooks := .later }
def RuleBackCardSaid : Prop := Claim7.holds Tryd.pinned (.plain (OpenSpec.ofChange ruleBackSpec)) ruleBackCard

/-- THE TIED CARD OF 'tollerlaw11.RuleCap'. -/
def ruleCapCard : Claim7 := { stood := { row := ruleCapRow, standIns := [], harness := (true, "9c807abef4a646a0a60ed9f16b1bfea71ad9db302f36e0e055ca5fd589ddd952"), looks := false }, kinds := [], alts := [], laidByText := true, laidKinds := [.data], laidTests := true, laidLooks := .later }
def RuleCapCardSaid : Prop := Claim7.holds Tryd.pinned (.plain (OpenSpec.ofChange ruleCapSpec)) ruleCapCard

/-- THE TIED CARD OF 'tollerlaw11.RuleNames'. -/
def ruleNamesCard : Claim7 := { stood := { row := ruleNamesRow, standIns := [], harness := (true, "9c807abef4a646a0a60ed9f16b1bfea71ad9db302f36e0e055ca5fd589ddd952"), looks := false }, kinds := [], alts := [], laidByText := true, laidKinds := [.data], laidTests := true, laidLooks := .later }
def RuleNamesCardSaid : Prop := Claim7.holds Tryd.pinned (.plain (OpenSpec.ofChange ruleNamesSpec)) ruleNamesCard

/-- THE TIED CARD OF 'tollerlaw11.RuleWords'. -/
def ruleWordsCard : Claim7 := { stood := { row := ruleWordsRow, standIns := [], harness := (true, "9c807abef4a646a0a60ed9f16b1bfea71ad9db302f36e0e055ca5fd589ddd952"), looks := false }, kinds := [], alts := [], laidByText := true, laidKinds := [.data], laidTests := true, laidLooks := .later }
def RuleWordsCardSaid : Prop := Claim7.holds Tryd.pinned (.plain (OpenSpec.ofChange ruleWordsSpec)) ruleWordsCard

/-- THE TIED CARD OF 'tollerlaw11.RuleEdge'. -/
def ruleEdgeCard : Claim7 := { stood := { row := ruleEdgeRow, standIns := [], harness := (true, "9c807abef4a646a0a60ed9f16b1bfea71ad9db302f36e0e055ca5fd589ddd952"), looks := false }, kinds := [], alts := [], laidByText := true, laidKinds := [.data], laidTests := true, laidLooks := .later }
def RuleEdgeCardSaid : Prop := Claim7.holds Tryd.pinned (.plain (OpenSpec.ofChange ruleEdgeSpec)) ruleEdgeCard

/-- THE SECOND FORM's CARD OF 'tollerlaw11.RuleAsks'. -/
def ruleAsksUptoCard : Claim7 := { stood := { row := ruleAsksUptoRow, standIns := [], harness := (true, "9c807abef4a646a0a60ed9f16b1bfea71ad9db302f36e0e055ca5fd589ddd952"), looks := false }, kinds := [], alts := [], laidByText := true, laidKinds := [.data], laidTests := true, laidLooks := .later }
def RuleAsksUptoCardSaid : Prop := Claim7.holds Tryd.pinned (.plain (OpenSpec.upto ruleAsksSpec)) ruleAsksUptoCard

/-- THE SECOND FORM's CARD OF 'tollerlaw11.RuleBack'. -/
def ruleBackUptoCard : Claim7 := { stood := { row := ruleBackUptoRow, standIns := [], harness := (true, "9c807abef4a646a0a60ed9f16b1bfea71ad9db302f36e0e055ca5fd589ddd952"), looks := false }, kinds := [], alts := [], laidByText := true, laidKinds := [.data], laidTests := true, laidLooks := .later }
def RuleBackUptoCardSaid : Prop := Claim7.holds Tryd.pinned (.plain (OpenSpec.upto ruleBackSpec)) ruleBackUptoCard

/-- THE SECOND FORM's CARD OF 'tollerlaw11.RuleCap'. -/
def ruleCapUptoCard : Claim7 := { stood := { row := ruleCapUptoRow, standIns := [], harness := (true, "9c807abef4a646a0a60ed9f16b1bfea71ad9db302f36e0e055ca5fd589ddd952"), looks := false }, kinds := [], alts := [], laidByText := true, laidKinds := [.data], laidTests := true, laidLooks := .later }
def RuleCapUptoCardSaid : Prop := Claim7.holds Tryd.pinned (.plain (OpenSpec.upto ruleCapSpec)) ruleCapUptoCard

/-- THE SECOND FORM's CARD OF 'tollerlaw11.RuleNames'. -/
def ruleNamesUptoCard : Claim7 := { stood := { row := ruleNamesUptoRow, standIns := [], harness := (true, "9c807abef4a646a0a60ed9f16b1bfea71ad9db302f36e0e055ca5fd589ddd952"), looks := false }, kinds := [], alts := [], laidByText := true, laidKinds := [.data], laidTests := true, laidLooks := .later }
def RuleNamesUptoCardSaid : Prop := Claim7.holds Tryd.pinned (.plain (OpenSpec.upto ruleNamesSpec)) ruleNamesUptoCard

/-- THE SECOND FORM's CARD OF 'tollerlaw11.RuleWords'. -/
def ruleWordsUptoCard : Claim7 := { stood := { row := ruleWordsUptoRow, standIns := [], harness := (true, "9c807abef4a646a0a60ed9f16b1bfea71ad9db302f36e0e055ca5fd589ddd952"), looks := false }, kinds := [], alts := [], laidByText := true, laidKinds := [.data], laidTests := true, laidLooks := .later }
def RuleWordsUptoCardSaid : Prop := Claim7.holds Tryd.pinned (.plain (OpenSpec.upto ruleWordsSpec)) ruleWordsUptoCard

/-- THE SECOND FORM's CARD OF 'tollerlaw11.RuleEdge'. -/
def ruleEdgeUptoCard : Claim7 := { stood := { row := ruleEdgeUptoRow, standIns := [], harness := (true, "9c807abef4a646a0a60ed9f16b1bfea71ad9db302f36e0e055ca5fd589ddd952"), looks := false }, kinds := [], alts := [], laidByText := true, laidKinds := [.data], laidTests := true, laidLooks := .later }
def RuleEdgeUptoCardSaid : Prop := Claim7.holds Tryd.pinned (.plain (OpenSpec.upto ruleEdgeSpec)) ruleEdgeUptoCard
end Rows
end Go.Proofs.YtpkpmbigljkneaaDoor
