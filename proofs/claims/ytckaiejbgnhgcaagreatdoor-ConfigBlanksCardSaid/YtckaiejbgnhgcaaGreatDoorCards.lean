/-
  DERIVED. GIVEN WITH THE SEED: THE CARDS: each row of YtckaiejbgnhgcaaGreatDoorRows.lean that lists a variable, with what it lists TIED to the program's text (the seventh form; the later family's looks); each row that meets fmt, with fmt's text TOLD by the authors' own Lean function (tested against real Go, not proved from fmt's source: count such statements apart). THE CARD IS WHAT COUNTS. Prove the row's statement (the work); the ties are given (YtckaiejbgnhgcaaGreatDoorTie.lean); close each card by the builder's one call (the guide's Derived/Test/ToyasCard.lean, 'card_holds'). Laid BY PROGRAM, IN A SANDBOX (cutbox-door.mjs). By AI agents, Wed Nov 11 2026. No macro, syntax, notation, axiom, sorry.
-/
import Derived.Test.YtckaiejbgnhgcaaGreatDoorRows
import GoSem.ClaimSeven
namespace Go.Proofs.YtckaiejbgnhgcaaGreatDoor
namespace Rows

/-- THE TIED CARD OF 'tollerlaw12.ConfigParses'. -/
def configParsesCard : Claim7 := { stood := { row := configParsesRow, standIns := [], harness := (true, "2b242d187ce0b4694e566a77db33fc66e52affb2f010da2415a255db568f6d20"), looks := true }, kinds := [], alts := [], laidByText := true, laidKinds := [.data], laidTests := true, laidLooks := .later }
def ConfigParsesCardSaid : Prop := Claim7.holds Tryz.pinned (.plain (OpenSpec.ofChange configParsesSpec)) configParsesCard

/-- THE TIED CARD OF 'tollerlaw12.ConfigPrints'. -/
def configPrintsCard : Claim7 := { stood := { row := configPrintsRow, standIns := [], harness := (true, "2b242d187ce0b4694e566a77db33fc66e52affb2f010da2415a255db568f6d20"), looks := true }, kinds := [], alts := [], laidByText := true, laidKinds := [.data], laidTests := true, laidLooks := .later }
def ConfigPrintsCardSaid : Prop := Claim7.holds Tryz.pinned (.plain (OpenSpec.ofChange configPrintsSpec)) configPrintsCard

/-- THE TIED CARD OF 'tollerlaw12.ConfigBack'. -/
def configBackCard : Claim7 := { stood := { row := configBackRow, standIns := [], harness := (true, "2b242d187ce0b4694e566a77db33fc66e52affb2f010da2415a255db568f6d20"), looks := true }, kinds := [], alts := [], laidByText := true, laidKinds := [.data], laidTests := true, laidLooks := .later }
def ConfigBackCardSaid : Prop := Claim7.holds Tryz.pinned (.plain (OpenSpec.ofChange configBackSpec)) configBackCard

/-- THE TIED CARD OF 'tollerlaw12.ConfigBlanks'. -/
def configBlanksCard : Claim7 := { stood := { row := configBlanksRow, standIns := [], harness := (true, "2b242d187ce0b4694e566a77db33fc66e52affb2f010da2415a255db568f6d20"), looks := true }, kinds := [], alts := [], laidByText := true, laidKinds := [.data], laidTests := true, laidLooks := .later }
def ConfigBlanksCardSaid : Prop := Claim7.holds Tryz.pinned (.plain (OpenSpec.ofChange configBlanksSpec)) configBlanksCard

/-- THE TIED CARD OF 'tollerlaw12.ConfigMost'. -/
def configMostCard : Claim7 := { stood := { row := configMostRow, standIns := [], harness := (true, "2b242d187ce0b4694e566a77db33fc66e52affb2f010da2415a255db568f6d20"), looks := true }, kinds := [], alts := [], laidByText := true, laidKinds := [.data], laidTests := true, laidLooks := .later }
def ConfigMostCardSaid : Prop := Claim7.holds Tryz.pinned (.plain (OpenSpec.ofChange configMostSpec)) configMostCard

/-- THE TIED CARD OF 'tollerlaw12.ConfigTwice'. -/
def configTwiceCard : Claim7 := { stood := { row := configTwiceRow, standIns := [], harness := (true, "2b242d187ce0b4694e566a77db33fc66e52affb2f010da2415a255db568f6d20"), looks := true }, kinds := [], alts := [], laidByText := true, laidKinds := [.data], laidTests := true, laidLooks := .later }
def ConfigTwiceCardSaid : Prop := Claim7.holds Tryz.pinned (.plain (OpenSpec.ofChange configTwiceSpec)) configTwiceCard

/-- THE TIED CARD OF 'tollerlaw12.ConfigLacks'. -/
def configLacksCard : Claim7 := { stood := { row := configLacksRow, standIns := [], harness := (true, "2b242d187ce0b4694e566a77db33fc66e52affb2f010da2415a255db568f6d20"), looks := true }, kinds := [], alts := [], laidByText := true, laidKinds := [.data], laidTests := true, laidLooks := .later }
def ConfigLacksCardSaid : Prop := Claim7.holds Tryz.pinned (.plain (OpenSpec.ofChange configLacksSpec)) configLacksCard

/-- THE SECOND FORM's CARD OF 'tollerlaw12.ConfigParses'. -/
def configParsesUptoCard : Claim7 := { stood := { row := configParsesUptoRow, standIns := [], harness := (true, "2b242d187ce0b4694e566a77db33fc66e52affb2f010da2415a255db568f6d20"), looks := true }, kinds := [], alts := [], laidByText := true, laidKinds := [.data], laidTests := true, laidLooks := .later }
def ConfigParsesUptoCardSaid : Prop := Claim7.holds Tryz.pinned (.plain (OpenSpec.upto configParsesSpec)) configParsesUptoCard

/-- THE SECOND FORM's CARD OF 'tollerlaw12.ConfigPrints'. -/
def configPrintsUptoCard : Claim7 := { stood := { row := configPrintsUptoRow, standIns := [], harness := (true, "2b242d187ce0b4694e566a77db33fc66e52affb2f010da2415a255db568f6d20"), looks := true }, kinds := [], alts := [], laidByText := true, laidKinds := [.data], laidTests := true, laidLooks := .later }
def ConfigPrintsUptoCardSaid : Prop := Claim7.holds Tryz.pinned (.plain (OpenSpec.upto configPrintsSpec)) configPrintsUptoCard

/-- THE SECOND FORM's CARD OF 'tollerlaw12.ConfigBack'. -/
def configBackUptoCard : Claim7 := { stood := { row := configBackUptoRow, standIns := [], harness := (true, "2b242d187ce0b4694e566a77db33fc66e52affb2f010da2415a255db568f6d20"), looks := true }, kinds := [], alts := [], laidByText := true, laidKinds := [.data], laidTests := true, laidLooks := .later }
def ConfigBackUptoCardSaid : Prop := Claim7.holds Tryz.pinned (.plain (OpenSpec.upto configBackSpec)) configBackUptoCard

/-- THE SECOND FORM's CARD OF 'tollerlaw12.ConfigBlanks'. -/
def configBlanksUptoCard : Claim7 := { stood := { row := configBlanksUptoRow, standIns := [], harness := (true, "2b242d187ce0b4694e566a77db33fc66e52affb2f010da2415a255db568f6d20"), looks := true }, kinds := [], alts := [], laidByText := true, laidKinds := [.data], laidTests := true, laidLooks := .later }
def ConfigBlanksUptoCardSaid : Prop := Claim7.holds Tryz.pinned (.plain (OpenSpec.upto configBlanksSpec)) configBlanksUptoCard

/-- THE SECOND FORM's CARD OF 'tollerlaw12.ConfigMost'. -/
def configMostUptoCard : Claim7 := { stood := { row := configMostUptoRow, standIns := [], harness := (true, "2b242d187ce0b4694e566a77db33fc66e52affb2f010da2415a255db568f6d20"), looks := true }, kinds := [], alts := [], laidByText := true, laidKinds := [.data], laidTests := true, laidLooks := .later }
def ConfigMostUptoCardSaid : Prop := Claim7.holds Tryz.pinned (.plain (OpenSpec.upto configMostSpec)) configMostUptoCard

/-- THE SECOND FORM's CARD OF 'tollerlaw12.ConfigTwice'. -/
def configTwiceUptoCard : Claim7 := { stood := { row := configTwiceUptoRow, standIns := [], harness := (true, "2b242d187ce0b4694e566a77db33fc66e52affb2f010da2415a255db568f6d20"), looks := true }, kinds := [], alts := [], laidByText := true, laidKinds := [.data], laidTests := true, laidLooks := .later }
def ConfigTwiceUptoCardSaid : Prop := Claim7.holds Tryz.pinned (.plain (OpenSpec.upto configTwiceSpec)) configTwiceUptoCard

/-- THE SECOND FORM's CARD OF 'tollerlaw12.ConfigLacks'. -/
def configLacksUptoCard : Claim7 := { stood := { row := configLacksUptoRow, standIns := [], harness := (true, "2b242d187ce0b4694e566a77db33fc66e52affb2f010da2415a255db568f6d20"), looks := true }, kinds := [], alts := [], laidByText := true, laidKinds := [.data], laidTests := true, laidLooks := .later }
def ConfigLacksUptoCardSaid : Prop := Claim7.holds Tryz.pinned (.plain (OpenSpec.upto configLacksSpec)) configLacksUptoCard
end Rows
end Go.Proofs.YtckaiejbgnhgcaaGreatDoor
