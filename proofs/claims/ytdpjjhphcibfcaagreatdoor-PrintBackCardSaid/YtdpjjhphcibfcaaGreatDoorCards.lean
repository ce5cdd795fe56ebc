/-
  DERIVED. GIVEN WITH THE SEED: THE CARDS: each row of YtdpjjhphcibfcaaGreatDoorRows.lean that lists a variable, with what it lists TIED to the program's text (the seventh form; the later family's looks); each row that meets fmt, with fmt's text TOLD by the authors' own Lean function (tested against real Go, not proved from fmt's source: count such statements apart). THE CARD IS WHAT COUNTS. Prove the row's statement (the work); the ties are given (YtdpjjhphcibfcaaGreatDoorTie.lean); close each card by the builder's one call (the guide's Derived/Test/ToyasCard.lean, 'card_holds'). Laid BY PROGRAM, IN A SANDBOX (cutbox-door.mjs). By AI agents, Wed Nov 11 2026. No macro, syntax, notation, axiom, sorry.
-/
import Derived.Test.YtdpjjhphcibfcaaGreatDoorRows
import GoSem.ClaimSeven
namespace Go.Proofs.YtdpjjhphcibfcaaGreatDoor
namespace Rows

/-- THE TIED CARD OF 'stratumlaw09.ParseSchemas'. -/
def parseSchemasCard : Claim7 := { stood := { row := parseSchemasRow, standIns := [], harness := (true, "8acc90310315bc7b7fe65695776b0cec107aaac5310cbbde70777d8c0edeb74e"), looks := true }, kinds := [], alts := [], laidByText := true, laidKinds := [.data, .data, .data, .sentinel, .sentinel], laidTests := true, laidLooks := .later }
def ParseSchemasCardSaid : Prop := Claim7.holds Tryz.pinned (.plain (OpenSpec.ofChange parseSchemasSpec)) parseSchemasCard

/-- THE TIED CARD OF 'stratumlaw09.ParseValues'. -/
def parseValuesCard : Claim7 := { stood := { row := parseValuesRow, standIns := [], harness := (true, "8acc90310315bc7b7fe65695776b0cec107aaac5310cbbde70777d8c0edeb74e"), looks := true }, kinds := [], alts := [], laidByText := true, laidKinds := [.data, .data, .data, .sentinel, .sentinel], laidTests := true, laidLooks := .later }
def ParseValuesCardSaid : Prop := Claim7.holds Tryz.pinned (.plain (OpenSpec.ofChange parseValuesSpec)) parseValuesCard

/-- THE TIED CARD OF 'stratumlaw10.PrintBack'. -/
def printBackCard : Claim7 := { stood := { row := printBackRow, standIns := [], harness := (true, "8acc90310315bc7b7fe65695776b0cec107aaac5310cbbde70777d8c0edeb74e"), looks := true }, kinds := [], alts := [], laidByText := true, laidKinds := [.data, .data, .data, .sentinel, .sentinel], laidTests := true, laidLooks := .later }
def PrintBackCardSaid : Prop := Claim7.holds Tryz.pinned (.plain (OpenSpec.ofChange printBackSpec)) printBackCard

/-- THE TIED CARD OF 'stratumlaw10.PrintRead'. -/
def printReadCard : Claim7 := { stood := { row := printReadRow, standIns := [], harness := (true, "8acc90310315bc7b7fe65695776b0cec107aaac5310cbbde70777d8c0edeb74e"), looks := true }, kinds := [], alts := [], laidByText := true, laidKinds := [.data, .data, .data, .sentinel, .sentinel], laidTests := true, laidLooks := .later }
def PrintReadCardSaid : Prop := Claim7.holds Tryz.pinned (.plain (OpenSpec.ofChange printReadSpec)) printReadCard

/-- THE SECOND FORM's CARD OF 'stratumlaw09.ParseSchemas'. -/
def parseSchemasUptoCard : Claim7 := { stood := { row := parseSchemasUptoRow, standIns := [], harness := (true, "8acc90310315bc7b7fe65695776b0cec107aaac5310cbbde70777d8c0edeb74e"), looks := true }, kinds := [], alts := [], laidByText := true, laidKinds := [.data, .data, .data, .sentinel, .sentinel], laidTests := true, laidLooks := .later }
def ParseSchemasUptoCardSaid : Prop := Claim7.holds Tryz.pinned (.plain (OpenSpec.upto parseSchemasSpec)) parseSchemasUptoCard

/-- THE SECOND FORM's CARD OF 'stratumlaw09.ParseValues'. -/
def parseValuesUptoCard : Claim7 := { stood := { row := parseValuesUptoRow, standIns := [], harness := (true, "8acc90310315bc7b7fe65695776b0cec107aaac5310cbbde70777d8c0edeb74e"), looks := true }, kinds := [], alts := [], laidByText := true, laidKinds := [.data, .data, .data, .sentinel, .sentinel], laidTests := true, laidLooks := .later }
def ParseValuesUptoCardSaid : Prop := Claim7.holds Tryz.pinned (.plain (OpenSpec.upto parseValuesSpec)) parseValuesUptoCard

/-- THE SECOND FORM's CARD OF 'stratumlaw10.PrintBack'. -/
def printBackUptoCard : Claim7 := { stood := { row := printBackUptoRow, standIns := [], harness := (true, "8acc90310315bc7b7fe65695776b0cec107aaac5310cbbde70777d8c0edeb74e"), looks := true }, kinds := [], alts := [], laidByText := true, laidKinds := [.data, .data, .data, .sentinel, .sentinel], laidTests := true, laidLooks := .later }
def PrintBackUptoCardSaid : Prop := Claim7.holds Tryz.pinned (.plain (OpenSpec.upto printBackSpec)) printBackUptoCard

/-- THE SECOND FORM's CARD OF 'stratumlaw10.PrintRead'. -/
def printReadUptoCard : Claim7 := { stood := { row := printReadUptoRow, standIns := [], harness := (true, "8acc90310315bc7b7fe65695776b0cec107aaac5310cbbde70777d8c0edeb74e"), looks := true }, kinds := [], alts := [], laidByText := true, laidKinds := [.data, .data, .data, .sentinel, .sentinel], laidTests := true, laidLooks := .later }
def PrintReadUptoCardSaid : Prop := Claim7.holds Tryz.pinned (.plain (OpenSpec.upto printReadSpec)) printReadUptoCard
end Rows
end Go.Proofs.YtdpjjhphcibfcaaGreatDoor
