/-
  DERIVED. GIVEN WITH THE SEED: THE CARDS: each row of YtpgljmkemmikhaaDoorRows.lean that lists a variable, with what it lists TIED to the program's text (the seventh form; the later family's looks); each row that meets fmt, with fmt's text TOLD by the authors' own Lean function (tested against real Go, not proved from fmt's source: count such statements apart). THE CARD IS WHAT COUNTS. Prove the row's statement (the work); the ties are given (YtpgljmkemmikhaaDoorTie.lean); close each card by the builder's one call (the guide's Derived/Test/ToyasCard.lean, 'card_holds'). Laid BY PROGRAM, IN A SANDBOX (cutbox-door.mjs). By AI agents, Wed Nov 11 2026. No macro, syntax, notation, axiom, sorry.
-/
import Derived.Test.YtpgljmkemmikhaaDoorRows
import GoSem.ClaimSeven
namespace Go.Proofs.YtpgljmkemmikhaaDoor
namespace Rows

/-- THE TIED CARD OF 'stratumlaw11.ExprChecks'. -/
def exprChecksCard : Claim7 := { stood := { row := exprChecksRow, standIns := [], harness := (true, "f03c752469d4b5faccb72c6a7534e2bd4e12bcc58a458bdda8644db1dcc981ba"), looks := true }, kinds := [], alts := [], laidByText := true, laidKinds := [.data, .called, .called, .called, .called, .called, .pinned], laidTests := true, laidLooks := .later }
def ExprChecksCardSaid : Prop := Claim7.holds Tryd.pinned (.plain (OpenSpec.ofChange exprChecksSpec)) exprChecksCard

/-- THE TIED CARD OF 'stratumlaw11.ExprValues'. -/
def exprValuesCard : Claim7 := { stood := { row := exprValuesRow, standIns := [], harness := (true, "f03c752469d4b5faccb72c6a7534e2bd4e12bcc58a458bdda8644db1dcc981ba"), looks := true }, kinds := [], alts := [], laidByText := true, laidKinds := [.data, .called, .called, .called, .called, .called, .pinned], laidTests := true, laidLooks := .later }
def ExprValuesCardSaid : Prop := Claim7.holds Tryd.pinned (.plain (OpenSpec.ofChange exprValuesSpec)) exprValuesCard

/-- THE TIED CARD OF 'stratumlaw11.ExprLaws'. -/
def exprLawsCard : Claim7 := { stood := { row := exprLawsRow, standIns := [], harness := (true, "f03c752469d4b5faccb72c6a7534e2bd4e12bcc58a458bdda8644db1dcc981ba"), looks := true }, kinds := [], alts := [], laidByText := true, laidKinds := [.data, .called, .called, .called, .called, .called, .pinned], laidTests := true, laidLooks := .later }
def ExprLawsCardSaid : Prop := Claim7.holds Tryd.pinned (.plain (OpenSpec.ofChange exprLawsSpec)) exprLawsCard

/-- THE TIED CARD OF 'stratumlaw11.ExprTexts'. -/
def exprTextsCard : Claim7 := { stood := { row := exprTextsRow, standIns := [], harness := (true, "f03c752469d4b5faccb72c6a7534e2bd4e12bcc58a458bdda8644db1dcc981ba"), looks := true }, kinds := [], alts := [], laidByText := true, laidKinds := [.data, .called, .called, .called, .called, .called, .pinned], laidTests := true, laidLooks := .later }
def ExprTextsCardSaid : Prop := Claim7.holds Tryd.pinned (.plain (OpenSpec.ofChange exprTextsSpec)) exprTextsCard

/-- THE TIED CARD OF 'stratumlaw11.ExprNumbers'. -/
def exprNumbersCard : Claim7 := { stood := { row := exprNumbersRow, standIns := [], harness := (true, "f03c752469d4b5faccb72c6a7534e2bd4e12bcc58a458bdda8644db1dcc981ba"), looks := true }, kinds := [], alts := [], laidByText := true, laidKinds := [.data, .called, .called, .called, .called, .called, .pinned], laidTests := true, laidLooks := .later }
def ExprNumbersCardSaid : Prop := Claim7.holds Tryd.pinned (.plain (OpenSpec.ofChange exprNumbersSpec)) exprNumbersCard

/-- THE TIED CARD OF 'stratumlaw11.ExprPlaces'. -/
def exprPlacesCard : Claim7 := { stood := { row := exprPlacesRow, standIns := [], harness := (true, "f03c752469d4b5faccb72c6a7534e2bd4e12bcc58a458bdda8644db1dcc981ba"), looks := true }, kinds := [], alts := [], laidByText := true, laidKinds := [.data, .called, .called, .called, .called, .called, .pinned], laidTests := true, laidLooks := .later }
def ExprPlacesCardSaid : Prop := Claim7.holds Tryd.pinned (.plain (OpenSpec.ofChange exprPlacesSpec)) exprPlacesCard

/-- THE SECOND FORM's CARD OF 'stratumlaw11.ExprChecks'. -/
def exprChecksUptoCard : Claim7 := { stood := { row := exprChecksUptoRow, standIns := [], harness := (true, "f03c752469d4b5faccb72c6a7534e2bd4e12bcc58a458bdda8644db1dcc981ba"), looks := true }, kinds := [], alts := [], laidByText := true, laidKinds := [.data, .called, .called, .called, .called, .called, .pinned], laidTests := true, laidLooks := .later }
def ExprChecksUptoCardSaid : Prop := Claim7.holds Tryd.pinned (.plain (OpenSpec.upto exprChecksSpec)) exprChecksUptoCard

/-- THE SECOND FORM's CARD OF 'stratumlaw11.ExprValues'. -/
def exprValuesUptoCard : Claim7 := { stood := { row := exprValuesUptoRow, standIns := [], harness := (true, "f03c752469d4b5faccb72c6a7534e2bd4e12bcc58a458bdda8644db1dcc981ba"), looks := true }, kinds := [], alts := [], laidByText := true, laidKinds := [.data, .called, .called, .called, .called, .called, .pinned], laidTests := true, laidLooks := .later }
def ExprValuesUptoCardSaid : Prop := Claim7.holds Tryd.pinned (.plain (OpenSpec.upto exprValuesSpec)) exprValuesUptoCard

/-- THE SECOND FORM's CARD OF 'stratumlaw11.ExprLaws'. -/
def exprLawsUptoCard : Claim7 := { stood := { row := exprLawsUptoRow, standIns := [], harness := (true, "f03c752469d4b5faccb72c6a7534e2bd4e12bcc58a458bdda8644db1dcc981ba"), looks := true }, kinds := [], alts := [], laidByText := true, laidKinds := [.data, .called, .called, .called, .called, .called, .pinned], laidTests := true, laidLooks := .later }
def ExprLawsUptoCardSaid : Prop := Claim7.holds Tryd.pinned (.plain (OpenSpec.upto exprLawsSpec)) exprLawsUptoCard

/-- THE SECOND FORM's CARD OF 'stratumlaw11.ExprTexts'. -/
def exprTextsUptoCard : Claim7 := { stood := { row := exprTextsUptoRow, standIns := [], harness := (true, "f03c752469d4b5faccb72c6a7534e2bd4e12bcc58a458bdda8644db1dcc981ba"), looks := true }, kinds := [], alts := [], laidByText := true, laidKinds := [.data, .called, .called, .called, .called, .called, .pinned], laidTests := true, laidLooks := .later }
def ExprTextsUptoCardSaid : Prop := Claim7.holds Tryd.pinned (.plain (OpenSpec.upto exprTextsSpec)) exprTextsUptoCard

/-- THE SECOND FORM's CARD OF 'stratumlaw11.ExprNumbers'. -/
def exprNumbersUptoCard : Claim7 := { stood := { row := exprNumbersUptoRow, standIns := [], harness := (true, "f03c752469d4b5faccb72c6a7534e2bd4e12bcc58a458bdda8644db1dcc981ba"), looks := true }, kinds := [], alts := [], laidByText := true, laidKinds := [.data, .called, .called, .called, .called, .called, .pinned], laidTests := true, laidLooks := .later }
def ExprNumbersUptoCardSaid : Prop := Claim7.holds Tryd.pinned (.plain (OpenSpec.upto exprNumbersSpec)) exprNumbersUptoCard

/-- THE SECOND FORM's CARD OF 'stratumlaw11.ExprPlaces'. -/
def exprPlacesUptoCard : Claim7 := { stood := { row := exprPlacesUptoRow, standIns := [], harness := (true, "f03c752469d4b5faccb72c6a7534e2bd4e12bcc58a458bdda8644db1dcc981ba"), looks := true }, kinds := [], alts := [], laidByText := true, laidKinds := [.data, .called, .called, .called, .called, .called, .pinned], laidTests := true, laidLooks := .later }
def ExprPlacesUptoCardSaid : Prop := Claim7.holds Tryd.pinned (.plain (OpenSpec.upto exprPlacesSpec)) exprPlacesUptoCard
end Rows
end Go.Proofs.YtpgljmkemmikhaaDoor
