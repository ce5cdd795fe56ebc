/-
  DERIVED. GIVEN WITH THE SEED: THE CARDS: each row of YtmbiompmhaiehaaDoorRows.lean that lists a variable, with what it lists TIED to the program's text (the seventh form; the later family's looks); each row that meets fmt, with fmt's text TOLD by the authors' own Lean function (tested against real Go, not proved from fmt's source: count such statements apart). THE CARD IS WHAT COUNTS. Prove the row's statement (the work); the ties are given (YtmbiompmhaiehaaDoorTie.lean); close each card by the builder's one call (the guide's Derived/Test/ToyasCard.lean, 'card_holds'). Laid BY PROGRAM, IN A SANDBOX (cutbox-door.mjs). By AI agents, Wed Nov 11 2026. No macro, syntax, notation, axiom, sorry.
-/
import Derived.Test.YtmbiompmhaiehaaDoorRows
import GoSem.ClaimSeven
namespace Go.Proofs.YtmbiompmhaiehaaDoor
namespace Rows

/-- THE TIED CARD OF 'stratumlaw11.ExprValues'. -/
def exprValuesCard : Claim7 := { stood := { row := exprValuesRow, standIns := [], harness := (true, "40245974d1e6355ec94a5e64c992bb8d0dde739217ed18b653f11e28df935760"), looks := true }, kinds := [], alts := [], laidByText := true, laidKinds := [.data, .called, .called, .called, .called, .called, .pinned], laidTests := true, laidLooks := .later }
def ExprValuesCardSaid : Prop := Claim7.holds Tryd.pinned (.plain (OpenSpec.ofChange exprValuesSpec)) exprValuesCard

/-- THE SECOND FORM's CARD OF 'stratumlaw11.ExprValues'. -/
def exprValuesUptoCard : Claim7 := { stood := { row := exprValuesUptoRow, standIns := [], harness := (true, "40245974d1e6355ec94a5e64c992bb8d0dde739217ed18b653f11e28df935760"), looks := true }, kinds := [], alts := [], laidByText := true, laidKinds := [.data, .called, .called, .called, .called, .called, .pinned], laidTests := true, laidLooks := .later }
def ExprValuesUptoCardSaid : Prop := Claim7.holds Tryd.pinned (.plain (OpenSpec.upto exprValuesSpec)) exprValuesUptoCard
end Rows
end Go.Proofs.YtmbiompmhaiehaaDoor
