/-
  DERIVED. GIVEN WITH THE SEED: THE CARDS: each row of YthekbefbhjllnaaDoorRows.lean that lists a variable, with what it lists TIED to the program's text (the seventh form; the later family's looks); each row that meets fmt, with fmt's text TOLD by the authors' own Lean function (tested against real Go, not proved from fmt's source: count such statements apart). THE CARD IS WHAT COUNTS. Prove the row's statement (the work); the ties are given (YthekbefbhjllnaaDoorTie.lean); close each card by the builder's one call (the guide's Derived/Test/ToyasCard.lean, 'card_holds'). Laid BY PROGRAM, IN A SANDBOX (cutbox-door.mjs). By AI agents, Wed Nov 11 2026. No macro, syntax, notation, axiom, sorry.
-/
import Derived.Test.YthekbefbhjllnaaDoorRows
import GoSem.ClaimSeven
namespace Go.Proofs.YthekbefbhjllnaaDoor
namespace Rows

/-- THE TIED CARD OF 'stratumlaw05.TlvMakes'. -/
def tlvMakesCard : Claim7 := { stood := { row := tlvMakesRow, standIns := [], harness := (true, "af5a59c8814ba9cda890dffb06b0b33d6b8d80c7df9a18127dcdaa8214a5009b"), looks := false }, kinds := [], alts := [], laidByText := true, laidKinds := [.data, .called, .called, .called, .called, .called, .pinned], laidTests := true, laidLooks := .later }
def TlvMakesCardSaid : Prop := Claim7.holds Tryd.pinned (.plain (OpenSpec.ofChange tlvMakesSpec)) tlvMakesCard

/-- THE TIED CARD OF 'stratumlaw05.TlvTakes'. -/
def tlvTakesCard : Claim7 := { stood := { row := tlvTakesRow, standIns := [], harness := (true, "af5a59c8814ba9cda890dffb06b0b33d6b8d80c7df9a18127dcdaa8214a5009b"), looks := false }, kinds := [], alts := [], laidByText := true, laidKinds := [.data, .called, .called, .called, .called, .called, .pinned], laidTests := true, laidLooks := .later }
def TlvTakesCardSaid : Prop := Claim7.holds Tryd.pinned (.plain (OpenSpec.ofChange tlvTakesSpec)) tlvTakesCard

/-- THE TIED CARD OF 'stratumlaw05.TlvBack'. -/
def tlvBackCard : Claim7 := { stood := { row := tlvBackRow, standIns := [], harness := (true, "af5a59c8814ba9cda890dffb06b0b33d6b8d80c7df9a18127dcdaa8214a5009b"), looks := false }, kinds := [], alts := [], laidByText := true, laidKinds := [.data, .called, .called, .called, .called, .called, .pinned], laidTests := true, laidLooks := .later }
def TlvBackCardSaid : Prop := Claim7.holds Tryd.pinned (.plain (OpenSpec.ofChange tlvBackSpec)) tlvBackCard

/-- THE TIED CARD OF 'stratumlaw05.TlvForth'. -/
def tlvForthCard : Claim7 := { stood := { row := tlvForthRow, standIns := [], harness := (true, "af5a59c8814ba9cda890dffb06b0b33d6b8d80c7df9a18127dcdaa8214a5009b"), looks := false }, kinds := [], alts := [], laidByText := true, laidKinds := [.data, .called, .called, .called, .called, .called, .pinned], laidTests := true, laidLooks := .later }
def TlvForthCardSaid : Prop := Claim7.holds Tryd.pinned (.plain (OpenSpec.ofChange tlvForthSpec)) tlvForthCard

/-- THE TIED CARD OF 'stratumlaw05.TlvPieces'. -/
def tlvPiecesCard : Claim7 := { stood := { row := tlvPiecesRow, standIns := [], harness := (true, "af5a59c8814ba9cda890dffb06b0b33d6b8d80c7df9a18127dcdaa8214a5009b"), looks := false }, kinds := [], alts := [], laidByText := true, laidKinds := [.data, .called, .called, .called, .called, .called, .pinned], laidTests := true, laidLooks := .later }
def TlvPiecesCardSaid : Prop := Claim7.holds Tryd.pinned (.plain (OpenSpec.ofChange tlvPiecesSpec)) tlvPiecesCard

/-- THE TIED CARD OF 'stratumlaw05.TlvField'. -/
def tlvFieldCard : Claim7 := { stood := { row := tlvFieldRow, standIns := [], harness := (true, "af5a59c8814ba9cda890dffb06b0b33d6b8d80c7df9a18127dcdaa8214a5009b"), looks := false }, kinds := [], alts := [], laidByText := true, laidKinds := [.data, .called, .called, .called, .called, .called, .pinned], laidTests := true, laidLooks := .later }
def TlvFieldCardSaid : Prop := Claim7.holds Tryd.pinned (.plain (OpenSpec.ofChange tlvFieldSpec)) tlvFieldCard

/-- THE TIED CARD OF 'stratumlaw05.TlvTurned'. -/
def tlvTurnedCard : Claim7 := { stood := { row := tlvTurnedRow, standIns := [], harness := (true, "af5a59c8814ba9cda890dffb06b0b33d6b8d80c7df9a18127dcdaa8214a5009b"), looks := false }, kinds := [], alts := [], laidByText := true, laidKinds := [.data, .called, .called, .called, .called, .called, .pinned], laidTests := true, laidLooks := .later }
def TlvTurnedCardSaid : Prop := Claim7.holds Tryd.pinned (.plain (OpenSpec.ofChange tlvTurnedSpec)) tlvTurnedCard

/-- THE TIED CARD OF 'stratumlaw05.TlvKeeps'. -/
def tlvKeepsCard : Claim7 := { stood := { row := tlvKeepsRow, standIns := [], harness := (true, "af5a59c8814ba9cda890dffb06b0b33d6b8d80c7df9a18127dcdaa8214a5009b"), looks := false }, kinds := [], alts := [], laidByText := true, laidKinds := [.data, .called, .called, .called, .called, .called, .pinned], laidTests := true, laidLooks := .later }
def TlvKeepsCardSaid : Prop := Claim7.holds Tryd.pinned (.plain (OpenSpec.ofChange tlvKeepsSpec)) tlvKeepsCard

/-- THE SECOND FORM's CARD OF 'stratumlaw05.TlvMakes'. -/
def tlvMakesUptoCard : Claim7 := { stood := { row := tlvMakesUptoRow, standIns := [], harness := (true, "af5a59c8814ba9cda890dffb06b0b33d6b8d80c7df9a18127dcdaa8214a5009b"), looks := false }, kinds := [], alts := [], laidByText := true, laidKinds := [.data, .called, .called, .called, .called, .called, .pinned], laidTests := true, laidLooks := .later }
def TlvMakesUptoCardSaid : Prop := Claim7.holds Tryd.pinned (.plain (OpenSpec.upto tlvMakesSpec)) tlvMakesUptoCard

/-- THE SECOND FORM's CARD OF 'stratumlaw05.TlvTakes'. -/
def tlvTakesUptoCard : Claim7 := { stood := { row := tlvTakesUptoRow, standIns := [], harness := (true, "af5a59c8814ba9cda890dffb06b0b33d6b8d80c7df9a18127dcdaa8214a5009b"), looks := false }, kinds := [], alts := [], laidByText := true, laidKinds := [.data, .called, .called, .called, .called, .called, .pinned], laidTests := true, laidLooks := .later }
def TlvTakesUptoCardSaid : Prop := Claim7.holds Tryd.pinned (.plain (OpenSpec.upto tlvTakesSpec)) tlvTakesUptoCard

/-- THE SECOND FORM's CARD OF 'stratumlaw05.TlvBack'. -/
def tlvBackUptoCard : Claim7 := { stood := { row := tlvBackUptoRow, standIns := [], harness := (true, "af5a59c8814ba9cda890dffb06b0b33d6b8d80c7df9a18127dcdaa8214a5009b"), looks := false }, kinds := [], alts := [], laidByText := true, laidKinds := [.data, .called, .called, .called, .called, .called, .pinned], laidTests := true, laidLooks := .later }
def TlvBackUptoCardSaid : Prop := Claim7.holds Tryd.pinned (.plain (OpenSpec.upto tlvBackSpec)) tlvBackUptoCard

/-- THE SECOND FORM's CARD OF 'stratumlaw05.TlvForth'. -/
def tlvForthUptoCard : Claim7 := { stood := { row := tlvForthUptoRow, standIns := [], harness := (true, "af5a59c8814ba9cda890dffb06b0b33d6b8d80c7df9a18127dcdaa8214a5009b"), looks := false }, kinds := [], alts := [], laidByText := true, laidKinds := [.data, .called, .called, .called, .called, .called, .pinned], laidTests := true, laidLooks := .later }
def TlvForthUptoCardSaid : Prop := Claim7.holds Tryd.pinned (.plain (OpenSpec.upto tlvForthSpec)) tlvForthUptoCard

/-- THE SECOND FORM's CARD OF 'stratumlaw05.TlvPieces'. -/
def tlvPiecesUptoCard : Claim7 := { stood := { row := tlvPiecesUptoRow, standIns := [], harness := (true, "af5a59c8814ba9cda890dffb06b0b33d6b8d80c7df9a18127dcdaa8214a5009b"), looks := false }, kinds := [], alts := [], laidByText := true, laidKinds := [.data, .called, .called, .called, .called, .called, .pinned], laidTests := true, laidLooks := .later }
def TlvPiecesUptoCardSaid : Prop := Claim7.holds Tryd.pinned (.plain (OpenSpec.upto tlvPiecesSpec)) tlvPiecesUptoCard

/-- THE SECOND FORM's CARD OF 'stratumlaw05.TlvField'. -/
def tlvFieldUptoCard : Claim7 := { stood := { row := tlvFieldUptoRow, standIns := [], harness := (true, "af5a59c8814ba9cda890dffb06b0b33d6b8d80c7df9a18127dcdaa8214a5009b"), looks := false }, kinds := [], alts := [], laidByText := true, laidKinds := [.data, .called, .called, .called, .called, .called, .pinned], laidTests := true, laidLooks := .later }
def TlvFieldUptoCardSaid : Prop := Claim7.holds Tryd.pinned (.plain (OpenSpec.upto tlvFieldSpec)) tlvFieldUptoCard

/-- THE SECOND FORM's CARD OF 'stratumlaw05.TlvTurned'. -/
def tlvTurnedUptoCard : Claim7 := { stood := { row := tlvTurnedUptoRow, standIns := [], harness := (true, "af5a59c8814ba9cda890dffb06b0b33d6b8d80c7df9a18127dcdaa8214a5009b"), looks := false }, kinds := [], alts := [], laidByText := true, laidKinds := [.data, .called, .called, .called, .called, .called, .pinned], laidTests := true, laidLooks := .later }
def TlvTurnedUptoCardSaid : Prop := Claim7.holds Tryd.pinned (.plain (OpenSpec.upto tlvTurnedSpec)) tlvTurnedUptoCard

/-- THE SECOND FORM's CARD OF 'stratumlaw05.TlvKeeps'. -/
def tlvKeepsUptoCard : Claim7 := { stood := { row := tlvKeepsUptoRow, standIns := [], harness := (true, "af5a59c8814ba9cda890dffb06b0b33d6b8d80c7df9a18127dcdaa8214a5009b"), looks := false }, kinds := [], alts := [], laidByText := true, laidKinds := [.data, .called, .called, .called, .called, .called, .pinned], laidTests := true, laidLooks := .later }
def TlvKeepsUptoCardSaid : Prop := Claim7.holds Tryd.pinned (.plain (OpenSpec.upto tlvKeepsSpec)) tlvKeepsUptoCard
end Rows
end Go.Proofs.YthekbefbhjllnaaDoor
