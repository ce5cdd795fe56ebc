/-
  DERIVED. GIVEN WITH THE SEED: THE CARDS: each row of YtcodamhoanfanaaDoorRows.lean that lists a variable, with what it lists TIED to the program's text (the seventh form; the later family's looks); each row that meets fmt, with fmt's text TOLD by the authors' own Lean function (tested against real Go, not proved from fmt's source: count such statements apart). THE CARD IS WHAT COUNTS. Prove the row's statement (the work); the ties are given (YtcodamhoanfanaaDoorTie.lean); close each card by the builder's one call (the guide's Derived/Test/ToyasCard.lean, 'card_holds'). Laid BY PROGRAM, IN A SANDBOX (cutbox-door.mjs). By AI agents, Wed Nov 11 2026. No macro, syntax, notation, axiom, sorry.
-/
import Derived.Test.YtcodamhoanfanaaDoorRows
import GoSem.ClaimSeven
namespace Go.Proofs.YtcodamhoanfanaaDoor
namespace Rows

/-- THE TIED CARD OF 'stratumlaw04.KindNames'. -/
def kindNamesCard : Claim7 := { stood := { row := kindNamesRow, standIns := [], harness := (true, "9de646a540dd960e34ac114a78e364c9dfa5a255aa1a1801cd9325d3338485a6"), looks := false }, kinds := [], alts := [], laidByText := true, laidKinds := [.data, .called, .called, .called, .called, .called, .called, .pinned], laidTests := true, laidLooks := .later }
def KindNamesCardSaid : Prop := Claim7.holds Tryd.pinned (.plain (OpenSpec.ofChange kindNamesSpec)) kindNamesCard

/-- THE TIED CARD OF 'stratumlaw04.KindExact'. -/
def kindExactCard : Claim7 := { stood := { row := kindExactRow, standIns := [], harness := (true, "9de646a540dd960e34ac114a78e364c9dfa5a255aa1a1801cd9325d3338485a6"), looks := false }, kinds := [], alts := [], laidByText := true, laidKinds := [.data, .called, .called, .called, .called, .called, .called, .pinned], laidTests := true, laidLooks := .later }
def KindExactCardSaid : Prop := Claim7.holds Tryd.pinned (.plain (OpenSpec.ofChange kindExactSpec)) kindExactCard

/-- THE TIED CARD OF 'stratumlaw04.KindStart'. -/
def kindStartCard : Claim7 := { stood := { row := kindStartRow, standIns := [], harness := (true, "9de646a540dd960e34ac114a78e364c9dfa5a255aa1a1801cd9325d3338485a6"), looks := false }, kinds := [], alts := [], laidByText := true, laidKinds := [.data, .called, .called, .called, .called, .called, .called, .called, .pinned], laidTests := true, laidLooks := .later }
def KindStartCardSaid : Prop := Claim7.holds Tryd.pinned (.plain (OpenSpec.ofChange kindStartSpec)) kindStartCard

/-- THE TIED CARD OF 'stratumlaw04.KindValid'. -/
def kindValidCard : Claim7 := { stood := { row := kindValidRow, standIns := [], harness := (true, "9de646a540dd960e34ac114a78e364c9dfa5a255aa1a1801cd9325d3338485a6"), looks := false }, kinds := [], alts := [], laidByText := true, laidKinds := [.data, .called, .called, .called, .called, .called, .called, .pinned], laidTests := true, laidLooks := .later }
def KindValidCardSaid : Prop := Claim7.holds Tryd.pinned (.plain (OpenSpec.ofChange kindValidSpec)) kindValidCard

/-- THE TIED CARD OF 'stratumlaw04.KindOrder'. -/
def kindOrderCard : Claim7 := { stood := { row := kindOrderRow, standIns := [], harness := (true, "9de646a540dd960e34ac114a78e364c9dfa5a255aa1a1801cd9325d3338485a6"), looks := false }, kinds := [], alts := [], laidByText := true, laidKinds := [.data, .called, .called, .called, .called, .called, .called, .pinned], laidTests := true, laidLooks := .later }
def KindOrderCardSaid : Prop := Claim7.holds Tryd.pinned (.plain (OpenSpec.ofChange kindOrderSpec)) kindOrderCard

/-- THE TIED CARD OF 'stratumlaw04.KindNumbers'. -/
def kindNumbersCard : Claim7 := { stood := { row := kindNumbersRow, standIns := [], harness := (true, "9de646a540dd960e34ac114a78e364c9dfa5a255aa1a1801cd9325d3338485a6"), looks := false }, kinds := [], alts := [], laidByText := true, laidKinds := [.data, .called, .called, .called, .called, .called, .called, .pinned], laidTests := true, laidLooks := .later }
def KindNumbersCardSaid : Prop := Claim7.holds Tryd.pinned (.plain (OpenSpec.ofChange kindNumbersSpec)) kindNumbersCard

/-- THE SECOND FORM's CARD OF 'stratumlaw04.KindNames'. -/
def kindNamesUptoCard : Claim7 := { stood := { row := kindNamesUptoRow, standIns := [], harness := (true, "9de646a540dd960e34ac114a78e364c9dfa5a255aa1a1801cd9325d3338485a6"), looks := false }, kinds := [], alts := [], laidByText := true, laidKinds := [.data, .called, .called, .called, .called, .called, .called, .pinned], laidTests := true, laidLooks := .later }
def KindNamesUptoCardSaid : Prop := Claim7.holds Tryd.pinned (.plain (OpenSpec.upto kindNamesSpec)) kindNamesUptoCard

/-- THE SECOND FORM's CARD OF 'stratumlaw04.KindExact'. -/
def kindExactUptoCard : Claim7 := { stood := { row := kindExactUptoRow, standIns := [], harness := (true, "9de646a540dd960e34ac114a78e364c9dfa5a255aa1a1801cd9325d3338485a6"), looks := false }, kinds := [], alts := [], laidByText := true, laidKinds := [.data, .called, .called, .called, .called, .called, .called, .pinned], laidTests := true, laidLooks := .later }
def KindExactUptoCardSaid : Prop := Claim7.holds Tryd.pinned (.plain (OpenSpec.upto kindExactSpec)) kindExactUptoCard

/-- THE SECOND FORM's CARD OF 'stratumlaw04.KindStart'. -/
def kindStartUptoCard : Claim7 := { stood := { row := kindStartUptoRow, standIns := [], harness := (true, "9de646a540dd960e34ac114a78e364c9dfa5a255aa1a1801cd9325d3338485a6"), looks := false }, kinds := [], alts := [], laidByText := true, laidKinds := [.data, .called, .called, .called, .called, .called, .called, .called, .pinned], laidTests := true, laidLooks := .later }
def KindStartUptoCardSaid : Prop := Claim7.holds Tryd.pinned (.plain (OpenSpec.upto kindStartSpec)) kindStartUptoCard

/-- THE SECOND FORM's CARD OF 'stratumlaw04.KindValid'. -/
def kindValidUptoCard : Claim7 := { stood := { row := kindValidUptoRow, standIns := [], harness := (true, "9de646a540dd960e34ac114a78e364c9dfa5a255aa1a1801cd9325d3338485a6"), looks := false }, kinds := [], alts := [], laidByText := true, laidKinds := [.data, .called, .called, .called, .called, .called, .called, .pinned], laidTests := true, laidLooks := .later }
def KindValidUptoCardSaid : Prop := Claim7.holds Tryd.pinned (.plain (OpenSpec.upto kindValidSpec)) kindValidUptoCard

/-- THE SECOND FORM's CARD OF 'stratumlaw04.KindOrder'. -/
def kindOrderUptoCard : Claim7 := { stood := { row := kindOrderUptoRow, standIns := [], harness := (true, "9de646a540dd960e34ac114a78e364c9dfa5a255aa1a1801cd9325d3338485a6"), looks := false }, kinds := [], alts := [], laidByText := true, laidKinds := [.data, .called, .called, .called, .called, .called, .called, .pinned], laidTests := true, laidLooks := .later }
def KindOrderUptoCardSaid : Prop := Claim7.holds Tryd.pinned (.plain (OpenSpec.upto kindOrderSpec)) kindOrderUptoCard

/-- THE SECOND FORM's CARD OF 'stratumlaw04.KindNumbers'. -/
def kindNumbersUptoCard : Claim7 := { stood := { row := kindNumbersUptoRow, standIns := [], harness := (true, "9de646a540dd960e34ac114a78e364c9dfa5a255aa1a1801cd9325d3338485a6"), looks := false }, kinds := [], alts := [], laidByText := true, laidKinds := [.data, .called, .called, .called, .called, .called, .called, .pinned], laidTests := true, laidLooks := .later }
def KindNumbersUptoCardSaid : Prop := Claim7.holds Tryd.pinned (.plain (OpenSpec.upto kindNumbersSpec)) kindNumbersUptoCard
end Rows
end Go.Proofs.YtcodamhoanfanaaDoor
