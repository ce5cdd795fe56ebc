/-
  DERIVED. GIVEN WITH THE SEED: THE CARDS: each row of YtnflbnchkcigiaaDoorRows.lean that lists a variable, with what it lists TIED to the program's text (the seventh form; the later family's looks); each row that meets fmt, with fmt's text TOLD by the authors' own Lean function (tested against real Go, not proved from fmt's source: count such statements apart). THE CARD IS WHAT COUNTS. Prove the row's statement (the work); the ties are given (YtnflbnchkcigiaaDoorTie.lean); close each card by the builder's one call (the guide's Derived/Test/ToyasCard.lean, 'card_holds'). Laid BY PROGRAM, IN A SANDBOX (cutbox-door.mjs). By AI agents, Wed Nov 11 2026. No macro, syntax, notation, axiom, sorry.
-/
import Derived.Test.YtnflbnchkcigiaaDoorRows
import GoSem.ClaimSeven
namespace Go.Proofs.YtnflbnchkcigiaaDoor
namespace Rows

/-- THE TIED CARD OF 'stratumlaw13.TableLooks'. -/
def tableLooksCard : Claim7 := { stood := { row := tableLooksRow, standIns := [], harness := (true, "b9b2ab306ee45a41badd235aaed8bab7e3a279ea7b531188c82d996a0ced231a"), looks := false }, kinds := [], alts := [], laidByText := true, laidKinds := [.data, .called, .called, .called, .called, .called, .pinned], laidTests := true, laidLooks := .later }
def TableLooksCardSaid : Prop := Claim7.holds Tryd.pinned (.plain (OpenSpec.ofChange tableLooksSpec)) tableLooksCard

/-- THE TIED CARD OF 'stratumlaw13.TableTyped'. -/
def tableTypedCard : Claim7 := { stood := { row := tableTypedRow, standIns := [], harness := (true, "b9b2ab306ee45a41badd235aaed8bab7e3a279ea7b531188c82d996a0ced231a"), looks := false }, kinds := [], alts := [], laidByText := true, laidKinds := [.data, .called, .called, .called, .called, .called, .pinned], laidTests := true, laidLooks := .later }
def TableTypedCardSaid : Prop := Claim7.holds Tryd.pinned (.plain (OpenSpec.ofChange tableTypedSpec)) tableTypedCard

/-- THE TIED CARD OF 'stratumlaw13.TableExtends'. -/
def tableExtendsCard : Claim7 := { stood := { row := tableExtendsRow, standIns := [], harness := (true, "b9b2ab306ee45a41badd235aaed8bab7e3a279ea7b531188c82d996a0ced231a"), looks := false }, kinds := [], alts := [], laidByText := true, laidKinds := [.data, .called, .called, .called, .called, .called, .pinned], laidTests := true, laidLooks := .later }
def TableExtendsCardSaid : Prop := Claim7.holds Tryd.pinned (.plain (OpenSpec.ofChange tableExtendsSpec)) tableExtendsCard

/-- THE TIED CARD OF 'stratumlaw13.TableMemory'. -/
def tableMemoryCard : Claim7 := { stood := { row := tableMemoryRow, standIns := [], harness := (true, "b9b2ab306ee45a41badd235aaed8bab7e3a279ea7b531188c82d996a0ced231a"), looks := false }, kinds := [], alts := [], laidByText := true, laidKinds := [.data, .called, .called, .called, .called, .called, .pinned], laidTests := true, laidLooks := .later }
def TableMemoryCardSaid : Prop := Claim7.holds Tryd.pinned (.plain (OpenSpec.ofChange tableMemorySpec)) tableMemoryCard

/-- THE TIED CARD OF 'stratumlaw13.TableCounts'. -/
def tableCountsCard : Claim7 := { stood := { row := tableCountsRow, standIns := [], harness := (true, "b9b2ab306ee45a41badd235aaed8bab7e3a279ea7b531188c82d996a0ced231a"), looks := false }, kinds := [], alts := [], laidByText := true, laidKinds := [.data, .called, .called, .called, .called, .called, .pinned], laidTests := true, laidLooks := .later }
def TableCountsCardSaid : Prop := Claim7.holds Tryd.pinned (.plain (OpenSpec.ofChange tableCountsSpec)) tableCountsCard

/-- THE TIED CARD OF 'stratumlaw13.TableFits'. -/
def tableFitsCard : Claim7 := { stood := { row := tableFitsRow, standIns := [], harness := (true, "b9b2ab306ee45a41badd235aaed8bab7e3a279ea7b531188c82d996a0ced231a"), looks := false }, kinds := [], alts := [], laidByText := true, laidKinds := [.data, .called, .called, .called, .called, .called, .pinned], laidTests := true, laidLooks := .later }
def TableFitsCardSaid : Prop := Claim7.holds Tryd.pinned (.plain (OpenSpec.ofChange tableFitsSpec)) tableFitsCard

/-- THE TIED CARD OF 'stratumlaw13.TableGrows'. -/
def tableGrowsCard : Claim7 := { stood := { row := tableGrowsRow, standIns := [], harness := (true, "b9b2ab306ee45a41badd235aaed8bab7e3a279ea7b531188c82d996a0ced231a"), looks := false }, kinds := [], alts := [], laidByText := true, laidKinds := [.data, .called, .called, .called, .called, .called, .pinned], laidTests := true, laidLooks := .later }
def TableGrowsCardSaid : Prop := Claim7.holds Tryd.pinned (.plain (OpenSpec.ofChange tableGrowsSpec)) tableGrowsCard

/-- THE SECOND FORM's CARD OF 'stratumlaw13.TableLooks'. -/
def tableLooksUptoCard : Claim7 := { stood := { row := tableLooksUptoRow, standIns := [], harness := (true, "b9b2ab306ee45a41badd235aaed8bab7e3a279ea7b531188c82d996a0ced231a"), looks := false }, kinds := [], alts := [], laidByText := true, laidKinds := [.data, .called, .called, .called, .called, .called, .pinned], laidTests := true, laidLooks := .later }
def TableLooksUptoCardSaid : Prop := Claim7.holds Tryd.pinned (.plain (OpenSpec.upto tableLooksSpec)) tableLooksUptoCard

/-- THE SECOND FORM's CARD OF 'stratumlaw13.TableTyped'. -/
def tableTypedUptoCard : Claim7 := { stood := { row := tableTypedUptoRow, standIns := [], harness := (true, "b9b2ab306ee45a41badd235aaed8bab7e3a279ea7b531188c82d996a0ced231a"), looks := false }, kinds := [], alts := [], laidByText := true, laidKinds := [.data, .called, .called, .called, .called, .called, .pinned], laidTests := true, laidLooks := .later }
def TableTypedUptoCardSaid : Prop := Claim7.holds Tryd.pinned (.plain (OpenSpec.upto tableTypedSpec)) tableTypedUptoCard

/-- THE SECOND FORM's CARD OF 'stratumlaw13.TableExtends'. -/
def tableExtendsUptoCard : Claim7 := { stood := { row := tableExtendsUptoRow, standIns := [], harness := (true, "b9b2ab306ee45a41badd235aaed8bab7e3a279ea7b531188c82d996a0ced231a"), looks := false }, kinds := [], alts := [], laidByText := true, laidKinds := [.data, .called, .called, .called, .called, .called, .pinned], laidTests := true, laidLooks := .later }
def TableExtendsUptoCardSaid : Prop := Claim7.holds Tryd.pinned (.plain (OpenSpec.upto tableExtendsSpec)) tableExtendsUptoCard

/-- THE SECOND FORM's CARD OF 'stratumlaw13.TableMemory'. -/
def tableMemoryUptoCard : Claim7 := { stood := { row := tableMemoryUptoRow, standIns := [], harness := (true, "b9b2ab306ee45a41badd235aaed8bab7e3a279ea7b531188c82d996a0ced231a"), looks := false }, kinds := [], alts := [], laidByText := true, laidKinds := [.data, .called, .called, .called, .called, .called, .pinned], laidTests := true, laidLooks := .later }
def TableMemoryUptoCardSaid : Prop := Claim7.holds Tryd.pinned (.plain (OpenSpec.upto tableMemorySpec)) tableMemoryUptoCard

/-- THE SECOND FORM's CARD OF 'stratumlaw13.TableCounts'. -/
def tableCountsUptoCard : Claim7 := { stood := { row := tableCountsUptoRow, standIns := [], harness := (true, "b9b2ab306ee45a41badd235aaed8bab7e3a279ea7b531188c82d996a0ced231a"), looks := false }, kinds := [], alts := [], laidByText := true, laidKinds := [.data, .called, .called, .called, .called, .called, .pinned], laidTests := true, laidLooks := .later }
def TableCountsUptoCardSaid : Prop := Claim7.holds Tryd.pinned (.plain (OpenSpec.upto tableCountsSpec)) tableCountsUptoCard

/-- THE SECOND FORM's CARD OF 'stratumlaw13.TableFits'. -/
def tableFitsUptoCard : Claim7 := { stood := { row := tableFitsUptoRow, standIns := [], harness := (true, "b9b2ab306ee45a41badd235aaed8bab7e3a279ea7b531188c82d996a0ced231a"), looks := false }, kinds := [], alts := [], laidByText := true, laidKinds := [.data, .called, .called, .called, .called, .called, .pinned], laidTests := true, laidLooks := .later }
def TableFitsUptoCardSaid : Prop := Claim7.holds Tryd.pinned (.plain (OpenSpec.upto tableFitsSpec)) tableFitsUptoCard

/-- THE SECOND FORM's CARD OF 'stratumlaw13.TableGrows'. -/
def tableGrowsUptoCard : Claim7 := { stood := { row := tableGrowsUptoRow, standIns := [], harness := (true, "b9b2ab306ee45a41badd235aaed8bab7e3a279ea7b531188c82d996a0ced231a"), looks := false }, kinds := [], alts := [], laidByText := true, laidKinds := [.data, .called, .called, .called, .called, .called, .pinned], laidTests := true, laidLooks := .later }
def TableGrowsUptoCardSaid : Prop := Claim7.holds Tryd.pinned (.plain (OpenSpec.upto tableGrowsSpec)) tableGrowsUptoCard
end Rows
end Go.Proofs.YtnflbnchkcigiaaDoor
