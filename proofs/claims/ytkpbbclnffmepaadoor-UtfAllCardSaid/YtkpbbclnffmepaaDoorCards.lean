/-
  DERIVED. GIVEN WITH THE SEED: THE CARDS: each row of YtkpbbclnffmepaaDoorRows.lean that lists a variable, with what it lists TIED to the program's text (the seventh form; the later family's looks); each row that meets fmt, with fmt's text TOLD by the authors' own Lean function (tested against real Go, not proved from fmt's source: count such statements apart). THE CARD IS WHAT COUNTS. Prove the row's statement (the work); the ties are given (YtkpbbclnffmepaaDoorTie.lean); close each card by the builder's one call (the guide's Derived/Test/ToyasCard.lean, 'card_holds'). Laid BY PROGRAM, IN A SANDBOX (cutbox-door.mjs). By AI agents, Wed Nov 11 2026. No macro, syntax, notation, axiom, sorry.
-/
import Derived.Test.YtkpbbclnffmepaaDoorRows
import GoSem.ClaimSeven
namespace Go.Proofs.YtkpbbclnffmepaaDoor
namespace Rows

/-- THE TIED CARD OF 'stratumlaw03.UtfAll'. -/
def utfAllCard : Claim7 := { stood := { row := utfAllRow, standIns := [], harness := (true, "8a36cc52e3d282f759f95fed403267df93ecfeb46b021d7da35ee8dabb2141b4"), looks := false }, kinds := [], alts := [], laidByText := true, laidKinds := [.data, .pinned], laidTests := true, laidLooks := .later }
def UtfAllCardSaid : Prop := Claim7.holds Tryd.pinned (.plain (OpenSpec.ofChange utfAllSpec)) utfAllCard

/-- THE TIED CARD OF 'stratumlaw03.UtfBack'. -/
def utfBackCard : Claim7 := { stood := { row := utfBackRow, standIns := [], harness := (true, "8a36cc52e3d282f759f95fed403267df93ecfeb46b021d7da35ee8dabb2141b4"), looks := false }, kinds := [], alts := [], laidByText := true, laidKinds := [.data, .pinned], laidTests := true, laidLooks := .later }
def UtfBackCardSaid : Prop := Claim7.holds Tryd.pinned (.plain (OpenSpec.ofChange utfBackSpec)) utfBackCard

/-- THE TIED CARD OF 'stratumlaw03.UtfThrough'. -/
def utfThroughCard : Claim7 := { stood := { row := utfThroughRow, standIns := [], harness := (true, "8a36cc52e3d282f759f95fed403267df93ecfeb46b021d7da35ee8dabb2141b4"), looks := false }, kinds := [], alts := [], laidByText := true, laidKinds := [.data, .pinned], laidTests := true, laidLooks := .later }
def UtfThroughCardSaid : Prop := Claim7.holds Tryd.pinned (.plain (OpenSpec.ofChange utfThroughSpec)) utfThroughCard

/-- THE TIED CARD OF 'stratumlaw03.UtfJoins'. -/
def utfJoinsCard : Claim7 := { stood := { row := utfJoinsRow, standIns := [], harness := (true, "8a36cc52e3d282f759f95fed403267df93ecfeb46b021d7da35ee8dabb2141b4"), looks := false }, kinds := [], alts := [], laidByText := true, laidKinds := [.data, .pinned], laidTests := true, laidLooks := .later }
def UtfJoinsCardSaid : Prop := Claim7.holds Tryd.pinned (.plain (OpenSpec.ofChange utfJoinsSpec)) utfJoinsCard

/-- THE TIED CARD OF 'stratumlaw03.UtfMends'. -/
def utfMendsCard : Claim7 := { stood := { row := utfMendsRow, standIns := [], harness := (true, "8a36cc52e3d282f759f95fed403267df93ecfeb46b021d7da35ee8dabb2141b4"), looks := false }, kinds := [], alts := [], laidByText := true, laidKinds := [.data, .pinned], laidTests := true, laidLooks := .later }
def UtfMendsCardSaid : Prop := Claim7.holds Tryd.pinned (.plain (OpenSpec.ofChange utfMendsSpec)) utfMendsCard

/-- THE TIED CARD OF 'stratumlaw03.UtfRises'. -/
def utfRisesCard : Claim7 := { stood := { row := utfRisesRow, standIns := [], harness := (true, "8a36cc52e3d282f759f95fed403267df93ecfeb46b021d7da35ee8dabb2141b4"), looks := false }, kinds := [], alts := [], laidByText := true, laidKinds := [.data, .pinned], laidTests := true, laidLooks := .later }
def UtfRisesCardSaid : Prop := Claim7.holds Tryd.pinned (.plain (OpenSpec.ofChange utfRisesSpec)) utfRisesCard

/-- THE SECOND FORM's CARD OF 'stratumlaw03.UtfAll'. -/
def utfAllUptoCard : Claim7 := { stood := { row := utfAllUptoRow, standIns := [], harness := (true, "8a36cc52e3d282f759f95fed403267df93ecfeb46b021d7da35ee8dabb2141b4"), looks := false }, kinds := [], alts := [], laidByText := true, laidKinds := [.data, .pinned], laidTests := true, laidLooks := .later }
def UtfAllUptoCardSaid : Prop := Claim7.holds Tryd.pinned (.plain (OpenSpec.upto utfAllSpec)) utfAllUptoCard

/-- THE SECOND FORM's CARD OF 'stratumlaw03.UtfBack'. -/
def utfBackUptoCard : Claim7 := { stood := { row := utfBackUptoRow, standIns := [], harness := (true, "8a36cc52e3d282f759f95fed403267df93ecfeb46b021d7da35ee8dabb2141b4"), looks := false }, kinds := [], alts := [], laidByText := true, laidKinds := [.data, .pinned], laidTests := true, laidLooks := .later }
def UtfBackUptoCardSaid : Prop := Claim7.holds Tryd.pinned (.plain (OpenSpec.upto utfBackSpec)) utfBackUptoCard

/-- THE SECOND FORM's CARD OF 'stratumlaw03.UtfThrough'. -/
def utfThroughUptoCard : Claim7 := { stood := { row := utfThroughUptoRow, standIns := [], harness := (true, "8a36cc52e3d282f759f95fed403267df93ecfeb46b021d7da35ee8dabb2141b4"), looks := false }, kinds := [], alts := [], laidByText := true, laidKinds := [.data, .pinned], laidTests := true, laidLooks := .later }
def UtfThroughUptoCardSaid : Prop := Claim7.holds Tryd.pinned (.plain (OpenSpec.upto utfThroughSpec)) utfThroughUptoCard

/-- THE SECOND FORM's CARD OF 'stratumlaw03.UtfJoins'. -/
def utfJoinsUptoCard : Claim7 := { stood := { row := utfJoinsUptoRow, standIns := [], harness := (true, "8a36cc52e3d282f759f95fed403267df93ecfeb46b021d7da35ee8dabb2141b4"), looks := false }, kinds := [], alts := [], laidByText := true, laidKinds := [.data, .pinned], laidTests := true, laidLooks := .later }
def UtfJoinsUptoCardSaid : Prop := Claim7.holds Tryd.pinned (.plain (OpenSpec.upto utfJoinsSpec)) utfJoinsUptoCard

/-- THE SECOND FORM's CARD OF 'stratumlaw03.UtfMends'. -/
def utfMendsUptoCard : Claim7 := { stood := { row := utfMendsUptoRow, standIns := [], harness := (true, "8a36cc52e3d282f759f95fed403267df93ecfeb46b021d7da35ee8dabb2141b4"), looks := false }, kinds := [], alts := [], laidByText := true, laidKinds := [.data, .pinned], laidTests := true, laidLooks := .later }
def UtfMendsUptoCardSaid : Prop := Claim7.holds Tryd.pinned (.plain (OpenSpec.upto utfMendsSpec)) utfMendsUptoCard

/-- THE SECOND FORM's CARD OF 'stratumlaw03.UtfRises'. -/
def utfRisesUptoCard : Claim7 := { stood := { row := utfRisesUptoRow, standIns := [], harness := (true, "8a36cc52e3d282f759f95fed403267df93ecfeb46b021d7da35ee8dabb2141b4"), looks := false }, kinds := [], alts := [], laidByText := true, laidKinds := [.data, .pinned], laidTests := true, laidLooks := .later }
def UtfRisesUptoCardSaid : Prop := Claim7.holds Tryd.pinned (.plain (OpenSpec.upto utfRisesSpec)) utfRisesUptoCard
end Rows
end Go.Proofs.YtkpbbclnffmepaaDoor
