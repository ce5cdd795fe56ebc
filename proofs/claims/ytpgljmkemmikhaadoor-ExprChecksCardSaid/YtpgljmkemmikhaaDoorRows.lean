/-
  NARROWER THAN 'FOR EVERY INPUT', by the rows' own cells (each row's printed sentence says how): ExprChecks: laid · ExprValues: laid · ExprLaws: laid · ExprTexts: laid · ExprNumbers: laid · ExprPlaces: laid.
  DERIVED. THE GIVEN ROWS OF THIS SEAT. 6 by the template 'for every input the law returns true; each argument reads behind the call as it read before'; 0 by the template 'total and deterministic' (their statements: YtpgljmkemmikhaaDoorTotals.lean).
  GIVEN WITH THE SEED: the statements are not yours to turn. If you find one false, say at which input.
  Laid BY PROGRAM, IN A SANDBOX (cutbox-rows.mjs): the forced cells as the released guide's own fill.sh prints them over the translation 2254f5000f11ec60… (all of the seat's roots in one cut). By AI agents, Wed Nov 11 2026. No macro, syntax, notation, axiom, sorry.
-/
import Derived.Test.YtpgljmkemmikhaaDoorChecked
import GoSem.PinnedTables
import GoSem.Claim
import GoSem.ClaimJoined
import GoSem.ClaimMapViews
import Derived.JoinedTies
import Derived.KernelRfl
namespace Go.Proofs.YtpgljmkemmikhaaDoor
/- THE CELL 'sum', in the pinned program and in every row, IS THE sha256 OF THE DUMP (.gsa) THAT YtpgljmkemmikhaaDoorProg.lean LOADS. Nothing in Lean hashes anything: it is a label: what it is worth is what the hold of that sum in a sandbox is worth. -/
noncomputable def Tryd.pinned : Pinned := { name := "ytpgljmkemmikhaadoor", sum := "2254f5000f11ec6054647272f85a6b0c58d3e84383da2b4f95774089856ea2d3", checked := Tryd.checked }
namespace Rows
def none {H : Type} : Left H := { results := [], args := [] }

/- WHAT THE LISTED PACKAGE-LEVEL VARIABLES READ AS WHEN THE CALL BEGINS. Each datum BY PROGRAM (the guide's laid-datum.mjs) off the statement by which the dump's own 'gosem.cut.vars' lays the variable. In a bare row this is a premise. The card (YtpgljmkemmikhaaDoorCards.lean) ties it to the program's text. -/
def laid_unicode_utf8_acceptRanges {H : Type} : DataW H := .agg [.agg [.lit (.int .u8 128), .lit (.int .u8 191)], .agg [.lit (.int .u8 160), .lit (.int .u8 191)], .agg [.lit (.int .u8 128), .lit (.int .u8 159)], .agg [.lit (.int .u8 144), .lit (.int .u8 191)], .agg [.lit (.int .u8 128), .lit (.int .u8 143)], .agg [.lit (.int .u8 0), .lit (.int .u8 0)], .agg [.lit (.int .u8 0), .lit (.int .u8 0)], .agg [.lit (.int .u8 0), .lit (.int .u8 0)], .agg [.lit (.int .u8 0), .lit (.int .u8 0)], .agg [.lit (.int .u8 0), .lit (.int .u8 0)], .agg [.lit (.int .u8 0), .lit (.int .u8 0)], .agg [.lit (.int .u8 0), .lit (.int .u8 0)], .agg [.lit (.int .u8 0), .lit (.int .u8 0)], .agg [.lit (.int .u8 0), .lit (.int .u8 0)], .agg [.lit (.int .u8 0), .lit (.int .u8 0)], .agg [.lit (.int .u8 0), .lit (.int .u8 0)]]
def laid_stratum_kind_uintNumber {H : Type} : DataW H := .lit (.int .i64 1)
def laid_stratum_kind_intNumber {H : Type} : DataW H := .lit (.int .i64 2)
def laid_stratum_kind_boolNumber {H : Type} : DataW H := .lit (.int .i64 3)
def laid_stratum_kind_textNumber {H : Type} : DataW H := .lit (.int .i64 4)
def laid_stratum_kind_bytesNumber {H : Type} : DataW H := .lit (.int .i64 5)
/-- One of Go's own tables, pinned by name: the form's constant. -/
def laid_unicode_utf8_first : DataW Unit := Go.Pinned.utf8First

/-- 'stratumlaw11.ExprChecks': WHATEVER THE INPUT: true; the input reads as it did. -/
def exprChecksSpec : ChangeSpec := { name := "exprChecks", fn := fun _ => fun
  | [d] => { results := [.lit (.bool true)], args := [d] }
  | _ => none }
def exprChecksRow : OpenClaim := { program := "ytpgljmkemmikhaadoor", sum := "2254f5000f11ec6054647272f85a6b0c58d3e84383da2b4f95774089856ea2d3", func := "stratum/stratumlaw11.ExprChecks", spec := "exprChecks", inPlace := ["internal/abi.NoEscape", "internal/bytealg.MakeNoZero", "math/bits.Add64"], unfollowed := true, recurses := true, named := ["stratum/kind.intNumber", "stratum/kind.uintNumber", "stratum/kind.boolNumber", "stratum/kind.textNumber", "stratum/kind.bytesNumber", "unicode/utf8.first", "unicode/utf8.acceptRanges"], apart := false, laid := [("unicode/utf8.acceptRanges", laid_unicode_utf8_acceptRanges), ("stratum/kind.uintNumber", laid_stratum_kind_uintNumber), ("stratum/kind.intNumber", laid_stratum_kind_intNumber), ("stratum/kind.boolNumber", laid_stratum_kind_boolNumber), ("stratum/kind.textNumber", laid_stratum_kind_textNumber), ("stratum/kind.bytesNumber", laid_stratum_kind_bytesNumber), ("unicode/utf8.first", laid_unicode_utf8_first)] }
def ExprChecksSaid : Prop := exprChecksRow.holds Tryd.pinned (OpenSpec.ofChange exprChecksSpec)

/-- ITS FALSE NEIGHBOUR: 'it returns false'. Refute it at one input. -/
def exprChecksWrong : ChangeSpec := { name := "exprChecks", fn := fun _ => fun
  | [d] => { results := [.lit (.bool false)], args := [d] }
  | _ => none }
def ExprChecksWrongFalsely : Prop := exprChecksRow.holds Tryd.pinned (OpenSpec.ofChange exprChecksWrong)

/-- 'stratumlaw11.ExprValues': WHATEVER THE INPUT: true; the input reads as it did. -/
def exprValuesSpec : ChangeSpec := { name := "exprValues", fn := fun _ => fun
  | [d1, d2] => { results := [.lit (.bool true)], args := [d1, d2] }
  | _ => none }
def exprValuesRow : OpenClaim := { program := "ytpgljmkemmikhaadoor", sum := "2254f5000f11ec6054647272f85a6b0c58d3e84383da2b4f95774089856ea2d3", func := "stratum/stratumlaw11.ExprValues", spec := "exprValues", inPlace := ["internal/abi.NoEscape", "internal/bytealg.MakeNoZero", "math/bits.Add64"], unfollowed := true, recurses := true, named := ["stratum/kind.intNumber", "stratum/kind.uintNumber", "stratum/kind.boolNumber", "stratum/kind.textNumber", "stratum/kind.bytesNumber", "unicode/utf8.first", "unicode/utf8.acceptRanges"], apart := false, laid := [("unicode/utf8.acceptRanges", laid_unicode_utf8_acceptRanges), ("stratum/kind.uintNumber", laid_stratum_kind_uintNumber), ("stratum/kind.intNumber", laid_stratum_kind_intNumber), ("stratum/kind.boolNumber", laid_stratum_kind_boolNumber), ("stratum/kind.textNumber", laid_stratum_kind_textNumber), ("stratum/kind.bytesNumber", laid_stratum_kind_bytesNumber), ("unicode/utf8.first", laid_unicode_utf8_first)] }
def ExprValuesSaid : Prop := exprValuesRow.holds Tryd.pinned (OpenSpec.ofChange exprValuesSpec)

/-- ITS FALSE NEIGHBOUR: 'it returns false'. Refute it at one input. -/
def exprValuesWrong : ChangeSpec := { name := "exprValues", fn := fun _ => fun
  | [d1, d2] => { results := [.lit (.bool false)], args := [d1, d2] }
  | _ => none }
def ExprValuesWrongFalsely : Prop := exprValuesRow.holds Tryd.pinned (OpenSpec.ofChange exprValuesWrong)

/-- 'stratumlaw11.ExprLaws': WHATEVER THE INPUT: true; the input reads as it did. -/
def exprLawsSpec : ChangeSpec := { name := "exprLaws", fn := fun _ => fun
  | [d1, d2, d3] => { results := [.lit (.bool true)], args := [d1, d2, d3] }
  | _ => none }
def exprLawsRow : OpenClaim := { program := "ytpgljmkemmikhaadoor", sum := "2254f5000f11ec6054647272f85a6b0c58d3e84383da2b4f95774089856ea2d3", func := "stratum/stratumlaw11.ExprLaws", spec := "exprLaws", inPlace := ["internal/abi.NoEscape", "internal/bytealg.MakeNoZero", "math/bits.Add64"], unfollowed := true, recurses := true, named := ["stratum/kind.intNumber", "stratum/kind.uintNumber", "stratum/kind.boolNumber", "stratum/kind.textNumber", "stratum/kind.bytesNumber", "unicode/utf8.first", "unicode/utf8.acceptRanges"], apart := false, laid := [("unicode/utf8.acceptRanges", laid_unicode_utf8_acceptRanges), ("stratum/kind.uintNumber", laid_stratum_kind_uintNumber), ("stratum/kind.intNumber", laid_stratum_kind_intNumber), ("stratum/kind.boolNumber", laid_stratum_kind_boolNumber), ("stratum/kind.textNumber", laid_stratum_kind_textNumber), ("stratum/kind.bytesNumber", laid_stratum_kind_bytesNumber), ("unicode/utf8.first", laid_unicode_utf8_first)] }
def ExprLawsSaid : Prop := exprLawsRow.holds Tryd.pinned (OpenSpec.ofChange exprLawsSpec)

/-- ITS FALSE NEIGHBOUR: 'it returns false'. Refute it at one input. -/
def exprLawsWrong : ChangeSpec := { name := "exprLaws", fn := fun _ => fun
  | [d1, d2, d3] => { results := [.lit (.bool false)], args := [d1, d2, d3] }
  | _ => none }
def ExprLawsWrongFalsely : Prop := exprLawsRow.holds Tryd.pinned (OpenSpec.ofChange exprLawsWrong)

/-- 'stratumlaw11.ExprTexts': WHATEVER THE INPUT: true; the input reads as it did. -/
def exprTextsSpec : ChangeSpec := { name := "exprTexts", fn := fun _ => fun
  | [d1, d2, d3] => { results := [.lit (.bool true)], args := [d1, d2, d3] }
  | _ => none }
def exprTextsRow : OpenClaim := { program := "ytpgljmkemmikhaadoor", sum := "2254f5000f11ec6054647272f85a6b0c58d3e84383da2b4f95774089856ea2d3", func := "stratum/stratumlaw11.ExprTexts", spec := "exprTexts", inPlace := ["internal/abi.NoEscape", "internal/bytealg.MakeNoZero", "math/bits.Add64"], unfollowed := true, recurses := true, named := ["stratum/kind.intNumber", "stratum/kind.uintNumber", "stratum/kind.boolNumber", "stratum/kind.textNumber", "stratum/kind.bytesNumber", "unicode/utf8.first", "unicode/utf8.acceptRanges"], apart := false, laid := [("unicode/utf8.acceptRanges", laid_unicode_utf8_acceptRanges), ("stratum/kind.uintNumber", laid_stratum_kind_uintNumber), ("stratum/kind.intNumber", laid_stratum_kind_intNumber), ("stratum/kind.boolNumber", laid_stratum_kind_boolNumber), ("stratum/kind.textNumber", laid_stratum_kind_textNumber), ("stratum/kind.bytesNumber", laid_stratum_kind_bytesNumber), ("unicode/utf8.first", laid_unicode_utf8_first)] }
def ExprTextsSaid : Prop := exprTextsRow.holds Tryd.pinned (OpenSpec.ofChange exprTextsSpec)

/-- ITS FALSE NEIGHBOUR: 'it returns false'. Refute it at one input. -/
def exprTextsWrong : ChangeSpec := { name := "exprTexts", fn := fun _ => fun
  | [d1, d2, d3] => { results := [.lit (.bool false)], args := [d1, d2, d3] }
  | _ => none }
def ExprTextsWrongFalsely : Prop := exprTextsRow.holds Tryd.pinned (OpenSpec.ofChange exprTextsWrong)

/-- 'stratumlaw11.ExprNumbers': WHATEVER THE INPUT: true; the input reads as it did. -/
def exprNumbersSpec : ChangeSpec := { name := "exprNumbers", fn := fun _ => fun
  | [d1, d2, d3, d4] => { results := [.lit (.bool true)], args := [d1, d2, d3, d4] }
  | _ => none }
def exprNumbersRow : OpenClaim := { program := "ytpgljmkemmikhaadoor", sum := "2254f5000f11ec6054647272f85a6b0c58d3e84383da2b4f95774089856ea2d3", func := "stratum/stratumlaw11.ExprNumbers", spec := "exprNumbers", inPlace := ["internal/abi.NoEscape", "internal/bytealg.MakeNoZero", "math/bits.Add64"], unfollowed := true, recurses := true, named := ["stratum/kind.intNumber", "stratum/kind.uintNumber", "stratum/kind.boolNumber", "stratum/kind.textNumber", "stratum/kind.bytesNumber", "unicode/utf8.first", "unicode/utf8.acceptRanges"], apart := false, laid := [("unicode/utf8.acceptRanges", laid_unicode_utf8_acceptRanges), ("stratum/kind.uintNumber", laid_stratum_kind_uintNumber), ("stratum/kind.intNumber", laid_stratum_kind_intNumber), ("stratum/kind.boolNumber", laid_stratum_kind_boolNumber), ("stratum/kind.textNumber", laid_stratum_kind_textNumber), ("stratum/kind.bytesNumber", laid_stratum_kind_bytesNumber), ("unicode/utf8.first", laid_unicode_utf8_first)] }
def ExprNumbersSaid : Prop := exprNumbersRow.holds Tryd.pinned (OpenSpec.ofChange exprNumbersSpec)

/-- ITS FALSE NEIGHBOUR: 'it returns false'. Refute it at one input. -/
def exprNumbersWrong : ChangeSpec := { name := "exprNumbers", fn := fun _ => fun
  | [d1, d2, d3, d4] => { results := [.lit (.bool false)], args := [d1, d2, d3, d4] }
  | _ => none }
def ExprNumbersWrongFalsely : Prop := exprNumbersRow.holds Tryd.pinned (OpenSpec.ofChange exprNumbersWrong)

/-- 'stratumlaw11.ExprPlaces': WHATEVER THE INPUT: true; the input reads as it did. -/
def exprPlacesSpec : ChangeSpec := { name := "exprPlaces", fn := fun _ => fun
  | [d1, d2] => { results := [.lit (.bool true)], args := [d1, d2] }
  | _ => none }
def exprPlacesRow : OpenClaim := { program := "ytpgljmkemmikhaadoor", sum := "2254f5000f11ec6054647272f85a6b0c58d3e84383da2b4f95774089856ea2d3", func := "stratum/stratumlaw11.ExprPlaces", spec := "exprPlaces", inPlace := ["internal/abi.NoEscape", "internal/bytealg.MakeNoZero", "math/bits.Add64"], unfollowed := true, recurses := true, named := ["stratum/kind.intNumber", "stratum/kind.uintNumber", "stratum/kind.boolNumber", "stratum/kind.textNumber", "stratum/kind.bytesNumber", "unicode/utf8.first", "unicode/utf8.acceptRanges"], apart := false, laid := [("unicode/utf8.acceptRanges", laid_unicode_utf8_acceptRanges), ("stratum/kind.uintNumber", laid_stratum_kind_uintNumber), ("stratum/kind.intNumber", laid_stratum_kind_intNumber), ("stratum/kind.boolNumber", laid_stratum_kind_boolNumber), ("stratum/kind.textNumber", laid_stratum_kind_textNumber), ("stratum/kind.bytesNumber", laid_stratum_kind_bytesNumber), ("unicode/utf8.first", laid_unicode_utf8_first)] }
def ExprPlacesSaid : Prop := exprPlacesRow.holds Tryd.pinned (OpenSpec.ofChange exprPlacesSpec)

/-- ITS FALSE NEIGHBOUR: 'it returns false'. Refute it at one input. -/
def exprPlacesWrong : ChangeSpec := { name := "exprPlaces", fn := fun _ => fun
  | [d1, d2] => { results := [.lit (.bool false)], args := [d1, d2] }
  | _ => none }
def ExprPlacesWrongFalsely : Prop := exprPlacesRow.holds Tryd.pinned (OpenSpec.ofChange exprPlacesWrong)

/- THE SECOND FORM. 'bulk': how many values and letters a reading holds, each counted each time it is reached (what is shared counts as often as it is met; a slice's spare places count too). A statement '..UptoSaid' is the law's where the arguments, and the package variables that the reading takes, are together of bulk at most 1048576: NARROWER than '..Said'. Prove '..Said' where nothing that the law and all that it calls make is longer than what came in: it says more and counts as full. Else prove '..UptoSaid'. A law counts once. -/
mutual
def uptoBulk {H : Type} : DataW H → Nat
  | .lit (.string bytes) => bytes.length + 1
  | .lit _ => 1
  | .nil => 1
  | .ptr d => uptoBulk d + 1
  | .slice elems spare => uptoBulkAll elems + uptoBulkAll spare + 1
  | .agg parts => uptoBulkAll parts + 1
  | .iface _ d => uptoBulk d + 1
  | .map entries => uptoBulkEntries entries + 1
  | .held _ => 1
def uptoBulkAll {H : Type} : List (DataW H) → Nat
  | [] => 0
  | d :: r => uptoBulk d + uptoBulkAll r
def uptoBulkEntries {H : Type} : List (Lit × DataW H) → Nat
  | [] => 0
  | x :: r => uptoBulkEntry x + uptoBulkEntries r
def uptoBulkEntry {H : Type} : Lit × DataW H → Nat
  | (.string bytes, d) => bytes.length + uptoBulk d + 1
  | (_, d) => uptoBulk d + 1
 end
def uptoSmall : (H : Type) → List (DataW H) → Bool := fun _ ds => decide (uptoBulkAll ds ≤ 1048576)
def OpenSpec.upto (s : _root_.Go.ChangeSpec) : _root_.Go.OpenSpec := { _root_.Go.OpenSpec.ofChange s with cond := some uptoSmall }

/-- 'stratumlaw11.ExprChecks', WHERE WHAT IT READS IS OF BULK AT MOST 1048576: true; the input reads as it did. -/
def exprChecksUptoRow : OpenClaim := { program := "ytpgljmkemmikhaadoor", sum := "2254f5000f11ec6054647272f85a6b0c58d3e84383da2b4f95774089856ea2d3", func := "stratum/stratumlaw11.ExprChecks", spec := "exprChecks", inPlace := ["internal/abi.NoEscape", "internal/bytealg.MakeNoZero", "math/bits.Add64"], unfollowed := true, recurses := true, named := ["stratum/kind.intNumber", "stratum/kind.uintNumber", "stratum/kind.boolNumber", "stratum/kind.textNumber", "stratum/kind.bytesNumber", "unicode/utf8.first", "unicode/utf8.acceptRanges"], apart := false, laid := [("unicode/utf8.acceptRanges", laid_unicode_utf8_acceptRanges), ("stratum/kind.uintNumber", laid_stratum_kind_uintNumber), ("stratum/kind.intNumber", laid_stratum_kind_intNumber), ("stratum/kind.boolNumber", laid_stratum_kind_boolNumber), ("stratum/kind.textNumber", laid_stratum_kind_textNumber), ("stratum/kind.bytesNumber", laid_stratum_kind_bytesNumber), ("unicode/utf8.first", laid_unicode_utf8_first)], narrowed := true }
def ExprChecksUptoSaid : Prop := exprChecksUptoRow.holds Tryd.pinned (OpenSpec.upto exprChecksSpec)

/-- 'stratumlaw11.ExprValues', WHERE WHAT IT READS IS OF BULK AT MOST 1048576: true; the input reads as it did. -/
def exprValuesUptoRow : OpenClaim := { program := "ytpgljmkemmikhaadoor", sum := "2254f5000f11ec6054647272f85a6b0c58d3e84383da2b4f95774089856ea2d3", func := "stratum/stratumlaw11.ExprValues", spec := "exprValues", inPlace := ["internal/abi.NoEscape", "internal/bytealg.MakeNoZero", "math/bits.Add64"], unfollowed := true, recurses := true, named := ["stratum/kind.intNumber", "stratum/kind.uintNumber", "stratum/kind.boolNumber", "stratum/kind.textNumber", "stratum/kind.bytesNumber", "unicode/utf8.first", "unicode/utf8.acceptRanges"], apart := false, laid := [("unicode/utf8.acceptRanges", laid_unicode_utf8_acceptRanges), ("stratum/kind.uintNumber", laid_stratum_kind_uintNumber), ("stratum/kind.intNumber", laid_stratum_kind_intNumber), ("stratum/kind.boolNumber", laid_stratum_kind_boolNumber), ("stratum/kind.textNumber", laid_stratum_kind_textNumber), ("stratum/kind.bytesNumber", laid_stratum_kind_bytesNumber), ("unicode/utf8.first", laid_unicode_utf8_first)], narrowed := true }
def ExprValuesUptoSaid : Prop := exprValuesUptoRow.holds Tryd.pinned (OpenSpec.upto exprValuesSpec)

/-- 'stratumlaw11.ExprLaws', WHERE WHAT IT READS IS OF BULK AT MOST 1048576: true; the input reads as it did. -/
def exprLawsUptoRow : OpenClaim := { program := "ytpgljmkemmikhaadoor", sum := "2254f5000f11ec6054647272f85a6b0c58d3e84383da2b4f95774089856ea2d3", func := "stratum/stratumlaw11.ExprLaws", spec := "exprLaws", inPlace := ["internal/abi.NoEscape", "internal/bytealg.MakeNoZero", "math/bits.Add64"], unfollowed := true, recurses := true, named := ["stratum/kind.intNumber", "stratum/kind.uintNumber", "stratum/kind.boolNumber", "stratum/kind.textNumber", "stratum/kind.bytesNumber", "unicode/utf8.first", "unicode/utf8.acceptRanges"], apart := false, laid := [("unicode/utf8.acceptRanges", laid_unicode_utf8_acceptRanges), ("stratum/kind.uintNumber", laid_stratum_kind_uintNumber), ("stratum/kind.intNumber", laid_stratum_kind_intNumber), ("stratum/kind.boolNumber", laid_stratum_kind_boolNumber), ("stratum/kind.textNumber", laid_stratum_kind_textNumber), ("stratum/kind.bytesNumber", laid_stratum_kind_bytesNumber), ("unicode/utf8.first", laid_unicode_utf8_first)], narrowed := true }
def ExprLawsUptoSaid : Prop := exprLawsUptoRow.holds Tryd.pinned (OpenSpec.upto exprLawsSpec)

/-- 'stratumlaw11.ExprTexts', WHERE WHAT IT READS IS OF BULK AT MOST 1048576: true; the input reads as it did. -/
def exprTextsUptoRow : OpenClaim := { program := "ytpgljmkemmikhaadoor", sum := "2254f5000f11ec6054647272f85a6b0c58d3e84383da2b4f95774089856ea2d3", func := "stratum/stratumlaw11.ExprTexts", spec := "exprTexts", inPlace := ["internal/abi.NoEscape", "internal/bytealg.MakeNoZero", "math/bits.Add64"], unfollowed := true, recurses := true, named := ["stratum/kind.intNumber", "stratum/kind.uintNumber", "stratum/kind.boolNumber", "stratum/kind.textNumber", "stratum/kind.bytesNumber", "unicode/utf8.first", "unicode/utf8.acceptRanges"], apart := false, laid := [("unicode/utf8.acceptRanges", laid_unicode_utf8_acceptRanges), ("stratum/kind.uintNumber", laid_stratum_kind_uintNumber), ("stratum/kind.intNumber", laid_stratum_kind_intNumber), ("stratum/kind.boolNumber", laid_stratum_kind_boolNumber), ("stratum/kind.textNumber", laid_stratum_kind_textNumber), ("stratum/kind.bytesNumber", laid_stratum_kind_bytesNumber), ("unicode/utf8.first", laid_unicode_utf8_first)], narrowed := true }
def ExprTextsUptoSaid : Prop := exprTextsUptoRow.holds Tryd.pinned (OpenSpec.upto exprTextsSpec)

/-- 'stratumlaw11.ExprNumbers', WHERE WHAT IT READS IS OF BULK AT MOST 1048576: true; the input reads as it did. -/
def exprNumbersUptoRow : OpenClaim := { program := "ytpgljmkemmikhaadoor", sum := "2254f5000f11ec6054647272f85a6b0c58d3e84383da2b4f95774089856ea2d3", func := "stratum/stratumlaw11.ExprNumbers", spec := "exprNumbers", inPlace := ["internal/abi.NoEscape", "internal/bytealg.MakeNoZero", "math/bits.Add64"], unfollowed := true, recurses := true, named := ["stratum/kind.intNumber", "stratum/kind.uintNumber", "stratum/kind.boolNumber", "stratum/kind.textNumber", "stratum/kind.bytesNumber", "unicode/utf8.first", "unicode/utf8.acceptRanges"], apart := false, laid := [("unicode/utf8.acceptRanges", laid_unicode_utf8_acceptRanges), ("stratum/kind.uintNumber", laid_stratum_kind_uintNumber), ("stratum/kind.intNumber", laid_stratum_kind_intNumber), ("stratum/kind.boolNumber", laid_stratum_kind_boolNumber), ("stratum/kind.textNumber", laid_stratum_kind_textNumber), ("stratum/kind.bytesNumber", laid_stratum_kind_bytesNumber), ("unicode/utf8.first", laid_unicode_utf8_first)], narrowed := true }
def ExprNumbersUptoSaid : Prop := exprNumbersUptoRow.holds Tryd.pinned (OpenSpec.upto exprNumbersSpec)

/-- 'stratumlaw11.ExprPlaces', WHERE WHAT IT READS IS OF BULK AT MOST 1048576: true; the input reads as it did. -/
def exprPlacesUptoRow : OpenClaim := { program := "ytpgljmkemmikhaadoor", sum := "2254f5000f11ec6054647272f85a6b0c58d3e84383da2b4f95774089856ea2d3", func := "stratum/stratumlaw11.ExprPlaces", spec := "exprPlaces", inPlace := ["internal/abi.NoEscape", "internal/bytealg.MakeNoZero", "math/bits.Add64"], unfollowed := true, recurses := true, named := ["stratum/kind.intNumber", "stratum/kind.uintNumber", "stratum/kind.boolNumber", "stratum/kind.textNumber", "stratum/kind.bytesNumber", "unicode/utf8.first", "unicode/utf8.acceptRanges"], apart := false, laid := [("unicode/utf8.acceptRanges", laid_unicode_utf8_acceptRanges), ("stratum/kind.uintNumber", laid_stratum_kind_uintNumber), ("stratum/kind.intNumber", laid_stratum_kind_intNumber), ("stratum/kind.boolNumber", laid_stratum_kind_boolNumber), ("stratum/kind.textNumber", laid_stratum_kind_textNumber), ("stratum/kind.bytesNumber", laid_stratum_kind_bytesNumber), ("unicode/utf8.first", laid_unicode_utf8_first)], narrowed := true }
def ExprPlacesUptoSaid : Prop := exprPlacesUptoRow.holds Tryd.pinned (OpenSpec.upto exprPlacesSpec)

end Rows
end Go.Proofs.YtpgljmkemmikhaaDoor
