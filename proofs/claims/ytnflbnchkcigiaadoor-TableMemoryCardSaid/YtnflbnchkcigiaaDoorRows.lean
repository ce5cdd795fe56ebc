/-
  NARROWER THAN 'FOR EVERY INPUT', by the rows' own cells (each row's printed sentence says how): TableLooks: laid · TableTyped: laid · TableExtends: laid · TableMemory: laid · TableCounts: laid · TableFits: laid · TableGrows: laid.
  DERIVED. THE GIVEN ROWS OF THIS SEAT. 7 by the template 'for every input the law returns true; each argument reads behind the call as it read before'; 0 by the template 'total and deterministic' (their statements: YtnflbnchkcigiaaDoorTotals.lean).
  GIVEN WITH THE SEED: the statements are not yours to turn. If you find one false, say at which input.
  Laid BY PROGRAM, IN A SANDBOX (cutbox-rows.mjs): the forced cells as the released guide's own fill.sh prints them over the translation d878018adfda3566… (all of the seat's roots in one cut). By AI agents, Wed Nov 11 2026. No macro, syntax, notation, axiom, sorry.
-/
import Derived.Test.YtnflbnchkcigiaaDoorChecked
import GoSem.PinnedTables
import GoSem.Claim
import GoSem.ClaimJoined
import GoSem.ClaimMapViews
import Derived.JoinedTies
import Derived.KernelRfl
namespace Go.Proofs.YtnflbnchkcigiaaDoor
/- THE CELL 'sum', in the pinned program and in every row, IS THE sha256 OF THE DUMP (.gsa) THAT YtnflbnchkcigiaaDoorProg.lean LOADS. Nothing in Lean hashes anything: it is a label: what it is worth is what the hold of that sum in a sandbox is worth. -/
noncomputable def Tryd.pinned : Pinned := { name := "ytnflbnchkcigiaadoor", sum := "d878018adfda3566fcf411e363c8e69c0c19d86bcb6c964beeec27af2b8ecf82", checked := Tryd.checked }
namespace Rows
def none {H : Type} : Left H := { results := [], args := [] }

/- WHAT THE LISTED PACKAGE-LEVEL VARIABLES READ AS WHEN THE CALL BEGINS. Each datum BY PROGRAM (the guide's laid-datum.mjs) off the statement by which the dump's own 'gosem.cut.vars' lays the variable. In a bare row this is a premise. The card (YtnflbnchkcigiaaDoorCards.lean) ties it to the program's text. -/
def laid_unicode_utf8_acceptRanges {H : Type} : DataW H := .agg [.agg [.lit (.int .u8 128), .lit (.int .u8 191)], .agg [.lit (.int .u8 160), .lit (.int .u8 191)], .agg [.lit (.int .u8 128), .lit (.int .u8 159)], .agg [.lit (.int .u8 144), .lit (.int .u8 191)], .agg [.lit (.int .u8 128), .lit (.int .u8 143)], .agg [.lit (.int .u8 0), .lit (.int .u8 0)], .agg [.lit (.int .u8 0), .lit (.int .u8 0)], .agg [.lit (.int .u8 0), .lit (.int .u8 0)], .agg [.lit (.int .u8 0), .lit (.int .u8 0)], .agg [.lit (.int .u8 0), .lit (.int .u8 0)], .agg [.lit (.int .u8 0), .lit (.int .u8 0)], .agg [.lit (.int .u8 0), .lit (.int .u8 0)], .agg [.lit (.int .u8 0), .lit (.int .u8 0)], .agg [.lit (.int .u8 0), .lit (.int .u8 0)], .agg [.lit (.int .u8 0), .lit (.int .u8 0)], .agg [.lit (.int .u8 0), .lit (.int .u8 0)]]
def laid_stratum_kind_uintNumber {H : Type} : DataW H := .lit (.int .i64 1)
def laid_stratum_kind_intNumber {H : Type} : DataW H := .lit (.int .i64 2)
def laid_stratum_kind_boolNumber {H : Type} : DataW H := .lit (.int .i64 3)
def laid_stratum_kind_textNumber {H : Type} : DataW H := .lit (.int .i64 4)
def laid_stratum_kind_bytesNumber {H : Type} : DataW H := .lit (.int .i64 5)
/-- One of Go's own tables, pinned by name: the form's constant. -/
def laid_unicode_utf8_first : DataW Unit := Go.Pinned.utf8First

/-- 'stratumlaw13.TableLooks': WHATEVER THE INPUT: true; the input reads as it did. -/
def tableLooksSpec : ChangeSpec := { name := "tableLooks", fn := fun _ => fun
  | [d] => { results := [.lit (.bool true)], args := [d] }
  | _ => none }
def tableLooksRow : OpenClaim := { program := "ytnflbnchkcigiaadoor", sum := "d878018adfda3566fcf411e363c8e69c0c19d86bcb6c964beeec27af2b8ecf82", func := "stratum/stratumlaw13.TableLooks", spec := "tableLooks", unfollowed := true, recurses := true, named := ["stratum/kind.uintNumber", "stratum/kind.intNumber", "stratum/kind.boolNumber", "stratum/kind.textNumber", "stratum/kind.bytesNumber", "unicode/utf8.first", "unicode/utf8.acceptRanges"], apart := false, laid := [("unicode/utf8.acceptRanges", laid_unicode_utf8_acceptRanges), ("stratum/kind.uintNumber", laid_stratum_kind_uintNumber), ("stratum/kind.intNumber", laid_stratum_kind_intNumber), ("stratum/kind.boolNumber", laid_stratum_kind_boolNumber), ("stratum/kind.textNumber", laid_stratum_kind_textNumber), ("stratum/kind.bytesNumber", laid_stratum_kind_bytesNumber), ("unicode/utf8.first", laid_unicode_utf8_first)] }
def TableLooksSaid : Prop := tableLooksRow.holds Tryd.pinned (OpenSpec.ofChange tableLooksSpec)

/-- ITS FALSE NEIGHBOUR: 'it returns false'. Refute it at one input. -/
def tableLooksWrong : ChangeSpec := { name := "tableLooks", fn := fun _ => fun
  | [d] => { results := [.lit (.bool false)], args := [d] }
  | _ => none }
def TableLooksWrongFalsely : Prop := tableLooksRow.holds Tryd.pinned (OpenSpec.ofChange tableLooksWrong)

/-- 'stratumlaw13.TableTyped': WHATEVER THE INPUT: true; the input reads as it did. -/
def tableTypedSpec : ChangeSpec := { name := "tableTyped", fn := fun _ => fun
  | [d1, d2] => { results := [.lit (.bool true)], args := [d1, d2] }
  | _ => none }
def tableTypedRow : OpenClaim := { program := "ytnflbnchkcigiaadoor", sum := "d878018adfda3566fcf411e363c8e69c0c19d86bcb6c964beeec27af2b8ecf82", func := "stratum/stratumlaw13.TableTyped", spec := "tableTyped", unfollowed := true, recurses := true, named := ["stratum/kind.uintNumber", "stratum/kind.intNumber", "stratum/kind.boolNumber", "stratum/kind.textNumber", "stratum/kind.bytesNumber", "unicode/utf8.first", "unicode/utf8.acceptRanges"], apart := false, laid := [("unicode/utf8.acceptRanges", laid_unicode_utf8_acceptRanges), ("stratum/kind.uintNumber", laid_stratum_kind_uintNumber), ("stratum/kind.intNumber", laid_stratum_kind_intNumber), ("stratum/kind.boolNumber", laid_stratum_kind_boolNumber), ("stratum/kind.textNumber", laid_stratum_kind_textNumber), ("stratum/kind.bytesNumber", laid_stratum_kind_bytesNumber), ("unicode/utf8.first", laid_unicode_utf8_first)] }
def TableTypedSaid : Prop := tableTypedRow.holds Tryd.pinned (OpenSpec.ofChange tableTypedSpec)

/-- ITS FALSE NEIGHBOUR: 'it returns false'. Refute it at one input. -/
def tableTypedWrong : ChangeSpec := { name := "tableTyped", fn := fun _ => fun
  | [d1, d2] => { results := [.lit (.bool false)], args := [d1, d2] }
  | _ => none }
def TableTypedWrongFalsely : Prop := tableTypedRow.holds Tryd.pinned (OpenSpec.ofChange tableTypedWrong)

/-- 'stratumlaw13.TableExtends': WHATEVER THE INPUT: true; the input reads as it did. -/
def tableExtendsSpec : ChangeSpec := { name := "tableExtends", fn := fun _ => fun
  | [d1, d2] => { results := [.lit (.bool true)], args := [d1, d2] }
  | _ => none }
def tableExtendsRow : OpenClaim := { program := "ytnflbnchkcigiaadoor", sum := "d878018adfda3566fcf411e363c8e69c0c19d86bcb6c964beeec27af2b8ecf82", func := "stratum/stratumlaw13.TableExtends", spec := "tableExtends", unfollowed := true, recurses := true, named := ["stratum/kind.uintNumber", "stratum/kind.intNumber", "stratum/kind.boolNumber", "stratum/kind.textNumber", "stratum/kind.bytesNumber", "unicode/utf8.first", "unicode/utf8.acceptRanges"], apart := false, laid := [("unicode/utf8.acceptRanges", laid_unicode_utf8_acceptRanges), ("stratum/kind.uintNumber", laid_stratum_kind_uintNumber), ("stratum/kind.intNumber", laid_stratum_kind_intNumber), ("stratum/kind.boolNumber", laid_stratum_kind_boolNumber), ("stratum/kind.textNumber", laid_stratum_kind_textNumber), ("stratum/kind.bytesNumber", laid_stratum_kind_bytesNumber), ("unicode/utf8.first", laid_unicode_utf8_first)] }
def TableExtendsSaid : Prop := tableExtendsRow.holds Tryd.pinned (OpenSpec.ofChange tableExtendsSpec)

/-- ITS FALSE NEIGHBOUR: 'it returns false'. Refute it at one input. -/
def tableExtendsWrong : ChangeSpec := { name := "tableExtends", fn := fun _ => fun
  | [d1, d2] => { results := [.lit (.bool false)], args := [d1, d2] }
  | _ => none }
def TableExtendsWrongFalsely : Prop := tableExtendsRow.holds Tryd.pinned (OpenSpec.ofChange tableExtendsWrong)

/-- 'stratumlaw13.TableMemory': WHATEVER THE INPUT: true; the input reads as it did. -/
def tableMemorySpec : ChangeSpec := { name := "tableMemory", fn := fun _ => fun
  | [d1, d2] => { results := [.lit (.bool true)], args := [d1, d2] }
  | _ => none }
def tableMemoryRow : OpenClaim := { program := "ytnflbnchkcigiaadoor", sum := "d878018adfda3566fcf411e363c8e69c0c19d86bcb6c964beeec27af2b8ecf82", func := "stratum/stratumlaw13.TableMemory", spec := "tableMemory", unfollowed := true, recurses := true, named := ["stratum/kind.uintNumber", "stratum/kind.intNumber", "stratum/kind.boolNumber", "stratum/kind.textNumber", "stratum/kind.bytesNumber", "unicode/utf8.first", "unicode/utf8.acceptRanges"], apart := false, laid := [("unicode/utf8.acceptRanges", laid_unicode_utf8_acceptRanges), ("stratum/kind.uintNumber", laid_stratum_kind_uintNumber), ("stratum/kind.intNumber", laid_stratum_kind_intNumber), ("stratum/kind.boolNumber", laid_stratum_kind_boolNumber), ("stratum/kind.textNumber", laid_stratum_kind_textNumber), ("stratum/kind.bytesNumber", laid_stratum_kind_bytesNumber), ("unicode/utf8.first", laid_unicode_utf8_first)] }
def TableMemorySaid : Prop := tableMemoryRow.holds Tryd.pinned (OpenSpec.ofChange tableMemorySpec)

/-- ITS FALSE NEIGHBOUR: 'it returns false'. Refute it at one input. -/
def tableMemoryWrong : ChangeSpec := { name := "tableMemory", fn := fun _ => fun
  | [d1, d2] => { results := [.lit (.bool false)], args := [d1, d2] }
  | _ => none }
def TableMemoryWrongFalsely : Prop := tableMemoryRow.holds Tryd.pinned (OpenSpec.ofChange tableMemoryWrong)

/-- 'stratumlaw13.TableCounts': WHATEVER THE INPUT: true; the input reads as it did. -/
def tableCountsSpec : ChangeSpec := { name := "tableCounts", fn := fun _ => fun
  | [d1, d2, d3] => { results := [.lit (.bool true)], args := [d1, d2, d3] }
  | _ => none }
def tableCountsRow : OpenClaim := { program := "ytnflbnchkcigiaadoor", sum := "d878018adfda3566fcf411e363c8e69c0c19d86bcb6c964beeec27af2b8ecf82", func := "stratum/stratumlaw13.TableCounts", spec := "tableCounts", unfollowed := true, recurses := true, named := ["stratum/kind.uintNumber", "stratum/kind.intNumber", "stratum/kind.boolNumber", "stratum/kind.textNumber", "stratum/kind.bytesNumber", "unicode/utf8.first", "unicode/utf8.acceptRanges"], apart := false, laid := [("unicode/utf8.acceptRanges", laid_unicode_utf8_acceptRanges), ("stratum/kind.uintNumber", laid_stratum_kind_uintNumber), ("stratum/kind.intNumber", laid_stratum_kind_intNumber), ("stratum/kind.boolNumber", laid_stratum_kind_boolNumber), ("stratum/kind.textNumber", laid_stratum_kind_textNumber), ("stratum/kind.bytesNumber", laid_stratum_kind_bytesNumber), ("unicode/utf8.first", laid_unicode_utf8_first)] }
def TableCountsSaid : Prop := tableCountsRow.holds Tryd.pinned (OpenSpec.ofChange tableCountsSpec)

/-- ITS FALSE NEIGHBOUR: 'it returns false'. Refute it at one input. -/
def tableCountsWrong : ChangeSpec := { name := "tableCounts", fn := fun _ => fun
  | [d1, d2, d3] => { results := [.lit (.bool false)], args := [d1, d2, d3] }
  | _ => none }
def TableCountsWrongFalsely : Prop := tableCountsRow.holds Tryd.pinned (OpenSpec.ofChange tableCountsWrong)

/-- 'stratumlaw13.TableFits': WHATEVER THE INPUT: true; the input reads as it did. -/
def tableFitsSpec : ChangeSpec := { name := "tableFits", fn := fun _ => fun
  | [d1, d2, d3] => { results := [.lit (.bool true)], args := [d1, d2, d3] }
  | _ => none }
def tableFitsRow : OpenClaim := { program := "ytnflbnchkcigiaadoor", sum := "d878018adfda3566fcf411e363c8e69c0c19d86bcb6c964beeec27af2b8ecf82", func := "stratum/stratumlaw13.TableFits", spec := "tableFits", unfollowed := true, recurses := true, named := ["stratum/kind.uintNumber", "stratum/kind.intNumber", "stratum/kind.boolNumber", "stratum/kind.textNumber", "stratum/kind.bytesNumber", "unicode/utf8.first", "unicode/utf8.acceptRanges"], apart := false, laid := [("unicode/utf8.acceptRanges", laid_unicode_utf8_acceptRanges), ("stratum/kind.uintNumber", laid_stratum_kind_uintNumber), ("stratum/kind.intNumber", laid_stratum_kind_intNumber), ("stratum/kind.boolNumber", laid_stratum_kind_boolNumber), ("stratum/kind.textNumber", laid_stratum_kind_textNumber), ("stratum/kind.bytesNumber", laid_stratum_kind_bytesNumber), ("unicode/utf8.first", laid_unicode_utf8_first)] }
def TableFitsSaid : Prop := tableFitsRow.holds Tryd.pinned (OpenSpec.ofChange tableFitsSpec)

/-- ITS FALSE NEIGHBOUR: 'it returns false'. Refute it at one input. -/
def tableFitsWrong : ChangeSpec := { name := "tableFits", fn := fun _ => fun
  | [d1, d2, d3] => { results := [.lit (.bool false)], args := [d1, d2, d3] }
  | _ => none }
def TableFitsWrongFalsely : Prop := tableFitsRow.holds Tryd.pinned (OpenSpec.ofChange tableFitsWrong)

/-- 'stratumlaw13.TableGrows': WHATEVER THE INPUT: true; the input reads as it did. -/
def tableGrowsSpec : ChangeSpec := { name := "tableGrows", fn := fun _ => fun
  | [d] => { results := [.lit (.bool true)], args := [d] }
  | _ => none }
def tableGrowsRow : OpenClaim := { program := "ytnflbnchkcigiaadoor", sum := "d878018adfda3566fcf411e363c8e69c0c19d86bcb6c964beeec27af2b8ecf82", func := "stratum/stratumlaw13.TableGrows", spec := "tableGrows", unfollowed := true, recurses := true, named := ["stratum/kind.uintNumber", "stratum/kind.intNumber", "stratum/kind.boolNumber", "stratum/kind.textNumber", "stratum/kind.bytesNumber", "unicode/utf8.first", "unicode/utf8.acceptRanges"], apart := false, laid := [("unicode/utf8.acceptRanges", laid_unicode_utf8_acceptRanges), ("stratum/kind.uintNumber", laid_stratum_kind_uintNumber), ("stratum/kind.intNumber", laid_stratum_kind_intNumber), ("stratum/kind.boolNumber", laid_stratum_kind_boolNumber), ("stratum/kind.textNumber", laid_stratum_kind_textNumber), ("stratum/kind.bytesNumber", laid_stratum_kind_bytesNumber), ("unicode/utf8.first", laid_unicode_utf8_first)] }
def TableGrowsSaid : Prop := tableGrowsRow.holds Tryd.pinned (OpenSpec.ofChange tableGrowsSpec)

/-- ITS FALSE NEIGHBOUR: 'it returns false'. Refute it at one input. -/
def tableGrowsWrong : ChangeSpec := { name := "tableGrows", fn := fun _ => fun
  | [d] => { results := [.lit (.bool false)], args := [d] }
  | _ => none }
def TableGrowsWrongFalsely : Prop := tableGrowsRow.holds Tryd.pinned (OpenSpec.ofChange tableGrowsWrong)

/- THE SECOND FORM. 'bulk': how many values and letters a reading holds, each counted each time it is reached (what is shared counts as often as it is met; a slice's spare places count too). A statement '..UptoSaid' is the law's where the arguments, and the package variables that the reading takes, are together of bulk at most 1048576: NARROWER than '..Said'. Prove '..Said' where nothing that the law and all that it calls make is longer than what came in: it says more and counts as full. Else prove '..UptoSaid'. A law counts once. -/
mutual
def uptoBulk {H : Type} : DataW H → Nat
  | .lit (.string bytes) => bytes.length + 1
  | .lit _ => 1
  | .nil => 1
  | .ptr d => uptoBulk d + 1
  | .slice elems spare => uptoBulkAll elems + uptoBulkAll spare + 1
  | .agg parts => uptoBulkAll parts + 1
  | .iface _ d => uptoBulk d + 1
  | .map entries => uptoBulkEntries entries + 1
  | .held _ => 1
def uptoBulkAll {H : Type} : List (DataW H) → Nat
  | [] => 0
  | d :: r => uptoBulk d + uptoBulkAll r
def uptoBulkEntries {H : Type} : List (Lit × DataW H) → Nat
  | [] => 0
  | x :: r => uptoBulkEntry x + uptoBulkEntries r
def uptoBulkEntry {H : Type} : Lit × DataW H → Nat
  | (.string bytes, d) => bytes.length + uptoBulk d + 1
  | (_, d) => uptoBulk d + 1
 end
def uptoSmall : (H : Type) → List (DataW H) → Bool := fun _ ds => decide (uptoBulkAll ds ≤ 1048576)
def OpenSpec.upto (s : _root_.Go.ChangeSpec) : _root_.Go.OpenSpec := { _root_.Go.OpenSpec.ofChange s with cond := some uptoSmall }

/-- 'stratumlaw13.TableLooks', WHERE WHAT IT READS IS OF BULK AT MOST 1048576: true; the input reads as it did. -/
def tableLooksUptoRow : OpenClaim := { program := "ytnflbnchkcigiaadoor", sum := "d878018adfda3566fcf411e363c8e69c0c19d86bcb6c964beeec27af2b8ecf82", func := "stratum/stratumlaw13.TableLooks", spec := "tableLooks", unfollowed := true, recurses := true, named := ["stratum/kind.uintNumber", "stratum/kind.intNumber", "stratum/kind.boolNumber", "stratum/kind.textNumber", "stratum/kind.bytesNumber", "unicode/utf8.first", "unicode/utf8.acceptRanges"], apart := false, laid := [("unicode/utf8.acceptRanges", laid_unicode_utf8_acceptRanges), ("stratum/kind.uintNumber", laid_stratum_kind_uintNumber), ("stratum/kind.intNumber", laid_stratum_kind_intNumber), ("stratum/kind.boolNumber", laid_stratum_kind_boolNumber), ("stratum/kind.textNumber", laid_stratum_kind_textNumber), ("stratum/kind.bytesNumber", laid_stratum_kind_bytesNumber), ("unicode/utf8.first", laid_unicode_utf8_first)], narrowed := true }
def TableLooksUptoSaid : Prop := tableLooksUptoRow.holds Tryd.pinned (OpenSpec.upto tableLooksSpec)

/-- 'stratumlaw13.TableTyped', WHERE WHAT IT READS IS OF BULK AT MOST 1048576: true; the input reads as it did. -/
def tableTypedUptoRow : OpenClaim := { program := "ytnflbnchkcigiaadoor", sum := "d878018adfda3566fcf411e363c8e69c0c19d86bcb6c964beeec27af2b8ecf82", func := "stratum/stratumlaw13.TableTyped", spec := "tableTyped", unfollowed := true, recurses := true, named := ["stratum/kind.uintNumber", "stratum/kind.intNumber", "stratum/kind.boolNumber", "stratum/kind.textNumber", "stratum/kind.bytesNumber", "unicode/utf8.first", "unicode/utf8.acceptRanges"], apart := false, laid := [("unicode/utf8.acceptRanges", laid_unicode_utf8_acceptRanges), ("stratum/kind.uintNumber", laid_stratum_kind_uintNumber), ("stratum/kind.intNumber", laid_stratum_kind_intNumber), ("stratum/kind.boolNumber", laid_stratum_kind_boolNumber), ("stratum/kind.textNumber", laid_stratum_kind_textNumber), ("stratum/kind.bytesNumber", laid_stratum_kind_bytesNumber), ("unicode/utf8.first", laid_unicode_utf8_first)], narrowed := true }
def TableTypedUptoSaid : Prop := tableTypedUptoRow.holds Tryd.pinned (OpenSpec.upto tableTypedSpec)

/-- 'stratumlaw13.TableExtends', WHERE WHAT IT READS IS OF BULK AT MOST 1048576: true; the input reads as it did. -/
def tableExtendsUptoRow : OpenClaim := { program := "ytnflbnchkcigiaadoor", sum := "d878018adfda3566fcf411e363c8e69c0c19d86bcb6c964beeec27af2b8ecf82", func := "stratum/stratumlaw13.TableExtends", spec := "tableExtends", unfollowed := true, recurses := true, named := ["stratum/kind.uintNumber", "stratum/kind.intNumber", "stratum/kind.boolNumber", "stratum/kind.textNumber", "stratum/kind.bytesNumber", "unicode/utf8.first", "unicode/utf8.acceptRanges"], apart := false, laid := [("unicode/utf8.acceptRanges", laid_unicode_utf8_acceptRanges), ("stratum/kind.uintNumber", laid_stratum_kind_uintNumber), ("stratum/kind.intNumber", laid_stratum_kind_intNumber), ("stratum/kind.boolNumber", laid_stratum_kind_boolNumber), ("stratum/kind.textNumber", laid_stratum_kind_textNumber), ("stratum/kind.bytesNumber", laid_stratum_kind_bytesNumber), ("unicode/utf8.first", laid_unicode_utf8_first)], narrowed := true }
def TableExtendsUptoSaid : Prop := tableExtendsUptoRow.holds Tryd.pinned (OpenSpec.upto tableExtendsSpec)

/-- 'stratumlaw13.TableMemory', WHERE WHAT IT READS IS OF BULK AT MOST 1048576: true; the input reads as it did. -/
def tableMemoryUptoRow : OpenClaim := { program := "ytnflbnchkcigiaadoor", sum := "d878018adfda3566fcf411e363c8e69c0c19d86bcb6c964beeec27af2b8ecf82", func := "stratum/stratumlaw13.TableMemory", spec := "tableMemory", unfollowed := true, recurses := true, named := ["stratum/kind.uintNumber", "stratum/kind.intNumber", "stratum/kind.boolNumber", "stratum/kind.textNumber", "stratum/kind.bytesNumber", "unicode/utf8.first", "unicode/utf8.acceptRanges"], apart := false, laid := [("unicode/utf8.acceptRanges", laid_unicode_utf8_acceptRanges), ("stratum/kind.uintNumber", laid_stratum_kind_uintNumber), ("stratum/kind.intNumber", laid_stratum_kind_intNumber), ("stratum/kind.boolNumber", laid_stratum_kind_boolNumber), ("stratum/kind.textNumber", laid_stratum_kind_textNumber), ("stratum/kind.bytesNumber", laid_stratum_kind_bytesNumber), ("unicode/utf8.first", laid_unicode_utf8_first)], narrowed := true }
def TableMemoryUptoSaid : Prop := tableMemoryUptoRow.holds Tryd.pinned (OpenSpec.upto tableMemorySpec)

/-- 'stratumlaw13.TableCounts', WHERE WHAT IT READS IS OF BULK AT MOST 1048576: true; the input reads as it did. -/
def tableCountsUptoRow : OpenClaim := { program := "ytnflbnchkcigiaadoor", sum := "d878018adfda3566fcf411e363c8e69c0c19d86bcb6c964beeec27af2b8ecf82", func := "stratum/stratumlaw13.TableCounts", spec := "tableCounts", unfollowed := true, recurses := true, named := ["stratum/kind.uintNumber", "stratum/kind.intNumber", "stratum/kind.boolNumber", "stratum/kind.textNumber", "stratum/kind.bytesNumber", "unicode/utf8.first", "unicode/utf8.acceptRanges"], apart := false, laid := [("unicode/utf8.acceptRanges", laid_unicode_utf8_acceptRanges), ("stratum/kind.uintNumber", laid_stratum_kind_uintNumber), ("stratum/kind.intNumber", laid_stratum_kind_intNumber), ("stratum/kind.boolNumber", laid_stratum_kind_boolNumber), ("stratum/kind.textNumber", laid_stratum_kind_textNumber), ("stratum/kind.bytesNumber", laid_stratum_kind_bytesNumber), ("unicode/utf8.first", laid_unicode_utf8_first)], narrowed := true }
def TableCountsUptoSaid : Prop := tableCountsUptoRow.holds Tryd.pinned (OpenSpec.upto tableCountsSpec)

/-- 'stratumlaw13.TableFits', WHERE WHAT IT READS IS OF BULK AT MOST 1048576: true; the input reads as it did. -/
def tableFitsUptoRow : OpenClaim := { program := "ytnflbnchkcigiaadoor", sum := "d878018adfda3566fcf411e363c8e69c0c19d86bcb6c964beeec27af2b8ecf82", func := "stratum/stratumlaw13.TableFits", spec := "tableFits", unfollowed := true, recurses := true, named := ["stratum/kind.uintNumber", "stratum/kind.intNumber", "stratum/kind.boolNumber", "stratum/kind.textNumber", "stratum/kind.bytesNumber", "unicode/utf8.first", "unicode/utf8.acceptRanges"], apart := false, laid := [("unicode/utf8.acceptRanges", laid_unicode_utf8_acceptRanges), ("stratum/kind.uintNumber", laid_stratum_kind_uintNumber), ("stratum/kind.intNumber", laid_stratum_kind_intNumber), ("stratum/kind.boolNumber", laid_stratum_kind_boolNumber), ("stratum/kind.textNumber", laid_stratum_kind_textNumber), ("stratum/kind.bytesNumber", laid_stratum_kind_bytesNumber), ("unicode/utf8.first", laid_unicode_utf8_first)], narrowed := true }
def TableFitsUptoSaid : Prop := tableFitsUptoRow.holds Tryd.pinned (OpenSpec.upto tableFitsSpec)

/-- 'stratumlaw13.TableGrows', WHERE WHAT IT READS IS OF BULK AT MOST 1048576: true; the input reads as it did. -/
def tableGrowsUptoRow : OpenClaim := { program := "ytnflbnchkcigiaadoor", sum := "d878018adfda3566fcf411e363c8e69c0c19d86bcb6c964beeec27af2b8ecf82", func := "stratum/stratumlaw13.TableGrows", spec := "tableGrows", unfollowed := true, recurses := true, named := ["stratum/kind.uintNumber", "stratum/kind.intNumber", "stratum/kind.boolNumber", "stratum/kind.textNumber", "stratum/kind.bytesNumber", "unicode/utf8.first", "unicode/utf8.acceptRanges"], apart := false, laid := [("unicode/utf8.acceptRanges", laid_unicode_utf8_acceptRanges), ("stratum/kind.uintNumber", laid_stratum_kind_uintNumber), ("stratum/kind.intNumber", laid_stratum_kind_intNumber), ("stratum/kind.boolNumber", laid_stratum_kind_boolNumber), ("stratum/kind.textNumber", laid_stratum_kind_textNumber), ("stratum/kind.bytesNumber", laid_stratum_kind_bytesNumber), ("unicode/utf8.first", laid_unicode_utf8_first)], narrowed := true }
def TableGrowsUptoSaid : Prop := tableGrowsUptoRow.holds Tryd.pinned (OpenSpec.upto tableGrowsSpec)

end Rows
end Go.Proofs.YtnflbnchkcigiaaDoor
