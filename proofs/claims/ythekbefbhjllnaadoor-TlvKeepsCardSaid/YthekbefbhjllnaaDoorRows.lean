/-
  NARROWER THAN 'FOR EVERY INPUT', by the rows' own cells (each row's printed sentence says how): TlvMakes: laid · TlvTakes: laid · TlvBack: laid · TlvForth: laid · TlvPieces: laid · TlvField: laid · TlvTurned: laid · TlvKeeps: laid.
  DERIVED. THE GIVEN ROWS OF THIS SEAT. 8 by the template 'for every input the law returns true; each argument reads behind the call as it read before'; 0 by the template 'total and deterministic' (their statements: YthekbefbhjllnaaDoorTotals.lean).
  GIVEN WITH THE SEED: the statements are not yours to turn. If you find one false, say at which input.
  Laid BY PROGRAM, IN A SANDBOX (cutbox-rows.mjs): the forced cells as the released guide's own fill.sh prints them over the translation 0602c9c17e6da907… (all of the seat's roots in one cut). By AI agents, Wed Nov 11 2026. No macro, syntax, notation, axiom, sorry.
-/
import Derived.Test.YthekbefbhjllnaaDoorChecked
import GoSem.PinnedTables
import GoSem.Claim
import GoSem.ClaimJoined
import GoSem.ClaimMapViews
import Derived.JoinedTies
import Derived.KernelRfl
namespace Go.Proofs.YthekbefbhjllnaaDoor
/- THE CELL 'sum', in the pinned program and in every row, IS THE sha256 OF THE DUMP (.gsa) THAT YthekbefbhjllnaaDoorProg.lean LOADS. Nothing in Lean hashes anything: it is a label: what it is worth is what the hold of that sum in a sandbox is worth. -/
noncomputable def Tryd.pinned : Pinned := { name := "ythekbefbhjllnaadoor", sum := "0602c9c17e6da907ed865364e8a55ca73f11ba91bf81ec84ca802a4c490efe52", checked := Tryd.checked }
namespace Rows
def none {H : Type} : Left H := { results := [], args := [] }

/- WHAT THE LISTED PACKAGE-LEVEL VARIABLES READ AS WHEN THE CALL BEGINS. Each datum BY PROGRAM (the guide's laid-datum.mjs) off the statement by which the dump's own 'gosem.cut.vars' lays the variable. In a bare row this is a premise. The card (YthekbefbhjllnaaDoorCards.lean) ties it to the program's text. -/
def laid_unicode_utf8_acceptRanges {H : Type} : DataW H := .agg [.agg [.lit (.int .u8 128), .lit (.int .u8 191)], .agg [.lit (.int .u8 160), .lit (.int .u8 191)], .agg [.lit (.int .u8 128), .lit (.int .u8 159)], .agg [.lit (.int .u8 144), .lit (.int .u8 191)], .agg [.lit (.int .u8 128), .lit (.int .u8 143)], .agg [.lit (.int .u8 0), .lit (.int .u8 0)], .agg [.lit (.int .u8 0), .lit (.int .u8 0)], .agg [.lit (.int .u8 0), .lit (.int .u8 0)], .agg [.lit (.int .u8 0), .lit (.int .u8 0)], .agg [.lit (.int .u8 0), .lit (.int .u8 0)], .agg [.lit (.int .u8 0), .lit (.int .u8 0)], .agg [.lit (.int .u8 0), .lit (.int .u8 0)], .agg [.lit (.int .u8 0), .lit (.int .u8 0)], .agg [.lit (.int .u8 0), .lit (.int .u8 0)], .agg [.lit (.int .u8 0), .lit (.int .u8 0)], .agg [.lit (.int .u8 0), .lit (.int .u8 0)]]
def laid_stratum_kind_uintNumber {H : Type} : DataW H := .lit (.int .i64 1)
def laid_stratum_kind_intNumber {H : Type} : DataW H := .lit (.int .i64 2)
def laid_stratum_kind_boolNumber {H : Type} : DataW H := .lit (.int .i64 3)
def laid_stratum_kind_textNumber {H : Type} : DataW H := .lit (.int .i64 4)
def laid_stratum_kind_bytesNumber {H : Type} : DataW H := .lit (.int .i64 5)
/-- One of Go's own tables, pinned by name: the form's constant. -/
def laid_unicode_utf8_first : DataW Unit := Go.Pinned.utf8First

/-- 'stratumlaw05.TlvMakes': WHATEVER THE INPUT: true; the input reads as it did. -/
def tlvMakesSpec : ChangeSpec := { name := "tlvMakes", fn := fun _ => fun
  | [d] => { results := [.lit (.bool true)], args := [d] }
  | _ => none }
def tlvMakesRow : OpenClaim := { program := "ythekbefbhjllnaadoor", sum := "0602c9c17e6da907ed865364e8a55ca73f11ba91bf81ec84ca802a4c490efe52", func := "stratum/stratumlaw05.TlvMakes", spec := "tlvMakes", named := ["stratum/kind.uintNumber", "stratum/kind.textNumber", "stratum/kind.intNumber", "stratum/kind.boolNumber", "stratum/kind.bytesNumber", "unicode/utf8.first", "unicode/utf8.acceptRanges"], apart := false, laid := [("unicode/utf8.acceptRanges", laid_unicode_utf8_acceptRanges), ("stratum/kind.uintNumber", laid_stratum_kind_uintNumber), ("stratum/kind.intNumber", laid_stratum_kind_intNumber), ("stratum/kind.boolNumber", laid_stratum_kind_boolNumber), ("stratum/kind.textNumber", laid_stratum_kind_textNumber), ("stratum/kind.bytesNumber", laid_stratum_kind_bytesNumber), ("unicode/utf8.first", laid_unicode_utf8_first)] }
def TlvMakesSaid : Prop := tlvMakesRow.holds Tryd.pinned (OpenSpec.ofChange tlvMakesSpec)

/-- ITS FALSE NEIGHBOUR: 'it returns false'. Refute it at one input. -/
def tlvMakesWrong : ChangeSpec := { name := "tlvMakes", fn := fun _ => fun
  | [d] => { results := [.lit (.bool false)], args := [d] }
  | _ => none }
def TlvMakesWrongFalsely : Prop := tlvMakesRow.holds Tryd.pinned (OpenSpec.ofChange tlvMakesWrong)

/-- 'stratumlaw05.TlvTakes': WHATEVER THE INPUT: true; the input reads as it did. -/
def tlvTakesSpec : ChangeSpec := { name := "tlvTakes", fn := fun _ => fun
  | [d] => { results := [.lit (.bool true)], args := [d] }
  | _ => none }
def tlvTakesRow : OpenClaim := { program := "ythekbefbhjllnaadoor", sum := "0602c9c17e6da907ed865364e8a55ca73f11ba91bf81ec84ca802a4c490efe52", func := "stratum/stratumlaw05.TlvTakes", spec := "tlvTakes", named := ["stratum/kind.uintNumber", "stratum/kind.textNumber", "stratum/kind.intNumber", "stratum/kind.boolNumber", "stratum/kind.bytesNumber", "unicode/utf8.first", "unicode/utf8.acceptRanges"], apart := false, laid := [("unicode/utf8.acceptRanges", laid_unicode_utf8_acceptRanges), ("stratum/kind.uintNumber", laid_stratum_kind_uintNumber), ("stratum/kind.intNumber", laid_stratum_kind_intNumber), ("stratum/kind.boolNumber", laid_stratum_kind_boolNumber), ("stratum/kind.textNumber", laid_stratum_kind_textNumber), ("stratum/kind.bytesNumber", laid_stratum_kind_bytesNumber), ("unicode/utf8.first", laid_unicode_utf8_first)] }
def TlvTakesSaid : Prop := tlvTakesRow.holds Tryd.pinned (OpenSpec.ofChange tlvTakesSpec)

/-- ITS FALSE NEIGHBOUR: 'it returns false'. Refute it at one input. -/
def tlvTakesWrong : ChangeSpec := { name := "tlvTakes", fn := fun _ => fun
  | [d] => { results := [.lit (.bool false)], args := [d] }
  | _ => none }
def TlvTakesWrongFalsely : Prop := tlvTakesRow.holds Tryd.pinned (OpenSpec.ofChange tlvTakesWrong)

/-- 'stratumlaw05.TlvBack': WHATEVER THE INPUT: true; the input reads as it did. -/
def tlvBackSpec : ChangeSpec := { name := "tlvBack", fn := fun _ => fun
  | [d] => { results := [.lit (.bool true)], args := [d] }
  | _ => none }
def tlvBackRow : OpenClaim := { program := "ythekbefbhjllnaadoor", sum := "0602c9c17e6da907ed865364e8a55ca73f11ba91bf81ec84ca802a4c490efe52", func := "stratum/stratumlaw05.TlvBack", spec := "tlvBack", named := ["stratum/kind.uintNumber", "stratum/kind.textNumber", "stratum/kind.intNumber", "stratum/kind.boolNumber", "stratum/kind.bytesNumber", "unicode/utf8.first", "unicode/utf8.acceptRanges"], apart := false, laid := [("unicode/utf8.acceptRanges", laid_unicode_utf8_acceptRanges), ("stratum/kind.uintNumber", laid_stratum_kind_uintNumber), ("stratum/kind.intNumber", laid_stratum_kind_intNumber), ("stratum/kind.boolNumber", laid_stratum_kind_boolNumber), ("stratum/kind.textNumber", laid_stratum_kind_textNumber), ("stratum/kind.bytesNumber", laid_stratum_kind_bytesNumber), ("unicode/utf8.first", laid_unicode_utf8_first)] }
def TlvBackSaid : Prop := tlvBackRow.holds Tryd.pinned (OpenSpec.ofChange tlvBackSpec)

/-- ITS FALSE NEIGHBOUR: 'it returns false'. Refute it at one input. -/
def tlvBackWrong : ChangeSpec := { name := "tlvBack", fn := fun _ => fun
  | [d] => { results := [.lit (.bool false)], args := [d] }
  | _ => none }
def TlvBackWrongFalsely : Prop := tlvBackRow.holds Tryd.pinned (OpenSpec.ofChange tlvBackWrong)

/-- 'stratumlaw05.TlvForth': WHATEVER THE INPUT: true; the input reads as it did. -/
def tlvForthSpec : ChangeSpec := { name := "tlvForth", fn := fun _ => fun
  | [d] => { results := [.lit (.bool true)], args := [d] }
  | _ => none }
def tlvForthRow : OpenClaim := { program := "ythekbefbhjllnaadoor", sum := "0602c9c17e6da907ed865364e8a55ca73f11ba91bf81ec84ca802a4c490efe52", func := "stratum/stratumlaw05.TlvForth", spec := "tlvForth", named := ["stratum/kind.uintNumber", "stratum/kind.textNumber", "stratum/kind.intNumber", "stratum/kind.boolNumber", "stratum/kind.bytesNumber", "unicode/utf8.first", "unicode/utf8.acceptRanges"], apart := false, laid := [("unicode/utf8.acceptRanges", laid_unicode_utf8_acceptRanges), ("stratum/kind.uintNumber", laid_stratum_kind_uintNumber), ("stratum/kind.intNumber", laid_stratum_kind_intNumber), ("stratum/kind.boolNumber", laid_stratum_kind_boolNumber), ("stratum/kind.textNumber", laid_stratum_kind_textNumber), ("stratum/kind.bytesNumber", laid_stratum_kind_bytesNumber), ("unicode/utf8.first", laid_unicode_utf8_first)] }
def TlvForthSaid : Prop := tlvForthRow.holds Tryd.pinned (OpenSpec.ofChange tlvForthSpec)

/-- ITS FALSE NEIGHBOUR: 'it returns false'. Refute it at one input. -/
def tlvForthWrong : ChangeSpec := { name := "tlvForth", fn := fun _ => fun
  | [d] => { results := [.lit (.bool false)], args := [d] }
  | _ => none }
def TlvForthWrongFalsely : Prop := tlvForthRow.holds Tryd.pinned (OpenSpec.ofChange tlvForthWrong)

/-- 'stratumlaw05.TlvPieces': WHATEVER THE INPUT: true; the input reads as it did. -/
def tlvPiecesSpec : ChangeSpec := { name := "tlvPieces", fn := fun _ => fun
  | [d1, d2] => { results := [.lit (.bool true)], args := [d1, d2] }
  | _ => none }
def tlvPiecesRow : OpenClaim := { program := "ythekbefbhjllnaadoor", sum := "0602c9c17e6da907ed865364e8a55ca73f11ba91bf81ec84ca802a4c490efe52", func := "stratum/stratumlaw05.TlvPieces", spec := "tlvPieces", named := ["stratum/kind.uintNumber", "stratum/kind.textNumber", "stratum/kind.intNumber", "stratum/kind.boolNumber", "stratum/kind.bytesNumber", "unicode/utf8.first", "unicode/utf8.acceptRanges"], apart := false, laid := [("unicode/utf8.acceptRanges", laid_unicode_utf8_acceptRanges), ("stratum/kind.uintNumber", laid_stratum_kind_uintNumber), ("stratum/kind.intNumber", laid_stratum_kind_intNumber), ("stratum/kind.boolNumber", laid_stratum_kind_boolNumber), ("stratum/kind.textNumber", laid_stratum_kind_textNumber), ("stratum/kind.bytesNumber", laid_stratum_kind_bytesNumber), ("unicode/utf8.first", laid_unicode_utf8_first)] }
def TlvPiecesSaid : Prop := tlvPiecesRow.holds Tryd.pinned (OpenSpec.ofChange tlvPiecesSpec)

/-- ITS FALSE NEIGHBOUR: 'it returns false'. Refute it at one input. -/
def tlvPiecesWrong : ChangeSpec := { name := "tlvPieces", fn := fun _ => fun
  | [d1, d2] => { results := [.lit (.bool false)], args := [d1, d2] }
  | _ => none }
def TlvPiecesWrongFalsely : Prop := tlvPiecesRow.holds Tryd.pinned (OpenSpec.ofChange tlvPiecesWrong)

/-- 'stratumlaw05.TlvField': WHATEVER THE INPUT: true; the input reads as it did. -/
def tlvFieldSpec : ChangeSpec := { name := "tlvField", fn := fun _ => fun
  | [d] => { results := [.lit (.bool true)], args := [d] }
  | _ => none }
def tlvFieldRow : OpenClaim := { program := "ythekbefbhjllnaadoor", sum := "0602c9c17e6da907ed865364e8a55ca73f11ba91bf81ec84ca802a4c490efe52", func := "stratum/stratumlaw05.TlvField", spec := "tlvField", named := ["stratum/kind.uintNumber", "stratum/kind.textNumber", "stratum/kind.intNumber", "stratum/kind.boolNumber", "stratum/kind.bytesNumber", "unicode/utf8.first", "unicode/utf8.acceptRanges"], apart := false, laid := [("unicode/utf8.acceptRanges", laid_unicode_utf8_acceptRanges), ("stratum/kind.uintNumber", laid_stratum_kind_uintNumber), ("stratum/kind.intNumber", laid_stratum_kind_intNumber), ("stratum/kind.boolNumber", laid_stratum_kind_boolNumber), ("stratum/kind.textNumber", laid_stratum_kind_textNumber), ("stratum/kind.bytesNumber", laid_stratum_kind_bytesNumber), ("unicode/utf8.first", laid_unicode_utf8_first)] }
def TlvFieldSaid : Prop := tlvFieldRow.holds Tryd.pinned (OpenSpec.ofChange tlvFieldSpec)

/-- ITS FALSE NEIGHBOUR: 'it returns false'. Refute it at one input. -/
def tlvFieldWrong : ChangeSpec := { name := "tlvField", fn := fun _ => fun
  | [d] => { results := [.lit (.bool false)], args := [d] }
  | _ => none }
def TlvFieldWrongFalsely : Prop := tlvFieldRow.holds Tryd.pinned (OpenSpec.ofChange tlvFieldWrong)

/-- 'stratumlaw05.TlvTurned': WHATEVER THE INPUT: true; the input reads as it did. -/
def tlvTurnedSpec : ChangeSpec := { name := "tlvTurned", fn := fun _ => fun
  | [d1, d2, d3] => { results := [.lit (.bool true)], args := [d1, d2, d3] }
  | _ => none }
def tlvTurnedRow : OpenClaim := { program := "ythekbefbhjllnaadoor", sum := "0602c9c17e6da907ed865364e8a55ca73f11ba91bf81ec84ca802a4c490efe52", func := "stratum/stratumlaw05.TlvTurned", spec := "tlvTurned", named := ["stratum/kind.uintNumber", "stratum/kind.textNumber", "stratum/kind.intNumber", "stratum/kind.boolNumber", "stratum/kind.bytesNumber", "unicode/utf8.first", "unicode/utf8.acceptRanges"], apart := false, laid := [("unicode/utf8.acceptRanges", laid_unicode_utf8_acceptRanges), ("stratum/kind.uintNumber", laid_stratum_kind_uintNumber), ("stratum/kind.intNumber", laid_stratum_kind_intNumber), ("stratum/kind.boolNumber", laid_stratum_kind_boolNumber), ("stratum/kind.textNumber", laid_stratum_kind_textNumber), ("stratum/kind.bytesNumber", laid_stratum_kind_bytesNumber), ("unicode/utf8.first", laid_unicode_utf8_first)] }
def TlvTurnedSaid : Prop := tlvTurnedRow.holds Tryd.pinned (OpenSpec.ofChange tlvTurnedSpec)

/-- ITS FALSE NEIGHBOUR: 'it returns false'. Refute it at one input. -/
def tlvTurnedWrong : ChangeSpec := { name := "tlvTurned", fn := fun _ => fun
  | [d1, d2, d3] => { results := [.lit (.bool false)], args := [d1, d2, d3] }
  | _ => none }
def TlvTurnedWrongFalsely : Prop := tlvTurnedRow.holds Tryd.pinned (OpenSpec.ofChange tlvTurnedWrong)

/-- 'stratumlaw05.TlvKeeps': WHATEVER THE INPUT: true; the input reads as it did. -/
def tlvKeepsSpec : ChangeSpec := { name := "tlvKeeps", fn := fun _ => fun
  | [d] => { results := [.lit (.bool true)], args := [d] }
  | _ => none }
def tlvKeepsRow : OpenClaim := { program := "ythekbefbhjllnaadoor", sum := "0602c9c17e6da907ed865364e8a55ca73f11ba91bf81ec84ca802a4c490efe52", func := "stratum/stratumlaw05.TlvKeeps", spec := "tlvKeeps", named := ["stratum/kind.uintNumber", "stratum/kind.textNumber", "stratum/kind.intNumber", "stratum/kind.boolNumber", "stratum/kind.bytesNumber", "unicode/utf8.first", "unicode/utf8.acceptRanges"], apart := false, laid := [("unicode/utf8.acceptRanges", laid_unicode_utf8_acceptRanges), ("stratum/kind.uintNumber", laid_stratum_kind_uintNumber), ("stratum/kind.intNumber", laid_stratum_kind_intNumber), ("stratum/kind.boolNumber", laid_stratum_kind_boolNumber), ("stratum/kind.textNumber", laid_stratum_kind_textNumber), ("stratum/kind.bytesNumber", laid_stratum_kind_bytesNumber), ("unicode/utf8.first", laid_unicode_utf8_first)] }
def TlvKeepsSaid : Prop := tlvKeepsRow.holds Tryd.pinned (OpenSpec.ofChange tlvKeepsSpec)

/-- ITS FALSE NEIGHBOUR: 'it returns false'. Refute it at one input. -/
def tlvKeepsWrong : ChangeSpec := { name := "tlvKeeps", fn := fun _ => fun
  | [d] => { results := [.lit (.bool false)], args := [d] }
  | _ => none }
def TlvKeepsWrongFalsely : Prop := tlvKeepsRow.holds Tryd.pinned (OpenSpec.ofChange tlvKeepsWrong)

/- THE SECOND FORM. 'bulk': how many values and letters a reading holds, each counted each time it is reached (what is shared counts as often as it is met; a slice's spare places count too). A statement '..UptoSaid' is the law's where the arguments, and the package variables that the reading takes, are together of bulk at most 1048576: NARROWER than '..Said'. Prove '..Said' where nothing that the law and all that it calls make is longer than what came in: it says more and counts as full. Else prove '..UptoSaid'. A law counts once. -/
mutual
def uptoBulk {H : Type} : DataW H → Nat
  | .lit (.string bytes) => bytes.length + 1
  | .lit _ => 1
  | .nil => 1
  | .ptr d => uptoBulk d + 1
  | .slice elems spare => uptoBulkAll elems + uptoBulkAll spare + 1
  | .agg parts => uptoBulkAll parts + 1
  | .iface _ d => uptoBulk d + 1
  | .map entries => uptoBulkEntries entries + 1
  | .held _ => 1
def uptoBulkAll {H : Type} : List (DataW H) → Nat
  | [] => 0
  | d :: r => uptoBulk d + uptoBulkAll r
def uptoBulkEntries {H : Type} : List (Lit × DataW H) → Nat
  | [] => 0
  | x :: r => uptoBulkEntry x + uptoBulkEntries r
def uptoBulkEntry {H : Type} : Lit × DataW H → Nat
  | (.string bytes, d) => bytes.length + uptoBulk d + 1
  | (_, d) => uptoBulk d + 1
 end
def uptoSmall : (H : Type) → List (DataW H) → Bool := fun _ ds => decide (uptoBulkAll ds ≤ 1048576)
def OpenSpec.upto (s : _root_.Go.ChangeSpec) : _root_.Go.OpenSpec := { _root_.Go.OpenSpec.ofChange s with cond := some uptoSmall }

/-- 'stratumlaw05.TlvMakes', WHERE WHAT IT READS IS OF BULK AT MOST 1048576: true; the input reads as it did. -/
def tlvMakesUptoRow : OpenClaim := { program := "ythekbefbhjllnaadoor", sum := "0602c9c17e6da907ed865364e8a55ca73f11ba91bf81ec84ca802a4c490efe52", func := "stratum/stratumlaw05.TlvMakes", spec := "tlvMakes", named := ["stratum/kind.uintNumber", "stratum/kind.textNumber", "stratum/kind.intNumber", "stratum/kind.boolNumber", "stratum/kind.bytesNumber", "unicode/utf8.first", "unicode/utf8.acceptRanges"], apart := false, laid := [("unicode/utf8.acceptRanges", laid_unicode_utf8_acceptRanges), ("stratum/kind.uintNumber", laid_stratum_kind_uintNumber), ("stratum/kind.intNumber", laid_stratum_kind_intNumber), ("stratum/kind.boolNumber", laid_stratum_kind_boolNumber), ("stratum/kind.textNumber", laid_stratum_kind_textNumber), ("stratum/kind.bytesNumber", laid_stratum_kind_bytesNumber), ("unicode/utf8.first", laid_unicode_utf8_first)], narrowed := true }
def TlvMakesUptoSaid : Prop := tlvMakesUptoRow.holds Tryd.pinned (OpenSpec.upto tlvMakesSpec)

/-- 'stratumlaw05.TlvTakes', WHERE WHAT IT READS IS OF BULK AT MOST 1048576: true; the input reads as it did. -/
def tlvTakesUptoRow : OpenClaim := { program := "ythekbefbhjllnaadoor", sum := "0602c9c17e6da907ed865364e8a55ca73f11ba91bf81ec84ca802a4c490efe52", func := "stratum/stratumlaw05.TlvTakes", spec := "tlvTakes", named := ["stratum/kind.uintNumber", "stratum/kind.textNumber", "stratum/kind.intNumber", "stratum/kind.boolNumber", "stratum/kind.bytesNumber", "unicode/utf8.first", "unicode/utf8.acceptRanges"], apart := false, laid := [("unicode/utf8.acceptRanges", laid_unicode_utf8_acceptRanges), ("stratum/kind.uintNumber", laid_stratum_kind_uintNumber), ("stratum/kind.intNumber", laid_stratum_kind_intNumber), ("stratum/kind.boolNumber", laid_stratum_kind_boolNumber), ("stratum/kind.textNumber", laid_stratum_kind_textNumber), ("stratum/kind.bytesNumber", laid_stratum_kind_bytesNumber), ("unicode/utf8.first", laid_unicode_utf8_first)], narrowed := true }
def TlvTakesUptoSaid : Prop := tlvTakesUptoRow.holds Tryd.pinned (OpenSpec.upto tlvTakesSpec)

/-- 'stratumlaw05.TlvBack', WHERE WHAT IT READS IS OF BULK AT MOST 1048576: true; the input reads as it did. -/
def tlvBackUptoRow : OpenClaim := { program := "ythekbefbhjllnaadoor", sum := "0602c9c17e6da907ed865364e8a55ca73f11ba91bf81ec84ca802a4c490efe52", func := "stratum/stratumlaw05.TlvBack", spec := "tlvBack", named := ["stratum/kind.uintNumber", "stratum/kind.textNumber", "stratum/kind.intNumber", "stratum/kind.boolNumber", "stratum/kind.bytesNumber", "unicode/utf8.first", "unicode/utf8.acceptRanges"], apart := false, laid := [("unicode/utf8.acceptRanges", laid_unicode_utf8_acceptRanges), ("stratum/kind.uintNumber", laid_stratum_kind_uintNumber), ("stratum/kind.intNumber", laid_stratum_kind_intNumber), ("stratum/kind.boolNumber", laid_stratum_kind_boolNumber), ("stratum/kind.textNumber", laid_stratum_kind_textNumber), ("stratum/kind.bytesNumber", laid_stratum_kind_bytesNumber), ("unicode/utf8.first", laid_unicode_utf8_first)], narrowed := true }
def TlvBackUptoSaid : Prop := tlvBackUptoRow.holds Tryd.pinned (OpenSpec.upto tlvBackSpec)

/-- 'stratumlaw05.TlvForth', WHERE WHAT IT READS IS OF BULK AT MOST 1048576: true; the input reads as it did. -/
def tlvForthUptoRow : OpenClaim := { program := "ythekbefbhjllnaadoor", sum := "0602c9c17e6da907ed865364e8a55ca73f11ba91bf81ec84ca802a4c490efe52", func := "stratum/stratumlaw05.TlvForth", spec := "tlvForth", named := ["stratum/kind.uintNumber", "stratum/kind.textNumber", "stratum/kind.intNumber", "stratum/kind.boolNumber", "stratum/kind.bytesNumber", "unicode/utf8.first", "unicode/utf8.acceptRanges"], apart := false, laid := [("unicode/utf8.acceptRanges", laid_unicode_utf8_acceptRanges), ("stratum/kind.uintNumber", laid_stratum_kind_uintNumber), ("stratum/kind.intNumber", laid_stratum_kind_intNumber), ("stratum/kind.boolNumber", laid_stratum_kind_boolNumber), ("stratum/kind.textNumber", laid_stratum_kind_textNumber), ("stratum/kind.bytesNumber", laid_stratum_kind_bytesNumber), ("unicode/utf8.first", laid_unicode_utf8_first)], narrowed := true }
def TlvForthUptoSaid : Prop := tlvForthUptoRow.holds Tryd.pinned (OpenSpec.upto tlvForthSpec)

/-- 'stratumlaw05.TlvPieces', WHERE WHAT IT READS IS OF BULK AT MOST 1048576: true; the input reads as it did. -/
def tlvPiecesUptoRow : OpenClaim := { program := "ythekbefbhjllnaadoor", sum := "0602c9c17e6da907ed865364e8a55ca73f11ba91bf81ec84ca802a4c490efe52", func := "stratum/stratumlaw05.TlvPieces", spec := "tlvPieces", named := ["stratum/kind.uintNumber", "stratum/kind.textNumber", "stratum/kind.intNumber", "stratum/kind.boolNumber", "stratum/kind.bytesNumber", "unicode/utf8.first", "unicode/utf8.acceptRanges"], apart := false, laid := [("unicode/utf8.acceptRanges", laid_unicode_utf8_acceptRanges), ("stratum/kind.uintNumber", laid_stratum_kind_uintNumber), ("stratum/kind.intNumber", laid_stratum_kind_intNumber), ("stratum/kind.boolNumber", laid_stratum_kind_boolNumber), ("stratum/kind.textNumber", laid_stratum_kind_textNumber), ("stratum/kind.bytesNumber", laid_stratum_kind_bytesNumber), ("unicode/utf8.first", laid_unicode_utf8_first)], narrowed := true }
def TlvPiecesUptoSaid : Prop := tlvPiecesUptoRow.holds Tryd.pinned (OpenSpec.upto tlvPiecesSpec)

/-- 'stratumlaw05.TlvField', WHERE WHAT IT READS IS OF BULK AT MOST 1048576: true; the input reads as it did. -/
def tlvFieldUptoRow : OpenClaim := { program := "ythekbefbhjllnaadoor", sum := "0602c9c17e6da907ed865364e8a55ca73f11ba91bf81ec84ca802a4c490efe52", func := "stratum/stratumlaw05.TlvField", spec := "tlvField", named := ["stratum/kind.uintNumber", "stratum/kind.textNumber", "stratum/kind.intNumber", "stratum/kind.boolNumber", "stratum/kind.bytesNumber", "unicode/utf8.first", "unicode/utf8.acceptRanges"], apart := false, laid := [("unicode/utf8.acceptRanges", laid_unicode_utf8_acceptRanges), ("stratum/kind.uintNumber", laid_stratum_kind_uintNumber), ("stratum/kind.intNumber", laid_stratum_kind_intNumber), ("stratum/kind.boolNumber", laid_stratum_kind_boolNumber), ("stratum/kind.textNumber", laid_stratum_kind_textNumber), ("stratum/kind.bytesNumber", laid_stratum_kind_bytesNumber), ("unicode/utf8.first", laid_unicode_utf8_first)], narrowed := true }
def TlvFieldUptoSaid : Prop := tlvFieldUptoRow.holds Tryd.pinned (OpenSpec.upto tlvFieldSpec)

/-- 'stratumlaw05.TlvTurned', WHERE WHAT IT READS IS OF BULK AT MOST 1048576: true; the input reads as it did. -/
def tlvTurnedUptoRow : OpenClaim := { program := "ythekbefbhjllnaadoor", sum := "0602c9c17e6da907ed865364e8a55ca73f11ba91bf81ec84ca802a4c490efe52", func := "stratum/stratumlaw05.TlvTurned", spec := "tlvTurned", named := ["stratum/kind.uintNumber", "stratum/kind.textNumber", "stratum/kind.intNumber", "stratum/kind.boolNumber", "stratum/kind.bytesNumber", "unicode/utf8.first", "unicode/utf8.acceptRanges"], apart := false, laid := [("unicode/utf8.acceptRanges", laid_unicode_utf8_acceptRanges), ("stratum/kind.uintNumber", laid_stratum_kind_uintNumber), ("stratum/kind.intNumber", laid_stratum_kind_intNumber), ("stratum/kind.boolNumber", laid_stratum_kind_boolNumber), ("stratum/kind.textNumber", laid_stratum_kind_textNumber), ("stratum/kind.bytesNumber", laid_stratum_kind_bytesNumber), ("unicode/utf8.first", laid_unicode_utf8_first)], narrowed := true }
def TlvTurnedUptoSaid : Prop := tlvTurnedUptoRow.holds Tryd.pinned (OpenSpec.upto tlvTurnedSpec)

/-- 'stratumlaw05.TlvKeeps', WHERE WHAT IT READS IS OF BULK AT MOST 1048576: true; the input reads as it did. -/
def tlvKeepsUptoRow : OpenClaim := { program := "ythekbefbhjllnaadoor", sum := "0602c9c17e6da907ed865364e8a55ca73f11ba91bf81ec84ca802a4c490efe52", func := "stratum/stratumlaw05.TlvKeeps", spec := "tlvKeeps", named := ["stratum/kind.uintNumber", "stratum/kind.textNumber", "stratum/kind.intNumber", "stratum/kind.boolNumber", "stratum/kind.bytesNumber", "unicode/utf8.first", "unicode/utf8.acceptRanges"], apart := false, laid := [("unicode/utf8.acceptRanges", laid_unicode_utf8_acceptRanges), ("stratum/kind.uintNumber", laid_stratum_kind_uintNumber), ("stratum/kind.intNumber", laid_stratum_kind_intNumber), ("stratum/kind.boolNumber", laid_stratum_kind_boolNumber), ("stratum/kind.textNumber", laid_stratum_kind_textNumber), ("stratum/kind.bytesNumber", laid_stratum_kind_bytesNumber), ("unicode/utf8.first", laid_unicode_utf8_first)], narrowed := true }
def TlvKeepsUptoSaid : Prop := tlvKeepsUptoRow.holds Tryd.pinned (OpenSpec.upto tlvKeepsSpec)

end Rows
end Go.Proofs.YthekbefbhjllnaaDoor
