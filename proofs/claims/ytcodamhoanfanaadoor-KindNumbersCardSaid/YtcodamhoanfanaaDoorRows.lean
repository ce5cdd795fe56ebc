/-
  NARROWER THAN 'FOR EVERY INPUT', by the rows' own cells (each row's printed sentence says how): KindNames: laid · KindExact: laid · KindStart: laid · KindValid: laid · KindOrder: laid · KindNumbers: laid.
  DERIVED. THE GIVEN ROWS OF THIS SEAT. 6 by the template 'for every input the law returns true; each argument reads behind the call as it read before'; 0 by the template 'total and deterministic' (their statements: YtcodamhoanfanaaDoorTotals.lean).
  GIVEN WITH THE SEED: the statements are not yours to turn. If you find one false, say at which input.
  Laid BY PROGRAM, IN A SANDBOX (cutbox-rows.mjs): the forced cells as the released guide's own fill.sh prints them over the translation 6c5578f8df4a70df… (all of the seat's roots in one cut). By AI agents, Wed Nov 11 2026. No macro, syntax, notation, axiom, sorry.
-/
import Derived.Test.YtcodamhoanfanaaDoorChecked
import GoSem.PinnedTables
import GoSem.Claim
import GoSem.ClaimJoined
import GoSem.ClaimMapViews
import Derived.JoinedTies
import Derived.KernelRfl
namespace Go.Proofs.YtcodamhoanfanaaDoor
/- THE CELL 'sum', in the pinned program and in every row, IS THE sha256 OF THE DUMP (.gsa) THAT YtcodamhoanfanaaDoorProg.lean LOADS. Nothing in Lean hashes anything: it is a label: what it is worth is what the hold of that sum in a sandbox is worth. -/
noncomputable def Tryd.pinned : Pinned := { name := "ytcodamhoanfanaadoor", sum := "6c5578f8df4a70dfa569f58b781b4c6552637172907d29351848d6e35de10362", checked := Tryd.checked }
namespace Rows
def none {H : Type} : Left H := { results := [], args := [] }

/- WHAT THE LISTED PACKAGE-LEVEL VARIABLES READ AS WHEN THE CALL BEGINS. Each datum BY PROGRAM (the guide's laid-datum.mjs) off the statement by which the dump's own 'gosem.cut.vars' lays the variable. In a bare row this is a premise. The card (YtcodamhoanfanaaDoorCards.lean) ties it to the program's text. -/
def laid_unicode_utf8_acceptRanges {H : Type} : DataW H := .agg [.agg [.lit (.int .u8 128), .lit (.int .u8 191)], .agg [.lit (.int .u8 160), .lit (.int .u8 191)], .agg [.lit (.int .u8 128), .lit (.int .u8 159)], .agg [.lit (.int .u8 144), .lit (.int .u8 191)], .agg [.lit (.int .u8 128), .lit (.int .u8 143)], .agg [.lit (.int .u8 0), .lit (.int .u8 0)], .agg [.lit (.int .u8 0), .lit (.int .u8 0)], .agg [.lit (.int .u8 0), .lit (.int .u8 0)], .agg [.lit (.int .u8 0), .lit (.int .u8 0)], .agg [.lit (.int .u8 0), .lit (.int .u8 0)], .agg [.lit (.int .u8 0), .lit (.int .u8 0)], .agg [.lit (.int .u8 0), .lit (.int .u8 0)], .agg [.lit (.int .u8 0), .lit (.int .u8 0)], .agg [.lit (.int .u8 0), .lit (.int .u8 0)], .agg [.lit (.int .u8 0), .lit (.int .u8 0)], .agg [.lit (.int .u8 0), .lit (.int .u8 0)]]
def laid_stratum_kind_uintNumber {H : Type} : DataW H := .lit (.int .i64 1)
def laid_stratum_kind_intNumber {H : Type} : DataW H := .lit (.int .i64 2)
def laid_stratum_kind_boolNumber {H : Type} : DataW H := .lit (.int .i64 3)
def laid_stratum_kind_textNumber {H : Type} : DataW H := .lit (.int .i64 4)
def laid_stratum_kind_bytesNumber {H : Type} : DataW H := .lit (.int .i64 5)
def laid_stratum_kind_width {H : Type} : DataW H := .lit (.int .i64 21)
/-- One of Go's own tables, pinned by name: the form's constant. -/
def laid_unicode_utf8_first : DataW Unit := Go.Pinned.utf8First
def laid_stratum_kind_base {H : Type} : DataW H := .lit (.int .i64 0)

/-- 'stratumlaw04.KindNames': WHATEVER THE INPUT: true; the input reads as it did. -/
def kindNamesSpec : ChangeSpec := { name := "kindNames", fn := fun _ => fun
  | [d1, d2] => { results := [.lit (.bool true)], args := [d1, d2] }
  | _ => none }
def kindNamesRow : OpenClaim := { program := "ytcodamhoanfanaadoor", sum := "6c5578f8df4a70dfa569f58b781b4c6552637172907d29351848d6e35de10362", func := "stratum/stratumlaw04.KindNames", spec := "kindNames", inPlace := ["internal/bytealg.abigen_runtime_cmpstring"], named := ["stratum/kind.uintNumber", "stratum/kind.intNumber", "stratum/kind.boolNumber", "stratum/kind.textNumber", "stratum/kind.bytesNumber", "stratum/kind.width", "unicode/utf8.first", "unicode/utf8.acceptRanges"], apart := false, laid := [("unicode/utf8.acceptRanges", laid_unicode_utf8_acceptRanges), ("stratum/kind.uintNumber", laid_stratum_kind_uintNumber), ("stratum/kind.intNumber", laid_stratum_kind_intNumber), ("stratum/kind.boolNumber", laid_stratum_kind_boolNumber), ("stratum/kind.textNumber", laid_stratum_kind_textNumber), ("stratum/kind.bytesNumber", laid_stratum_kind_bytesNumber), ("stratum/kind.width", laid_stratum_kind_width), ("unicode/utf8.first", laid_unicode_utf8_first)] }
def KindNamesSaid : Prop := kindNamesRow.holds Tryd.pinned (OpenSpec.ofChange kindNamesSpec)

/-- ITS FALSE NEIGHBOUR: 'it returns false'. Refute it at one input. -/
def kindNamesWrong : ChangeSpec := { name := "kindNames", fn := fun _ => fun
  | [d1, d2] => { results := [.lit (.bool false)], args := [d1, d2] }
  | _ => none }
def KindNamesWrongFalsely : Prop := kindNamesRow.holds Tryd.pinned (OpenSpec.ofChange kindNamesWrong)

/-- 'stratumlaw04.KindExact': WHATEVER THE INPUT: true; the input reads as it did. -/
def kindExactSpec : ChangeSpec := { name := "kindExact", fn := fun _ => fun
  | [d] => { results := [.lit (.bool true)], args := [d] }
  | _ => none }
def kindExactRow : OpenClaim := { program := "ytcodamhoanfanaadoor", sum := "6c5578f8df4a70dfa569f58b781b4c6552637172907d29351848d6e35de10362", func := "stratum/stratumlaw04.KindExact", spec := "kindExact", inPlace := ["internal/bytealg.abigen_runtime_cmpstring"], named := ["stratum/kind.uintNumber", "stratum/kind.intNumber", "stratum/kind.boolNumber", "stratum/kind.textNumber", "stratum/kind.bytesNumber", "stratum/kind.width", "unicode/utf8.first", "unicode/utf8.acceptRanges"], apart := false, laid := [("unicode/utf8.acceptRanges", laid_unicode_utf8_acceptRanges), ("stratum/kind.uintNumber", laid_stratum_kind_uintNumber), ("stratum/kind.intNumber", laid_stratum_kind_intNumber), ("stratum/kind.boolNumber", laid_stratum_kind_boolNumber), ("stratum/kind.textNumber", laid_stratum_kind_textNumber), ("stratum/kind.bytesNumber", laid_stratum_kind_bytesNumber), ("stratum/kind.width", laid_stratum_kind_width), ("unicode/utf8.first", laid_unicode_utf8_first)] }
def KindExactSaid : Prop := kindExactRow.holds Tryd.pinned (OpenSpec.ofChange kindExactSpec)

/-- ITS FALSE NEIGHBOUR: 'it returns false'. Refute it at one input. -/
def kindExactWrong : ChangeSpec := { name := "kindExact", fn := fun _ => fun
  | [d] => { results := [.lit (.bool false)], args := [d] }
  | _ => none }
def KindExactWrongFalsely : Prop := kindExactRow.holds Tryd.pinned (OpenSpec.ofChange kindExactWrong)

/-- 'stratumlaw04.KindStart': WHATEVER THE INPUT: true; the input reads as it did. -/
def kindStartSpec : ChangeSpec := { name := "kindStart", fn := fun _ => fun
  | [d] => { results := [.lit (.bool true)], args := [d] }
  | _ => none }
def kindStartRow : OpenClaim := { program := "ytcodamhoanfanaadoor", sum := "6c5578f8df4a70dfa569f58b781b4c6552637172907d29351848d6e35de10362", func := "stratum/stratumlaw04.KindStart", spec := "kindStart", inPlace := ["internal/bytealg.abigen_runtime_cmpstring"], named := ["stratum/kind.uintNumber", "stratum/kind.intNumber", "stratum/kind.boolNumber", "stratum/kind.textNumber", "stratum/kind.bytesNumber", "stratum/kind.width", "unicode/utf8.first", "unicode/utf8.acceptRanges", "stratum/kind.base"], apart := false, laid := [("unicode/utf8.acceptRanges", laid_unicode_utf8_acceptRanges), ("stratum/kind.uintNumber", laid_stratum_kind_uintNumber), ("stratum/kind.intNumber", laid_stratum_kind_intNumber), ("stratum/kind.boolNumber", laid_stratum_kind_boolNumber), ("stratum/kind.textNumber", laid_stratum_kind_textNumber), ("stratum/kind.bytesNumber", laid_stratum_kind_bytesNumber), ("stratum/kind.base", laid_stratum_kind_base), ("stratum/kind.width", laid_stratum_kind_width), ("unicode/utf8.first", laid_unicode_utf8_first)] }
def KindStartSaid : Prop := kindStartRow.holds Tryd.pinned (OpenSpec.ofChange kindStartSpec)

/-- ITS FALSE NEIGHBOUR: 'it returns false'. Refute it at one input. -/
def kindStartWrong : ChangeSpec := { name := "kindStart", fn := fun _ => fun
  | [d] => { results := [.lit (.bool false)], args := [d] }
  | _ => none }
def KindStartWrongFalsely : Prop := kindStartRow.holds Tryd.pinned (OpenSpec.ofChange kindStartWrong)

/-- 'stratumlaw04.KindValid': WHATEVER THE INPUT: true; the input reads as it did. -/
def kindValidSpec : ChangeSpec := { name := "kindValid", fn := fun _ => fun
  | [d1, d2, d3] => { results := [.lit (.bool true)], args := [d1, d2, d3] }
  | _ => none }
def kindValidRow : OpenClaim := { program := "ytcodamhoanfanaadoor", sum := "6c5578f8df4a70dfa569f58b781b4c6552637172907d29351848d6e35de10362", func := "stratum/stratumlaw04.KindValid", spec := "kindValid", inPlace := ["internal/bytealg.abigen_runtime_cmpstring"], named := ["stratum/kind.uintNumber", "stratum/kind.intNumber", "stratum/kind.boolNumber", "stratum/kind.textNumber", "stratum/kind.bytesNumber", "stratum/kind.width", "unicode/utf8.first", "unicode/utf8.acceptRanges"], apart := false, laid := [("unicode/utf8.acceptRanges", laid_unicode_utf8_acceptRanges), ("stratum/kind.uintNumber", laid_stratum_kind_uintNumber), ("stratum/kind.intNumber", laid_stratum_kind_intNumber), ("stratum/kind.boolNumber", laid_stratum_kind_boolNumber), ("stratum/kind.textNumber", laid_stratum_kind_textNumber), ("stratum/kind.bytesNumber", laid_stratum_kind_bytesNumber), ("stratum/kind.width", laid_stratum_kind_width), ("unicode/utf8.first", laid_unicode_utf8_first)] }
def KindValidSaid : Prop := kindValidRow.holds Tryd.pinned (OpenSpec.ofChange kindValidSpec)

/-- ITS FALSE NEIGHBOUR: 'it returns false'. Refute it at one input. -/
def kindValidWrong : ChangeSpec := { name := "kindValid", fn := fun _ => fun
  | [d1, d2, d3] => { results := [.lit (.bool false)], args := [d1, d2, d3] }
  | _ => none }
def KindValidWrongFalsely : Prop := kindValidRow.holds Tryd.pinned (OpenSpec.ofChange kindValidWrong)

/-- 'stratumlaw04.KindOrder': WHATEVER THE INPUT: true; the input reads as it did. -/
def kindOrderSpec : ChangeSpec := { name := "kindOrder", fn := fun _ => fun
  | [d1, d2, d3] => { results := [.lit (.bool true)], args := [d1, d2, d3] }
  | _ => none }
def kindOrderRow : OpenClaim := { program := "ytcodamhoanfanaadoor", sum := "6c5578f8df4a70dfa569f58b781b4c6552637172907d29351848d6e35de10362", func := "stratum/stratumlaw04.KindOrder", spec := "kindOrder", inPlace := ["internal/bytealg.abigen_runtime_cmpstring"], named := ["stratum/kind.uintNumber", "stratum/kind.intNumber", "stratum/kind.boolNumber", "stratum/kind.textNumber", "stratum/kind.bytesNumber", "stratum/kind.width", "unicode/utf8.first", "unicode/utf8.acceptRanges"], apart := false, laid := [("unicode/utf8.acceptRanges", laid_unicode_utf8_acceptRanges), ("stratum/kind.uintNumber", laid_stratum_kind_uintNumber), ("stratum/kind.intNumber", laid_stratum_kind_intNumber), ("stratum/kind.boolNumber", laid_stratum_kind_boolNumber), ("stratum/kind.textNumber", laid_stratum_kind_textNumber), ("stratum/kind.bytesNumber", laid_stratum_kind_bytesNumber), ("stratum/kind.width", laid_stratum_kind_width), ("unicode/utf8.first", laid_unicode_utf8_first)] }
def KindOrderSaid : Prop := kindOrderRow.holds Tryd.pinned (OpenSpec.ofChange kindOrderSpec)

/-- ITS FALSE NEIGHBOUR: 'it returns false'. Refute it at one input. -/
def kindOrderWrong : ChangeSpec := { name := "kindOrder", fn := fun _ => fun
  | [d1, d2, d3] => { results := [.lit (.bool false)], args := [d1, d2, d3] }
  | _ => none }
def KindOrderWrongFalsely : Prop := kindOrderRow.holds Tryd.pinned (OpenSpec.ofChange kindOrderWrong)

/-- 'stratumlaw04.KindNumbers': WHATEVER THE INPUT: true; the input reads as it did. -/
def kindNumbersSpec : ChangeSpec := { name := "kindNumbers", fn := fun _ => fun
  | [d] => { results := [.lit (.bool true)], args := [d] }
  | _ => none }
def kindNumbersRow : OpenClaim := { program := "ytcodamhoanfanaadoor", sum := "6c5578f8df4a70dfa569f58b781b4c6552637172907d29351848d6e35de10362", func := "stratum/stratumlaw04.KindNumbers", spec := "kindNumbers", inPlace := ["internal/bytealg.abigen_runtime_cmpstring"], named := ["stratum/kind.uintNumber", "stratum/kind.intNumber", "stratum/kind.boolNumber", "stratum/kind.textNumber", "stratum/kind.bytesNumber", "stratum/kind.width", "unicode/utf8.first", "unicode/utf8.acceptRanges"], apart := false, laid := [("unicode/utf8.acceptRanges", laid_unicode_utf8_acceptRanges), ("stratum/kind.uintNumber", laid_stratum_kind_uintNumber), ("stratum/kind.intNumber", laid_stratum_kind_intNumber), ("stratum/kind.boolNumber", laid_stratum_kind_boolNumber), ("stratum/kind.textNumber", laid_stratum_kind_textNumber), ("stratum/kind.bytesNumber", laid_stratum_kind_bytesNumber), ("stratum/kind.width", laid_stratum_kind_width), ("unicode/utf8.first", laid_unicode_utf8_first)] }
def KindNumbersSaid : Prop := kindNumbersRow.holds Tryd.pinned (OpenSpec.ofChange kindNumbersSpec)

/-- ITS FALSE NEIGHBOUR: 'it returns false'. Refute it at one input. -/
def kindNumbersWrong : ChangeSpec := { name := "kindNumbers", fn := fun _ => fun
  | [d] => { results := [.lit (.bool false)], args := [d] }
  | _ => none }
def KindNumbersWrongFalsely : Prop := kindNumbersRow.holds Tryd.pinned (OpenSpec.ofChange kindNumbersWrong)

/- THE SECOND FORM. 'bulk': how many values and letters a reading holds, each counted each time it is reached (what is shared counts as often as it is met; a slice's spare places count too). A statement '..UptoSaid' is the law's where the arguments, and the package variables that the reading takes, are together of bulk at most 1048576: NARROWER than '..Said'. Prove '..Said' where nothing that the law and all that it calls make is longer than what came in: it says more and counts as full. Else prove '..UptoSaid'. A law counts once. -/
mutual
def uptoBulk {H : Type} : DataW H → Nat
  | .lit (.string bytes) => bytes.length + 1
  | .lit _ => 1
  | .nil => 1
  | .ptr d => uptoBulk d + 1
  | .slice elems spare => uptoBulkAll elems + uptoBulkAll spare + 1
  | .agg parts => uptoBulkAll parts + 1
  | .iface _ d => uptoBulk d + 1
  | .map entries => uptoBulkEntries entries + 1
  | .held _ => 1
def uptoBulkAll {H : Type} : List (DataW H) → Nat
  | [] => 0
  | d :: r => uptoBulk d + uptoBulkAll r
def uptoBulkEntries {H : Type} : List (Lit × DataW H) → Nat
  | [] => 0
  | x :: r => uptoBulkEntry x + uptoBulkEntries r
def uptoBulkEntry {H : Type} : Lit × DataW H → Nat
  | (.string bytes, d) => bytes.length + uptoBulk d + 1
  | (_, d) => uptoBulk d + 1
 end
def uptoSmall : (H : Type) → List (DataW H) → Bool := fun _ ds => decide (uptoBulkAll ds ≤ 1048576)
def OpenSpec.upto (s : _root_.Go.ChangeSpec) : _root_.Go.OpenSpec := { _root_.Go.OpenSpec.ofChange s with cond := some uptoSmall }

/-- 'stratumlaw04.KindNames', WHERE WHAT IT READS IS OF BULK AT MOST 1048576: true; the input reads as it did. -/
def kindNamesUptoRow : OpenClaim := { program := "ytcodamhoanfanaadoor", sum := "6c5578f8df4a70dfa569f58b781b4c6552637172907d29351848d6e35de10362", func := "stratum/stratumlaw04.KindNames", spec := "kindNames", inPlace := ["internal/bytealg.abigen_runtime_cmpstring"], named := ["stratum/kind.uintNumber", "stratum/kind.intNumber", "stratum/kind.boolNumber", "stratum/kind.textNumber", "stratum/kind.bytesNumber", "stratum/kind.width", "unicode/utf8.first", "unicode/utf8.acceptRanges"], apart := false, laid := [("unicode/utf8.acceptRanges", laid_unicode_utf8_acceptRanges), ("stratum/kind.uintNumber", laid_stratum_kind_uintNumber), ("stratum/kind.intNumber", laid_stratum_kind_intNumber), ("stratum/kind.boolNumber", laid_stratum_kind_boolNumber), ("stratum/kind.textNumber", laid_stratum_kind_textNumber), ("stratum/kind.bytesNumber", laid_stratum_kind_bytesNumber), ("stratum/kind.width", laid_stratum_kind_width), ("unicode/utf8.first", laid_unicode_utf8_first)], narrowed := true }
def KindNamesUptoSaid : Prop := kindNamesUptoRow.holds Tryd.pinned (OpenSpec.upto kindNamesSpec)

/-- 'stratumlaw04.KindExact', WHERE WHAT IT READS IS OF BULK AT MOST 1048576: true; the input reads as it did. -/
def kindExactUptoRow : OpenClaim := { program := "ytcodamhoanfanaadoor", sum := "6c5578f8df4a70dfa569f58b781b4c6552637172907d29351848d6e35de10362", func := "stratum/stratumlaw04.KindExact", spec := "kindExact", inPlace := ["internal/bytealg.abigen_runtime_cmpstring"], named := ["stratum/kind.uintNumber", "stratum/kind.intNumber", "stratum/kind.boolNumber", "stratum/kind.textNumber", "stratum/kind.bytesNumber", "stratum/kind.width", "unicode/utf8.first", "unicode/utf8.acceptRanges"], apart := false, laid := [("unicode/utf8.acceptRanges", laid_unicode_utf8_acceptRanges), ("stratum/kind.uintNumber", laid_stratum_kind_uintNumber), ("stratum/kind.intNumber", laid_stratum_kind_intNumber), ("stratum/kind.boolNumber", laid_stratum_kind_boolNumber), ("stratum/kind.textNumber", laid_stratum_kind_textNumber), ("stratum/kind.bytesNumber", laid_stratum_kind_bytesNumber), ("stratum/kind.width", laid_stratum_kind_width), ("unicode/utf8.first", laid_unicode_utf8_first)], narrowed := true }
def KindExactUptoSaid : Prop := kindExactUptoRow.holds Tryd.pinned (OpenSpec.upto kindExactSpec)

/-- 'stratumlaw04.KindStart', WHERE WHAT IT READS IS OF BULK AT MOST 1048576: true; the input reads as it did. -/
def kindStartUptoRow : OpenClaim := { program := "ytcodamhoanfanaadoor", sum := "6c5578f8df4a70dfa569f58b781b4c6552637172907d29351848d6e35de10362", func := "stratum/stratumlaw04.KindStart", spec := "kindStart", inPlace := ["internal/bytealg.abigen_runtime_cmpstring"], named := ["stratum/kind.uintNumber", "stratum/kind.intNumber", "stratum/kind.boolNumber", "stratum/kind.textNumber", "stratum/kind.bytesNumber", "stratum/kind.width", "unicode/utf8.first", "unicode/utf8.acceptRanges", "stratum/kind.base"], apart := false, laid := [("unicode/utf8.acceptRanges", laid_unicode_utf8_acceptRanges), ("stratum/kind.uintNumber", laid_stratum_kind_uintNumber), ("stratum/kind.intNumber", laid_stratum_kind_intNumber), ("stratum/kind.boolNumber", laid_stratum_kind_boolNumber), ("stratum/kind.textNumber", laid_stratum_kind_textNumber), ("stratum/kind.bytesNumber", laid_stratum_kind_bytesNumber), ("stratum/kind.base", laid_stratum_kind_base), ("stratum/kind.width", laid_stratum_kind_width), ("unicode/utf8.first", laid_unicode_utf8_first)], narrowed := true }
def KindStartUptoSaid : Prop := kindStartUptoRow.holds Tryd.pinned (OpenSpec.upto kindStartSpec)

/-- 'stratumlaw04.KindValid', WHERE WHAT IT READS IS OF BULK AT MOST 1048576: true; the input reads as it did. -/
def kindValidUptoRow : OpenClaim := { program := "ytcodamhoanfanaadoor", sum := "6c5578f8df4a70dfa569f58b781b4c6552637172907d29351848d6e35de10362", func := "stratum/stratumlaw04.KindValid", spec := "kindValid", inPlace := ["internal/bytealg.abigen_runtime_cmpstring"], named := ["stratum/kind.uintNumber", "stratum/kind.intNumber", "stratum/kind.boolNumber", "stratum/kind.textNumber", "stratum/kind.bytesNumber", "stratum/kind.width", "unicode/utf8.first", "unicode/utf8.acceptRanges"], apart := false, laid := [("unicode/utf8.acceptRanges", laid_unicode_utf8_acceptRanges), ("stratum/kind.uintNumber", laid_stratum_kind_uintNumber), ("stratum/kind.intNumber", laid_stratum_kind_intNumber), ("stratum/kind.boolNumber", laid_stratum_kind_boolNumber), ("stratum/kind.textNumber", laid_stratum_kind_textNumber), ("stratum/kind.bytesNumber", laid_stratum_kind_bytesNumber), ("stratum/kind.width", laid_stratum_kind_width), ("unicode/utf8.first", laid_unicode_utf8_first)], narrowed := true }
def KindValidUptoSaid : Prop := kindValidUptoRow.holds Tryd.pinned (OpenSpec.upto kindValidSpec)

/-- 'stratumlaw04.KindOrder', WHERE WHAT IT READS IS OF BULK AT MOST 1048576: true; the input reads as it did. -/
def kindOrderUptoRow : OpenClaim := { program := "ytcodamhoanfanaadoor", sum := "6c5578f8df4a70dfa569f58b781b4c6552637172907d29351848d6e35de10362", func := "stratum/stratumlaw04.KindOrder", spec := "kindOrder", inPlace := ["internal/bytealg.abigen_runtime_cmpstring"], named := ["stratum/kind.uintNumber", "stratum/kind.intNumber", "stratum/kind.boolNumber", "stratum/kind.textNumber", "stratum/kind.bytesNumber", "stratum/kind.width", "unicode/utf8.first", "unicode/utf8.acceptRanges"], apart := false, laid := [("unicode/utf8.acceptRanges", laid_unicode_utf8_acceptRanges), ("stratum/kind.uintNumber", laid_stratum_kind_uintNumber), ("stratum/kind.intNumber", laid_stratum_kind_intNumber), ("stratum/kind.boolNumber", laid_stratum_kind_boolNumber), ("stratum/kind.textNumber", laid_stratum_kind_textNumber), ("stratum/kind.bytesNumber", laid_stratum_kind_bytesNumber), ("stratum/kind.width", laid_stratum_kind_width), ("unicode/utf8.first", laid_unicode_utf8_first)], narrowed := true }
def KindOrderUptoSaid : Prop := kindOrderUptoRow.holds Tryd.pinned (OpenSpec.upto kindOrderSpec)

/-- 'stratumlaw04.KindNumbers', WHERE WHAT IT READS IS OF BULK AT MOST 1048576: true; the input reads as it did. -/
def kindNumbersUptoRow : OpenClaim := { program := "ytcodamhoanfanaadoor", sum := "6c5578f8df4a70dfa569f58b781b4c6552637172907d29351848d6e35de10362", func := "stratum/stratumlaw04.KindNumbers", spec := "kindNumbers", inPlace := ["internal/bytealg.abigen_runtime_cmpstring"], named := ["stratum/kind.uintNumber", "stratum/kind.intNumber", "stratum/kind.boolNumber", "stratum/kind.textNumber", "stratum/kind.bytesNumber", "stratum/kind.width", "unicode/utf8.first", "unicode/utf8.acceptRanges"], apart := false, laid := [("unicode/utf8.acceptRanges", laid_unicode_utf8_acceptRanges), ("stratum/kind.uintNumber", laid_stratum_kind_uintNumber), ("stratum/kind.intNumber", laid_stratum_kind_intNumber), ("stratum/kind.boolNumber", laid_stratum_kind_boolNumber), ("stratum/kind.textNumber", laid_stratum_kind_textNumber), ("stratum/kind.bytesNumber", laid_stratum_kind_bytesNumber), ("stratum/kind.width", laid_stratum_kind_width), ("unicode/utf8.first", laid_unicode_utf8_first)], narrowed := true }
def KindNumbersUptoSaid : Prop := kindNumbersUptoRow.holds Tryd.pinned (OpenSpec.upto kindNumbersSpec)

end Rows
end Go.Proofs.YtcodamhoanfanaaDoor
