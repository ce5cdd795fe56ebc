/-
  DERIVED. GIVEN WITH THE SEED: THE PROGRAM's TIES (one call each: nine closed facts by the kernel) AND EACH ROW's TIE, after the 31st guide's Derived/Test/Toyas{Tie, Card}.lean. No idea stands in it: it is a product of the set-up. Laid BY PROGRAM, IN A SANDBOX (cutbox-door.mjs). By AI agents, Wed Nov 11 2026. No macro, syntax, notation, axiom, sorry.
-/
import Derived.Test.YtcodamhoanfanaaDoorRows
import Derived.LaidByTextLater
import Derived.SevenTiedAt
import Derived.LaidSub
import Derived.LaidOnce
namespace Go.Proofs.YtcodamhoanfanaaDoor
open Go
set_option maxRecDepth 100000
theorem seatTie1 : Tryd.prog.laidByTextLater [("unicode/utf8.acceptRanges", Rows.laid_unicode_utf8_acceptRanges), ("stratum/kind.uintNumber", Rows.laid_stratum_kind_uintNumber), ("stratum/kind.intNumber", Rows.laid_stratum_kind_intNumber), ("stratum/kind.boolNumber", Rows.laid_stratum_kind_boolNumber), ("stratum/kind.textNumber", Rows.laid_stratum_kind_textNumber), ("stratum/kind.bytesNumber", Rows.laid_stratum_kind_bytesNumber), ("stratum/kind.base", Rows.laid_stratum_kind_base), ("stratum/kind.width", Rows.laid_stratum_kind_width)] [.data, .called, .called, .called, .called, .called, .called, .called] true :=
  Program.laidByTextLater_by_one 2015 8 33 (by kernel_rfl) (by kernel_rfl) (by kernel_rfl) (by kernel_rfl) (by kernel_rfl) (by kernel_rfl) (fun _ _ => by kernel_rfl)
theorem pin_laid_unicode_utf8_first : Tryd.pinned.checked.prog.pinnedFits "unicode/utf8.first" = true := by kernel_rfl
theorem noOwnUnsafe : Tryd.pinned.checked.prog.headLifts.contains "ownunsafe" = false := by kernel_rfl
theorem fits1 : Tryd.pinned.checked.prog.listedFits [("unicode/utf8.acceptRanges", Rows.laid_unicode_utf8_acceptRanges), ("stratum/kind.uintNumber", Rows.laid_stratum_kind_uintNumber), ("stratum/kind.intNumber", Rows.laid_stratum_kind_intNumber), ("stratum/kind.boolNumber", Rows.laid_stratum_kind_boolNumber), ("stratum/kind.textNumber", Rows.laid_stratum_kind_textNumber), ("stratum/kind.bytesNumber", Rows.laid_stratum_kind_bytesNumber), ("stratum/kind.width", Rows.laid_stratum_kind_width), ("unicode/utf8.first", Rows.laid_unicode_utf8_first)] = true := by
  unfold Program.listedFits
  rw [noOwnUnsafe]
  kernel_rfl
theorem tie : Tryd.prog.laidByTextLater [("unicode/utf8.acceptRanges", Rows.laid_unicode_utf8_acceptRanges), ("stratum/kind.uintNumber", Rows.laid_stratum_kind_uintNumber), ("stratum/kind.intNumber", Rows.laid_stratum_kind_intNumber), ("stratum/kind.boolNumber", Rows.laid_stratum_kind_boolNumber), ("stratum/kind.textNumber", Rows.laid_stratum_kind_textNumber), ("stratum/kind.bytesNumber", Rows.laid_stratum_kind_bytesNumber), ("stratum/kind.width", Rows.laid_stratum_kind_width)] [.data, .called, .called, .called, .called, .called, .called] true :=
  Program.laidByTextLater.sub seatTie1 ["unicode/utf8.acceptRanges", "stratum/kind.uintNumber", "stratum/kind.intNumber", "stratum/kind.boolNumber", "stratum/kind.textNumber", "stratum/kind.bytesNumber", "stratum/kind.width"] (by kernel_rfl) (by kernel_rfl)
theorem kindNames_row_tie : Rows.kindNamesRow.laidByTextAt .later Tryd.pinned [.data, .called, .called, .called, .called, .called, .called, .pinned] true :=
  OpenClaim.laidByTextAt_pinned rfl rfl tie rfl rfl rfl rfl (fun y hy _e => by
    simp only [Rows.kindNamesRow, List.zip_cons_cons, List.zip_nil_right, List.mem_cons, List.mem_nil_iff, or_false] at hy
    rcases hy with rfl | rfl | rfl | rfl | rfl | rfl | rfl | rfl
    · cases _e
    · cases _e
    · cases _e
    · cases _e
    · cases _e
    · cases _e
    · cases _e
    · exact ⟨pin_laid_unicode_utf8_first, by kernel_rfl⟩) fits1
theorem kindExact_row_tie : Rows.kindExactRow.laidByTextAt .later Tryd.pinned [.data, .called, .called, .called, .called, .called, .called, .pinned] true :=
  OpenClaim.laidByTextAt_pinned rfl rfl tie rfl rfl rfl rfl (fun y hy _e => by
    simp only [Rows.kindExactRow, List.zip_cons_cons, List.zip_nil_right, List.mem_cons, List.mem_nil_iff, or_false] at hy
    rcases hy with rfl | rfl | rfl | rfl | rfl | rfl | rfl | rfl
    · cases _e
    · cases _e
    · cases _e
    · cases _e
    · cases _e
    · cases _e
    · cases _e
    · exact ⟨pin_laid_unicode_utf8_first, by kernel_rfl⟩) fits1
theorem kindValid_row_tie : Rows.kindValidRow.laidByTextAt .later Tryd.pinned [.data, .called, .called, .called, .called, .called, .called, .pinned] true :=
  OpenClaim.laidByTextAt_pinned rfl rfl tie rfl rfl rfl rfl (fun y hy _e => by
    simp only [Rows.kindValidRow, List.zip_cons_cons, List.zip_nil_right, List.mem_cons, List.mem_nil_iff, or_false] at hy
    rcases hy with rfl | rfl | rfl | rfl | rfl | rfl | rfl | rfl
    · cases _e
    · cases _e
    · cases _e
    · cases _e
    · cases _e
    · cases _e
    · cases _e
    · exact ⟨pin_laid_unicode_utf8_first, by kernel_rfl⟩) fits1
theorem kindOrder_row_tie : Rows.kindOrderRow.laidByTextAt .later Tryd.pinned [.data, .called, .called, .called, .called, .called, .called, .pinned] true :=
  OpenClaim.laidByTextAt_pinned rfl rfl tie rfl rfl rfl rfl (fun y hy _e => by
    simp only [Rows.kindOrderRow, List.zip_cons_cons, List.zip_nil_right, List.mem_cons, List.mem_nil_iff, or_false] at hy
    rcases hy with rfl | rfl | rfl | rfl | rfl | rfl | rfl | rfl
    · cases _e
    · cases _e
    · cases _e
    · cases _e
    · cases _e
    · cases _e
    · cases _e
    · exact ⟨pin_laid_unicode_utf8_first, by kernel_rfl⟩) fits1
theorem kindNumbers_row_tie : Rows.kindNumbersRow.laidByTextAt .later Tryd.pinned [.data, .called, .called, .called, .called, .called, .called, .pinned] true :=
  OpenClaim.laidByTextAt_pinned rfl rfl tie rfl rfl rfl rfl (fun y hy _e => by
    simp only [Rows.kindNumbersRow, List.zip_cons_cons, List.zip_nil_right, List.mem_cons, List.mem_nil_iff, or_false] at hy
    rcases hy with rfl | rfl | rfl | rfl | rfl | rfl | rfl | rfl
    · cases _e
    · cases _e
    · cases _e
    · cases _e
    · cases _e
    · cases _e
    · cases _e
    · exact ⟨pin_laid_unicode_utf8_first, by kernel_rfl⟩) fits1
theorem fits2 : Tryd.pinned.checked.prog.listedFits [("unicode/utf8.acceptRanges", Rows.laid_unicode_utf8_acceptRanges), ("stratum/kind.uintNumber", Rows.laid_stratum_kind_uintNumber), ("stratum/kind.intNumber", Rows.laid_stratum_kind_intNumber), ("stratum/kind.boolNumber", Rows.laid_stratum_kind_boolNumber), ("stratum/kind.textNumber", Rows.laid_stratum_kind_textNumber), ("stratum/kind.bytesNumber", Rows.laid_stratum_kind_bytesNumber), ("stratum/kind.base", Rows.laid_stratum_kind_base), ("stratum/kind.width", Rows.laid_stratum_kind_width), ("unicode/utf8.first", Rows.laid_unicode_utf8_first)] = true := by
  unfold Program.listedFits
  rw [noOwnUnsafe]
  kernel_rfl
theorem tie2 : Tryd.prog.laidByTextLater [("unicode/utf8.acceptRanges", Rows.laid_unicode_utf8_acceptRanges), ("stratum/kind.uintNumber", Rows.laid_stratum_kind_uintNumber), ("stratum/kind.intNumber", Rows.laid_stratum_kind_intNumber), ("stratum/kind.boolNumber", Rows.laid_stratum_kind_boolNumber), ("stratum/kind.textNumber", Rows.laid_stratum_kind_textNumber), ("stratum/kind.bytesNumber", Rows.laid_stratum_kind_bytesNumber), ("stratum/kind.base", Rows.laid_stratum_kind_base), ("stratum/kind.width", Rows.laid_stratum_kind_width)] [.data, .called, .called, .called, .called, .called, .called, .called] true :=
  Program.laidByTextLater.sub seatTie1 ["unicode/utf8.acceptRanges", "stratum/kind.uintNumber", "stratum/kind.intNumber", "stratum/kind.boolNumber", "stratum/kind.textNumber", "stratum/kind.bytesNumber", "stratum/kind.base", "stratum/kind.width"] (by kernel_rfl) (by kernel_rfl)
theorem kindStart_row_tie : Rows.kindStartRow.laidByTextAt .later Tryd.pinned [.data, .called, .called, .called, .called, .called, .called, .called, .pinned] true :=
  OpenClaim.laidByTextAt_pinned rfl rfl tie2 rfl rfl rfl rfl (fun y hy _e => by
    simp only [Rows.kindStartRow, List.zip_cons_cons, List.zip_nil_right, List.mem_cons, List.mem_nil_iff, or_false] at hy
    rcases hy with rfl | rfl | rfl | rfl | rfl | rfl | rfl | rfl | rfl
    · cases _e
    · cases _e
    · cases _e
    · cases _e
    · cases _e
    · cases _e
    · cases _e
    · cases _e
    · exact ⟨pin_laid_unicode_utf8_first, by kernel_rfl⟩) fits2
theorem kindNamesUpto_row_tie : Rows.kindNamesUptoRow.laidByTextAt .later Tryd.pinned [.data, .called, .called, .called, .called, .called, .called, .pinned] true :=
  OpenClaim.laidByTextAt_pinned rfl rfl tie rfl rfl rfl rfl (fun y hy _e => by
    simp only [Rows.kindNamesUptoRow, List.zip_cons_cons, List.zip_nil_right, List.mem_cons, List.mem_nil_iff, or_false] at hy
    rcases hy with rfl | rfl | rfl | rfl | rfl | rfl | rfl | rfl
    · cases _e
    · cases _e
    · cases _e
    · cases _e
    · cases _e
    · cases _e
    · cases _e
    · exact ⟨pin_laid_unicode_utf8_first, by kernel_rfl⟩) fits1
theorem kindExactUpto_row_tie : Rows.kindExactUptoRow.laidByTextAt .later Tryd.pinned [.data, .called, .called, .called, .called, .called, .called, .pinned] true :=
  OpenClaim.laidByTextAt_pinned rfl rfl tie rfl rfl rfl rfl (fun y hy _e => by
    simp only [Rows.kindExactUptoRow, List.zip_cons_cons, List.zip_nil_right, List.mem_cons, List.mem_nil_iff, or_false] at hy
    rcases hy with rfl | rfl | rfl | rfl | rfl | rfl | rfl | rfl
    · cases _e
    · cases _e
    · cases _e
    · cases _e
    · cases _e
    · cases _e
    · cases _e
    · exact ⟨pin_laid_unicode_utf8_first, by kernel_rfl⟩) fits1
theorem kindStartUpto_row_tie : Rows.kindStartUptoRow.laidByTextAt .later Tryd.pinned [.data, .called, .called, .called, .called, .called, .called, .called, .pinned] true :=
  OpenClaim.laidByTextAt_pinned rfl rfl tie2 rfl rfl rfl rfl (fun y hy _e => by
    simp only [Rows.kindStartUptoRow, List.zip_cons_cons, List.zip_nil_right, List.mem_cons, List.mem_nil_iff, or_false] at hy
    rcases hy with rfl | rfl | rfl | rfl | rfl | rfl | rfl | rfl | rfl
    · cases _e
    · cases _e
    · cases _e
    · cases _e
    · cases _e
    · cases _e
    · cases _e
    · cases _e
    · exact ⟨pin_laid_unicode_utf8_first, by kernel_rfl⟩) fits2
theorem kindValidUpto_row_tie : Rows.kindValidUptoRow.laidByTextAt .later Tryd.pinned [.data, .called, .called, .called, .called, .called, .called, .pinned] true :=
  OpenClaim.laidByTextAt_pinned rfl rfl tie rfl rfl rfl rfl (fun y hy _e => by
    simp only [Rows.kindValidUptoRow, List.zip_cons_cons, List.zip_nil_right, List.mem_cons, List.mem_nil_iff, or_false] at hy
    rcases hy with rfl | rfl | rfl | rfl | rfl | rfl | rfl | rfl
    · cases _e
    · cases _e
    · cases _e
    · cases _e
    · cases _e
    · cases _e
    · cases _e
    · exact ⟨pin_laid_unicode_utf8_first, by kernel_rfl⟩) fits1
theorem kindOrderUpto_row_tie : Rows.kindOrderUptoRow.laidByTextAt .later Tryd.pinned [.data, .called, .called, .called, .called, .called, .called, .pinned] true :=
  OpenClaim.laidByTextAt_pinned rfl rfl tie rfl rfl rfl rfl (fun y hy _e => by
    simp only [Rows.kindOrderUptoRow, List.zip_cons_cons, List.zip_nil_right, List.mem_cons, List.mem_nil_iff, or_false] at hy
    rcases hy with rfl | rfl | rfl | rfl | rfl | rfl | rfl | rfl
    · cases _e
    · cases _e
    · cases _e
    · cases _e
    · cases _e
    · cases _e
    · cases _e
    · exact ⟨pin_laid_unicode_utf8_first, by kernel_rfl⟩) fits1
theorem kindNumbersUpto_row_tie : Rows.kindNumbersUptoRow.laidByTextAt .later Tryd.pinned [.data, .called, .called, .called, .called, .called, .called, .pinned] true :=
  OpenClaim.laidByTextAt_pinned rfl rfl tie rfl rfl rfl rfl (fun y hy _e => by
    simp only [Rows.kindNumbersUptoRow, List.zip_cons_cons, List.zip_nil_right, List.mem_cons, List.mem_nil_iff, or_false] at hy
    rcases hy with rfl | rfl | rfl | rfl | rfl | rfl | rfl | rfl
    · cases _e
    · cases _e
    · cases _e
    · cases _e
    · cases _e
    · cases _e
    · cases _e
    · exact ⟨pin_laid_unicode_utf8_first, by kernel_rfl⟩) fits1
end Go.Proofs.YtcodamhoanfanaaDoor
