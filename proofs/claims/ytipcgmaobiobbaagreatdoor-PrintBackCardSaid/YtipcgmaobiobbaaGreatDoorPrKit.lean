/- What the rows of layer 10 share: the listed variables, as the rows list them; the table of tens out of them; the second form's bound. No walk here. -/
import Derived.Test.YtipcgmaobiobbaaGreatDoorParKit
import Derived.Test.YtipcgmaobiobbaaGreatDoorPrFmt
namespace Go.Proofs.YtipcgmaobiobbaaGreatDoor
open Go.Shelf Go.RowKit Go.Lib

/-- a listed variable that is a table of numbers -/
theorem tab_of_reads {w : World} {n : String} {k : IntKind} {zs : List Int} {g : Nat} {t e : TypeId} {m : Nat} (h : VarReads Tryz.prog w n (tabData k zs)) (hg : Tryz.prog.globalNamed n = some g) (hty : (Tryz.prog.globals[g]?).map (·.type) = some t)
    (ht : Tryz.prog.underlying t = some (.array m e)) (he : Tryz.prog.underlying e = some (.int k)) (hce : Tryz.prog.cellsOf e = 1) (hct : Tryz.prog.cellsOf t = m) : TabIs Tryz.prog w n k zs := by
  obtain ⟨g', t', cs, fuel, p, h1, h2, h3, h4⟩ := h
  obtain rfl := Option.some.inj (hg.symm.trans h1)
  obtain rfl := Option.some.inj (hty.symm.trans h2)
  unfold TabIs
  rw [h3, ← cells_of_tab ht he hce hct h4]
theorem pow_same : (Rows.laid_internal_strconv_uint64pow10 : DataW Unit) = tabData .u64 Lib.pow10Tab := by kernel_rfl
def prLaid : List (String × DataW Unit) := [("math/bits.deBruijn32tab", Rows.laid_math_bits_deBruijn32tab), ("math/bits.deBruijn64tab", Rows.laid_math_bits_deBruijn64tab), ("internal/strconv.uint64pow10", Rows.laid_internal_strconv_uint64pow10)]
theorem prLaid_reads {W : World} (hL : laidMetH Tryz.prog prLaid W) : Ten W W.heap.size := by
  unfold prLaid at hL
  rw [pow_same] at hL
  exact ten_lt (tab_of_reads (Lib.laidMet.reads hL (.tail _ (.tail _ (.head _)))) (g := 0) (by kernel_rfl) (by kernel_rfl) Tryz.underlying152 Tryz.underlying40 (by kernel_rfl) (by kernel_rfl))
theorem lexLaid_ten {W : World} (hL : laidMetH Tryz.prog lexLaid W) : Ten W W.heap.size := by
  unfold lexLaid at hL
  rw [pow_same] at hL
  exact ten_lt (tab_of_reads (Lib.laidMet.reads hL (.tail _ (.tail _ (.head _)))) (g := 0) (by kernel_rfl) (by kernel_rfl) Tryz.underlying152 Tryz.underlying40 (by kernel_rfl) (by kernel_rfl))
theorem prLaid_met (os : Os) (args : Array Value) : laidMet Tryz.prog prLaid ((laidWorld os).forCall (fun _ _ => 0) ⟨#[], args, []⟩).memory :=
  (LaidIn.of_run (l := prLaid) (List.range 40) 8 (by kernel_rfl) (by kernel_rfl) (by kernel_rfl) (by kernel_rfl)).met

section
variable {H : Type}
/-- what the second form's bound says -/
theorem bulk_le {l : List (DataW H)} (h : Rows.uptoSmall H l = true) : Rows.uptoBulkAll l ≤ 1048576 := of_decide_eq_true h
theorem bulk_text (s : ByteArray) : Rows.uptoBulk (DataW.lit (H := H) (.string s.data.toList)) = s.size + 1 := by
  simp only [Rows.uptoBulk]
  rw [← Lib.size_eq]
theorem bulk_int (k : IntKind) (x : Int) : Rows.uptoBulk (DataW.lit (H := H) (.int k x)) = 1 := by simp only [Rows.uptoBulk]
theorem of_wf64 {n : Int} (h : (Lit.int .u64 n).wf = true) : 0 ≤ n ∧ n ≤ 18446744073709551615 := by
  have := range_u64 (zs := [n]) (by simpa using h) 0
  simpa using this
end
end Go.Proofs.YtipcgmaobiobbaaGreatDoor
