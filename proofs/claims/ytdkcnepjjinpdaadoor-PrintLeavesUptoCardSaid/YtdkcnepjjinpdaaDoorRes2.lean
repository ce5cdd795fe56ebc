/- Two results of a function. No walk here. -/
import Derived.WalkKit
import Derived.Test.YtdkcnepjjinpdaaDoorProg
namespace Go.Proofs.YtdkcnepjjinpdaaDoor
open Go.RowKit

theorem results_2 {fn : Func} {t q : Tmp} (h : fn.results = #[.tmp t, .tmp q]) (tmps : Array Value) (w : World) (u v : Value)
    (hu : tmps.getD t undef = u) (hv : tmps.getD q undef = v) : (results fn tmps).run Tryd.prog w = .ok (.tuple #[u, v]) w := by
  unfold results
  rw [h]
  have hu' : tmps[t]?.getD undef = u := by simpa [Array.getD_eq_getD_getElem?] using hu
  have hv' : tmps[q]?.getD undef = v := by simpa [Array.getD_eq_getD_getElem?] using hv
  simp [hu', hv']
end Go.Proofs.YtdkcnepjjinpdaaDoor
