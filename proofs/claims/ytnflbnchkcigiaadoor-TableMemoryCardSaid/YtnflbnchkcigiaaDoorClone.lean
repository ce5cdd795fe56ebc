/- strings.Clone; results of a struct and another one. -/
import Derived.Test.YtnflbnchkcigiaaDoorShelf
import Derived.Test.YtnflbnchkcigiaaDoorTaGa
import Derived.Test.YtnflbnchkcigiaaDoorTree
namespace Go.Proofs.YtnflbnchkcigiaaDoor
open Go.RowKit

set_option maxRecDepth 100000 in
theorem sclone_any (w : World) (s : ByteArray) (hs : s.size ≤ 140737488355328) : Calls Tryd.prog 44 #[.string s] w fun e w' => e = .returned (.string s) ∧ Below w.heap.size w w' := by
  have c := Tryd.stringslite_Clone s w (by omega)
  go_enter Tryd.func44, Tryd.ntmps44
  go_wp2_with (go_at_call 59; refine c.mono ?_; rintro e w' ⟨rfl, hb⟩)
  go_ret
  exact ⟨rfl, hb⟩
/-- a struct out of a block, and one more, answered together -/
theorem results_cbt {P : Program} {fn : Func} {s q : Tmp} {T : TypeId} (h : fn.results = #[.cell s T, .tmp q]) (tmps : Array Value) (w : World) (b : Nat) (cs : Array Value) (v : Value)
    (hp : tmps.getD s undef = .pointer (some ⟨b, 0, none⟩)) (hv : tmps.getD q undef = v) (hb : CB w b T cs) {d : TypeDesc} (hu : P.underlying T = some d) (hd : d.isRow = true) (hi : (P.info? T).map (·.size) = some cs.size) : (results fn tmps).run P w = .ok (.tuple #[.agg cs, v]) w := by
  unfold results
  rw [h]
  have hp' : tmps[s]?.getD undef = .pointer (some ⟨b, 0, none⟩) := by simpa [Array.getD_eq_getD_getElem?] using hp
  have hv' : tmps[q]?.getD undef = v := by simpa [Array.getD_eq_getD_getElem?] using hv
  simp [hp', hv', asAddr, hb.load hu hd hi]
end Go.Proofs.YtnflbnchkcigiaaDoor
