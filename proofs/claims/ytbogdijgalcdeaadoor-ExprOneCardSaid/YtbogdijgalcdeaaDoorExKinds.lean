/- The walks of kind's numbers: Uint, Int, Bool, Text. -/
import Derived.Test.YtbogdijgalcdeaaDoorExGv
import Derived.Test.YtbogdijgalcdeaaDoorProg
import Derived.WalkKit
namespace Go.Proofs.YtbogdijgalcdeaaDoor
open Go.RowKit

theorem uintK_any {w : World} (h : KVars w) : Calls Tryd.prog 23 #[] w fun e w' => e = .returned (.int .i64 1) ∧ w = w' := by
  have hc := h.u
  go_enter Tryd.func23, Tryd.ntmps23
  go_wp2
  go_ret
  exact ⟨rfl, rfl⟩
theorem intK_any {w : World} (h : KVars w) : Calls Tryd.prog 25 #[] w fun e w' => e = .returned (.int .i64 2) ∧ w = w' := by
  have hc := h.i
  go_enter Tryd.func25, Tryd.ntmps25
  go_wp2
  go_ret
  exact ⟨rfl, rfl⟩
theorem boolK_any {w : World} (h : KVars w) : Calls Tryd.prog 71 #[] w fun e w' => e = .returned (.int .i64 3) ∧ w = w' := by
  have hc := h.b
  go_enter Tryd.func71, Tryd.ntmps71
  go_wp2
  go_ret
  exact ⟨rfl, rfl⟩
theorem textK_any {w : World} (h : KVars w) : Calls Tryd.prog 21 #[] w fun e w' => e = .returned (.int .i64 4) ∧ w = w' := by
  have hc := h.t
  go_enter Tryd.func21, Tryd.ntmps21
  go_wp2
  go_ret
  exact ⟨rfl, rfl⟩
end Go.Proofs.YtbogdijgalcdeaaDoor
