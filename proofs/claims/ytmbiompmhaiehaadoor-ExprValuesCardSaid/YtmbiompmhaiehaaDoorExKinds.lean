/- The walks of kind's numbers: Uint, Int, Bool, Text. -/
import Derived.Test.YtmbiompmhaiehaaDoorExGv
import Derived.Test.YtmbiompmhaiehaaDoorProg
import Derived.WalkKit
namespace Go.Proofs.YtmbiompmhaiehaaDoor
open Go.RowKit

theorem uintK_any {w : World} (h : KVars w) : Calls Tryd.prog 57 #[] w fun e w' => e = .returned (.int .i64 1) ∧ w = w' := by
  have hc := h.u
  go_enter Tryd.func57, Tryd.ntmps57
  go_wp2
  go_ret
  exact ⟨rfl, rfl⟩
theorem intK_any {w : World} (h : KVars w) : Calls Tryd.prog 9 #[] w fun e w' => e = .returned (.int .i64 2) ∧ w = w' := by
  have hc := h.i
  go_enter Tryd.func9, Tryd.ntmps9
  go_wp2
  go_ret
  exact ⟨rfl, rfl⟩
theorem boolK_any {w : World} (h : KVars w) : Calls Tryd.prog 58 #[] w fun e w' => e = .returned (.int .i64 3) ∧ w = w' := by
  have hc := h.b
  go_enter Tryd.func58, Tryd.ntmps58
  go_wp2
  go_ret
  exact ⟨rfl, rfl⟩
theorem textK_any {w : World} (h : KVars w) : Calls Tryd.prog 10 #[] w fun e w' => e = .returned (.int .i64 4) ∧ w = w' := by
  have hc := h.t
  go_enter Tryd.func10, Tryd.ntmps10
  go_wp2
  go_ret
  exact ⟨rfl, rfl⟩
end Go.Proofs.YtmbiompmhaiehaaDoor
