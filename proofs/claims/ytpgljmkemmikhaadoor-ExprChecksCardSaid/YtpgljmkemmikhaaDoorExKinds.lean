/- The walks of kind's numbers: Uint, Int, Bool, Text. -/
import Derived.Test.YtpgljmkemmikhaaDoorExGv
import Derived.Test.YtpgljmkemmikhaaDoorProg
import Derived.WalkKit
namespace Go.Proofs.YtpgljmkemmikhaaDoor
open Go.RowKit

theorem uintK_any {w : World} (h : KVars w) : Calls Tryd.prog 22 #[] w fun e w' => e = .returned (.int .i64 1) ∧ w = w' := by
  have hc := h.u
  go_enter Tryd.func22, Tryd.ntmps22
  go_wp2
  go_ret
  exact ⟨rfl, rfl⟩
theorem intK_any {w : World} (h : KVars w) : Calls Tryd.prog 24 #[] w fun e w' => e = .returned (.int .i64 2) ∧ w = w' := by
  have hc := h.i
  go_enter Tryd.func24, Tryd.ntmps24
  go_wp2
  go_ret
  exact ⟨rfl, rfl⟩
theorem boolK_any {w : World} (h : KVars w) : Calls Tryd.prog 70 #[] w fun e w' => e = .returned (.int .i64 3) ∧ w = w' := by
  have hc := h.b
  go_enter Tryd.func70, Tryd.ntmps70
  go_wp2
  go_ret
  exact ⟨rfl, rfl⟩
theorem textK_any {w : World} (h : KVars w) : Calls Tryd.prog 20 #[] w fun e w' => e = .returned (.int .i64 4) ∧ w = w' := by
  have hc := h.t
  go_enter Tryd.func20, Tryd.ntmps20
  go_wp2
  go_ret
  exact ⟨rfl, rfl⟩
end Go.Proofs.YtpgljmkemmikhaaDoor
