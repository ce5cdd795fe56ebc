/- The walks of the kinds' numbers. -/
import Derived.Test.YtijgcfnjbfaelaaDoorKindVars
import Derived.Test.YtijgcfnjbfaelaaDoorProg
import Derived.WalkKit
import Derived.BigCall
namespace Go.Proofs.YtijgcfnjbfaelaaDoor
open Go.RowKit

theorem uint_any {w : World} (h : KVars w) : Calls Tryd.prog 42 #[] w fun e w' => e = .returned (.int .i64 1) ∧ w' = w := by
  have hc := h.u
  go_enter Tryd.func42, Tryd.ntmps42
  go_wp2
  go_ret
  exact ⟨rfl, rfl⟩
theorem int_any {w : World} (h : KVars w) : Calls Tryd.prog 43 #[] w fun e w' => e = .returned (.int .i64 2) ∧ w' = w := by
  have hc := h.i
  go_enter Tryd.func43, Tryd.ntmps43
  go_wp2
  go_ret
  exact ⟨rfl, rfl⟩
theorem bool_any {w : World} (h : KVars w) : Calls Tryd.prog 50 #[] w fun e w' => e = .returned (.int .i64 3) ∧ w' = w := by
  have hc := h.b
  go_enter Tryd.func50, Tryd.ntmps50
  go_wp2
  go_ret
  exact ⟨rfl, rfl⟩
theorem text_any {w : World} (h : KVars w) : Calls Tryd.prog 45 #[] w fun e w' => e = .returned (.int .i64 4) ∧ w' = w := by
  have hc := h.t
  go_enter Tryd.func45, Tryd.ntmps45
  go_wp2
  go_ret
  exact ⟨rfl, rfl⟩
end Go.Proofs.YtijgcfnjbfaelaaDoor
