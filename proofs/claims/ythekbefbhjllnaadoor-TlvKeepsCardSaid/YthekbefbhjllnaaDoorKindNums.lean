/- The walks of the kinds' numbers. -/
import Derived.Test.YthekbefbhjllnaaDoorKindVars
import Derived.Test.YthekbefbhjllnaaDoorProg
import Derived.WalkKit
import Derived.BigCall
namespace Go.Proofs.YthekbefbhjllnaaDoor
open Go.RowKit

theorem uint_any {w : World} (h : KVars w) : Calls Tryd.prog 24 #[] w fun e w' => e = .returned (.int .i64 1) ∧ w' = w := by
  have hc := h.u
  go_enter Tryd.func24, Tryd.ntmps24
  go_wp2
  go_ret
  exact ⟨rfl, rfl⟩
theorem int_any {w : World} (h : KVars w) : Calls Tryd.prog 26 #[] w fun e w' => e = .returned (.int .i64 2) ∧ w' = w := by
  have hc := h.i
  go_enter Tryd.func26, Tryd.ntmps26
  go_wp2
  go_ret
  exact ⟨rfl, rfl⟩
theorem bool_any {w : World} (h : KVars w) : Calls Tryd.prog 28 #[] w fun e w' => e = .returned (.int .i64 3) ∧ w' = w := by
  have hc := h.b
  go_enter Tryd.func28, Tryd.ntmps28
  go_wp2
  go_ret
  exact ⟨rfl, rfl⟩
theorem text_any {w : World} (h : KVars w) : Calls Tryd.prog 44 #[] w fun e w' => e = .returned (.int .i64 4) ∧ w' = w := by
  have hc := h.t
  go_enter Tryd.func44, Tryd.ntmps44
  go_wp2
  go_ret
  exact ⟨rfl, rfl⟩
end Go.Proofs.YthekbefbhjllnaaDoor
