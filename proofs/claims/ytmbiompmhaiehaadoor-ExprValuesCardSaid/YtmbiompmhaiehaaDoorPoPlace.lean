/- The walk of the code: a subtree's place. -/
import Derived.Test.YtmbiompmhaiehaaDoorPoRow
namespace Go.Proofs.YtmbiompmhaiehaaDoor
open Go.RowKit

set_option maxRecDepth 100000 in
set_option maxHeartbeats 4000000 in
theorem pplace_any (w : World) (p : Value) (r : Nat) :
    Calls Tryd.prog 60 #[.agg #[p, .int .i64 (r : Nat)]] w fun e w' => e = .returned (.int .i64 (r : Nat)) ∧ Below w.heap.size w w' := by
  go_enter Tryd.func60, Tryd.ntmps60
  go_wp2
  go_ret
  exact ⟨rfl, (Below.refl _ w).alloc (Nat.le_refl _) _⟩
end Go.Proofs.YtmbiompmhaiehaaDoor
