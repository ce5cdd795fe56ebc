/- The walk of the code: a subtree's place. -/
import Derived.Test.YtpgljmkemmikhaaDoorPoRow
namespace Go.Proofs.YtpgljmkemmikhaaDoor
open Go.RowKit

set_option maxRecDepth 100000 in
set_option maxHeartbeats 4000000 in
theorem pplace_any (w : World) (p : Value) (r : Nat) :
    Calls Tryd.prog 72 #[.agg #[p, .int .i64 (r : Nat)]] w fun e w' => e = .returned (.int .i64 (r : Nat)) ∧ Below w.heap.size w w' := by
  go_enter Tryd.func72, Tryd.ntmps72
  go_wp2
  go_ret
  exact ⟨rfl, (Below.refl _ w).alloc (Nat.le_refl _) _⟩
end Go.Proofs.YtpgljmkemmikhaaDoor
