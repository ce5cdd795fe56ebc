/- The walk of utf.Valid: every text. -/
import Derived.Test.YthekbefbhjllnaaDoorUtfMem
import Derived.Test.YthekbefbhjllnaaDoorVShelf
import Derived.WalkKit
import Derived.BigCall
namespace Go.Proofs.YthekbefbhjllnaaDoor
open Go.RowKit

set_option maxRecDepth 100000 in
set_option maxHeartbeats 1000000 in
theorem valid_any {w0 w : World} (h : St w0 w) (s : ByteArray) (hs : s.size ≤ 140737488355328) :
    Calls Tryd.prog 42 #[.string s] w fun e w' => e = .returned (.bool (okL (ls s))) ∧ St w0 w' := by
  have cS := Tryd.utf8_ValidString s w (by omega) h.tabs
  rw [validD_ok] at cS
  have hcl : okL (ls s) = okL s.data.toList := rfl
  rw [← hcl] at cS
  clear hcl
  obtain ⟨N, hN⟩ : ∃ N, okL (ls s) = N := ⟨_, rfl⟩
  rw [hN] at cS ⊢
  clear hN
  go_enter Tryd.func42, Tryd.ntmps42
  go_wp2_with (go_at_call 56; refine cS.mono ?_; rintro e w' ⟨rfl, hb⟩)
  go_ret
  exact ⟨rfl, h.then_ hb⟩
end Go.Proofs.YthekbefbhjllnaaDoor
