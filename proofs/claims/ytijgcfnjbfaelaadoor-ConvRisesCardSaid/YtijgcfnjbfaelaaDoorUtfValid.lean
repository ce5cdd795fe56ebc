/- The walk of utf.Valid: every text. -/
import Derived.Test.YtijgcfnjbfaelaaDoorUtfMem
import Derived.Test.YtijgcfnjbfaelaaDoorVShelf
import Derived.WalkKit
import Derived.BigCall
namespace Go.Proofs.YtijgcfnjbfaelaaDoor
open Go.RowKit

set_option maxRecDepth 100000 in
set_option maxHeartbeats 1000000 in
theorem valid_any {w0 w : World} (h : St w0 w) (s : ByteArray) (hs : s.size ≤ 140737488355328) :
    Calls Tryd.prog 36 #[.string s] w fun e w' => e = .returned (.bool (okL (ls s))) ∧ St w0 w' := by
  have cS := Tryd.utf8_ValidString s w (by omega) h.tabs
  rw [validD_ok] at cS
  have hcl : okL (ls s) = okL s.data.toList := rfl
  rw [← hcl] at cS
  clear hcl
  obtain ⟨N, hN⟩ : ∃ N, okL (ls s) = N := ⟨_, rfl⟩
  rw [hN] at cS ⊢
  clear hN
  go_enter Tryd.func36, Tryd.ntmps36
  go_wp2_with (go_at_call 60; refine cS.mono ?_; rintro e w' ⟨rfl, hb⟩)
  go_ret
  exact ⟨rfl, h.then_ hb⟩
end Go.Proofs.YtijgcfnjbfaelaaDoor
