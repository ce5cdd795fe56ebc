/- The walk of the statements' first question. -/
import Derived.Test.YtkpbbclnffmepaaDoorUtfMend
namespace Go.Proofs.YtkpbbclnffmepaaDoor
open Go.RowKit

/-- the call answers true and what stood stands -/
def Yes (W : World) (e : Ending) (w' : World) : Prop := e = .returned (.bool true) ∧ Below W.heap.size W w'

theorem aw_next {w0 w : World} (h : St w0 w) : Calls Tryd.prog 11 #[.string ⟨#[226, 130, 172, 120]⟩] w fun e w' => e = .returned (.tuple #[.int .i64 8364, .int .i64 3]) ∧ St w0 w' := by
  have := next_any h ⟨#[226, 130, 172, 120]⟩
  rw [show nx (ls ⟨#[226, 130, 172, 120]⟩) = (8364, 3) by decide] at this
  exact this
theorem aw_put {w0 w : World} (h : St w0 w) : Calls Tryd.prog 21 #[.int .i64 233] w fun e w' => e = .returned (.string ⟨#[195, 169]⟩) ∧ St w0 w' := by
  have := put_any h 233
  rw [show putL 233 = [195, 169] by decide] at this
  exact this
theorem aw_fault {w0 w : World} (h : St w0 w) : Calls Tryd.prog 13 #[.string ⟨#[97, 195, 169, 255]⟩] w fun e w' => e = .returned (.int .i64 3) ∧ St w0 w' := by
  have := fault_any h ⟨#[97, 195, 169, 255]⟩ (by decide)
  rw [show fltL (ls ⟨#[97, 195, 169, 255]⟩) = 3 by decide] at this
  exact this
theorem aw_valid {w0 w : World} (h : St w0 w) : Calls Tryd.prog 15 #[.string ⟨#[195, 169]⟩] w fun e w' => e = .returned (.bool true) ∧ St w0 w' := by
  have := valid_any h ⟨#[195, 169]⟩ (by decide)
  rw [show okL (ls ⟨#[195, 169]⟩) = true by decide] at this
  exact this
theorem aw_count {w0 w : World} (h : St w0 w) : Calls Tryd.prog 17 #[.string ⟨#[97, 195, 169, 255, 97]⟩] w fun e w' => e = .returned (.int .i64 4) ∧ St w0 w' := by
  have := count_any h ⟨#[97, 195, 169, 255, 97]⟩ (by decide)
  rw [show cntL (ls ⟨#[97, 195, 169, 255, 97]⟩) = 4 by decide] at this
  exact this
theorem aw_mend {w0 w : World} (h : St w0 w) : Calls Tryd.prog 19 #[.string ⟨#[255]⟩] w fun e w' => e = .returned (.string ⟨#[239, 191, 189]⟩) ∧ St w0 w' := by
  have := mend_any h ⟨#[255]⟩ (by decide)
  rw [show menL (ls ⟨#[255]⟩) = [239, 191, 189] by decide] at this
  exact this

set_option maxRecDepth 100000 in
set_option maxHeartbeats 1000000 in
theorem awake_any {w0 w : World} (h : St w0 w) : Calls Tryd.prog 9 #[] w fun e w' => e = .returned (.bool true) ∧ St w0 w' := by
  go_enter Tryd.func9, Tryd.ntmps9
  go_wp2_with (first
    | (go_at_call 11; refine (aw_next (by assumption)).mono ?_; rintro e w' ⟨rfl, hst⟩)
    | (go_at_call 21; refine (aw_put (by assumption)).mono ?_; rintro e w' ⟨rfl, hst⟩)
    | (go_at_call 13; refine (aw_fault (by assumption)).mono ?_; rintro e w' ⟨rfl, hst⟩)
    | (go_at_call 15; refine (aw_valid (by assumption)).mono ?_; rintro e w' ⟨rfl, hst⟩)
    | (go_at_call 17; refine (aw_count (by assumption)).mono ?_; rintro e w' ⟨rfl, hst⟩)
    | (go_at_call 19; refine (aw_mend (by assumption)).mono ?_; rintro e w' ⟨rfl, hst⟩))
  go_ret
  exact ⟨rfl, by assumption⟩
end Go.Proofs.YtkpbbclnffmepaaDoor
