/- The walks of kind's functions that lean on no variable: entries. -/
import Derived.Test.YtijgcfnjbfaelaaDoorKindPure
import Derived.Test.YtijgcfnjbfaelaaDoorKindVars
import Derived.Test.YtijgcfnjbfaelaaDoorArr
import Derived.BigCall
import Derived.Test.YtijgcfnjbfaelaaDoorProg
namespace Go.Proofs.YtijgcfnjbfaelaaDoor
open Go.RowKit

/-- the five entries' cells, of which n have their family, m their number -/
def entC (n m : Nat) : Array Value :=
  let f := fun k => Value.int .i64 (if k < n then 1 else 0)
  let g := fun (k : Nat) => Value.int .i64 (if k < m then (k + 1 : Nat) else 0)
  #[f 0, g 0, .string ⟨#[117, 105, 110, 116]⟩, .int .i64 10, f 1, g 1, .string ⟨#[105, 110, 116]⟩, .int .i64 10, f 2, g 2, .string ⟨#[98, 111, 111, 108]⟩, .int .i64 1, f 3, g 3, .string ⟨#[116, 101, 120, 116]⟩, .int .i64 0, f 4, g 4, .string ⟨#[98, 121, 116, 101, 115]⟩, .int .i64 0]
/-- what entries answers -/
def entriesC : Array Value := #[.int .i64 1, .int .i64 1, .string ⟨#[117, 105, 110, 116]⟩, .int .i64 10, .int .i64 1, .int .i64 2, .string ⟨#[105, 110, 116]⟩, .int .i64 10, .int .i64 1, .int .i64 3, .string ⟨#[98, 111, 111, 108]⟩, .int .i64 1, .int .i64 1, .int .i64 4, .string ⟨#[116, 101, 120, 116]⟩, .int .i64 0, .int .i64 1, .int .i64 5, .string ⟨#[98, 121, 116, 101, 115]⟩, .int .i64 0]
def zeroC : Array Value := #[.int .i64 0, .int .i64 0, .string ⟨#[]⟩, .int .i64 0, .int .i64 0, .int .i64 0, .string ⟨#[]⟩, .int .i64 0, .int .i64 0, .int .i64 0, .string ⟨#[]⟩, .int .i64 0, .int .i64 0, .int .i64 0, .string ⟨#[]⟩, .int .i64 0, .int .i64 0, .int .i64 0, .string ⟨#[]⟩, .int .i64 0]

/-- the world behind k rounds -/
def EntAt (w : World) (k : Nat) (wr : World) : Prop := wr = (w.alloc (.cells zeroC 73)).alloc (.cells (entC k k) 73)

set_option maxRecDepth 100000 in
set_option maxHeartbeats 1000000 in
theorem entries_any (w : World) :
    Calls Tryd.prog 65 #[] w fun e w' => e = .returned (.agg entriesC) ∧ Below w.heap.size w w' := by
  go_enter Tryd.func65, Tryd.ntmps65
  go_wp2_with (first | (refine wpList_build rfl 73 _ rfl (entC 0 0) (by kernel_rfl) ?_) | (refine wpList_store_last rfl 73 _ _ rfl _ _ _ rfl rfl ?hb ?hi ?hz ?h1 ?hh; (case hb => simp); (case hi => kernel_rfl); (case hz => rfl); (case h1 => kernel_rfl)))
  go_loopw [9] (fun i wr => ∃ k : Nat, k ≤ 5 ∧ i = .int .i64 k ∧ EntAt w k wr) (fun i _ => 5 - (intOf i).toNat)
  case atStart => exact ⟨0, by omega, rfl, rfl⟩
  case round =>
    obtain ⟨k, hk, rfl, hw⟩ := hrel
    unfold EntAt at hw
    by_cases h5 : k = 5
    · subst h5
      subst hw
      go_wp2_with (first | (refine wpList_load_last rfl 73 _ rfl _ 5 54 _ rfl ?l2 ?m2 ?n2 ?o2; (case l2 => simp); (case m2 => kernel_rfl); (case n2 => kernel_rfl)) | (refine wpList_store_prev _ rfl 73 _ _ rfl _ _ _ rfl rfl ?p2 ?q2 ?r2 ?s2 ?t2; (case p2 => simp); (case q2 => kernel_rfl); (case r2 => rfl); (case s2 => kernel_rfl)))
      refine bodyPost_ret (results_row Tryd.results65 _ _ ⟨w.heap.size, 0, none⟩ (.agg entriesC) rfl (loadVar_prev w _ 73 entriesC 5 54 (by kernel_rfl) (by kernel_rfl) _ rfl)) rfl ⟨rfl, ?_⟩
      exact ((Below.refl _ _).alloc (Nat.le_refl _) _).alloc (by simp) _
    · have hk4 : k = 0 ∨ k = 1 ∨ k = 2 ∨ k = 3 ∨ k = 4 := by omega
      rcases hk4 with rfl | rfl | rfl | rfl | rfl
      all_goals
        simp only [entC] at hw
        subst hw
        go_wp2
        go_roundw
        case rel => first | exact ⟨1, by omega, rfl, rfl⟩ | exact ⟨2, by omega, rfl, rfl⟩ | exact ⟨3, by omega, rfl, rfl⟩ | exact ⟨4, by omega, rfl, rfl⟩ | exact ⟨5, by omega, rfl, rfl⟩
        case measure => simp [intOf]
end Go.Proofs.YtijgcfnjbfaelaaDoor
