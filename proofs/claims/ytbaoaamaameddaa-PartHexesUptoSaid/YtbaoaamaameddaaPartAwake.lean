/- The walk of the statements' first question. -/
import Derived.Test.YtbaoaamaameddaaPartHex
namespace Go.Proofs.Ytbaoaamaameddaa
open Go.RowKit

def Yes (W : World) (e : Ending) (w' : World) : Prop := e = .returned (.bool true) ∧ Below W.heap.size W w'

theorem ml0 {w w' : World} (h : ML w) (hb : Below w.heap.size w w') : ML w' := h.below hb

theorem a_rep (w : World) : Calls Try.prog 18 #[.string ⟨#[97, 98]⟩, .int .u64 3] w fun e w' => e = .returned (.tuple #[.string ⟨#[97, 98, 97, 98, 97, 98]⟩, .int .i64 0]) ∧ Below w.heap.size w w' := by
  have h := rep_any (w := w) ⟨#[97, 98]⟩ 3 (by omega) (by decide)
  have e1 : repT ⟨#[97, 98]⟩ 3 = ⟨#[97, 98, 97, 98, 97, 98]⟩ := rfl
  have e2 : repE ⟨#[97, 98]⟩ 3 = 0 := rfl
  rw [e1, e2] at h
  exact h
theorem a_hex (w : World) : Calls Try.prog 20 #[.string ⟨#[54, 65, 54, 98]⟩] w fun e w' => e = .returned (.tuple #[.string ⟨#[106, 107]⟩, .int .i64 0]) ∧ Below w.heap.size w w' := by
  have h := hex_any (w := w) ⟨#[54, 65, 54, 98]⟩ (by decide)
  have e1 : hexL (ls ⟨#[54, 65, 54, 98]⟩) = some [106, 107] := by decide
  obtain ⟨e2, e3⟩ := hex_some e1
  rw [e2, e3] at h
  exact h
theorem a_ix : ix ⟨#[97, 44, 98, 44, 99]⟩ ⟨#[44]⟩ = ((1 : Nat) : Int) := by decide
theorem a_hd : hd ⟨#[97, 44, 98, 44, 99]⟩ ⟨#[44]⟩ = ⟨#[97]⟩ := by
  rw [hd_at a_ix]
  apply ls_inj
  rw [ls_extract]
  rfl
theorem a_tl : tl ⟨#[97, 44, 98, 44, 99]⟩ ⟨#[44]⟩ = ⟨#[98, 44, 99]⟩ := by
  rw [tl_at a_ix]
  apply ls_inj
  rw [ls_extract]
  rfl
theorem a_join : (⟨#[97]⟩ : ByteArray) ++ ⟨#[44, 32]⟩ ++ ⟨#[98]⟩ = ⟨#[97, 44, 32, 98]⟩ := by
  apply ls_inj
  rw [ls_append, ls_append]
  rfl
theorem a_index {w : World} (h : ML w) : Calls Try.prog 10 #[.string ⟨#[97, 44, 98, 44, 99]⟩, .string ⟨#[44]⟩] w fun e w' => e = .returned (.int .i64 1) ∧ w = w' := by
  have h := index_any h ⟨#[97, 44, 98, 44, 99]⟩ ⟨#[44]⟩ (.inr (by decide))
  rw [a_ix] at h
  exact h
theorem a_head {w : World} (h : ML w) : Calls Try.prog 12 #[.string ⟨#[97, 44, 98, 44, 99]⟩, .string ⟨#[44]⟩] w fun e w' => e = .returned (.string ⟨#[97]⟩) ∧ Below w.heap.size w w' := by
  have h := head_any h ⟨#[97, 44, 98, 44, 99]⟩ ⟨#[44]⟩ (.inr (by decide)) (by decide)
  rw [a_hd] at h
  exact h
theorem a_tail {w : World} (h : ML w) : Calls Try.prog 14 #[.string ⟨#[97, 44, 98, 44, 99]⟩, .string ⟨#[44]⟩] w fun e w' => e = .returned (.string ⟨#[98, 44, 99]⟩) ∧ Below w.heap.size w w' := by
  have h := tail_any h ⟨#[97, 44, 98, 44, 99]⟩ ⟨#[44]⟩ (.inr (by decide)) (by decide)
  rw [a_tl] at h
  exact h
theorem a_joined (w : World) : Calls Try.prog 16 #[.string ⟨#[97]⟩, .string ⟨#[44, 32]⟩, .string ⟨#[98]⟩] w fun e w' => e = .returned (.string ⟨#[97, 44, 32, 98]⟩) ∧ Below w.heap.size w w' := by
  have h := join_any (w := w) ⟨#[97]⟩ ⟨#[44, 32]⟩ ⟨#[98]⟩ (by decide)
  rw [a_join] at h
  exact h

set_option maxRecDepth 100000 in
set_option maxHeartbeats 2000000 in
theorem awake_any {w : World} (h : ML w) : Calls Try.prog 9 #[] w (Yes w) := by
  go_enter Try.func9, Try.ntmps9
  go_wp2_with (first
    | (go_at_call 18; refine (a_rep _).mono ?_; rintro e w1 ⟨rfl, b1⟩; have m1 := h.below b1)
    | (go_at_call 20; refine (a_hex _).mono ?_; rintro e w2 ⟨rfl, b2⟩; have m2 := m1.below b2)
    | (go_at_call 10; refine (a_index m2).mono ?_; rintro e w3 ⟨rfl, rfl⟩)
    | (go_at_call 12; refine (a_head m2).mono ?_; rintro e w4 ⟨rfl, b4⟩; have m4 := m2.below b4)
    | (go_at_call 14; refine (a_tail m4).mono ?_; rintro e w5 ⟨rfl, b5⟩)
    | (go_at_call 16; refine (a_joined _).mono ?_; rintro e w6 ⟨rfl, b6⟩))
  go_ret
  exact ⟨rfl, Below.both (Below.both (Below.both (Below.both b1 b2) b4) b5) b6⟩
end Go.Proofs.Ytbaoaamaameddaa
