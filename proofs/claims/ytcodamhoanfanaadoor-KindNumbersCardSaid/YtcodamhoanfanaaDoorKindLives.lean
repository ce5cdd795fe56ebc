/- The walks of the plain answers and of the statements' first question. -/
import Derived.Test.YtcodamhoanfanaaDoorKindROrd
namespace Go.Proofs.YtcodamhoanfanaaDoor
open Go.RowKit

/-- the call answers true and what stood stands -/
def Yes (W : World) (e : Ending) (w' : World) : Prop := e = .returned (.bool true) ∧ Below W.heap.size W w'

/-- the width stands as it was laid -/
def KWid (w : World) : Prop := w.cell? ⟨6, 0, none⟩ = some (.int .i64 21)
theorem KWid.below {w w' : World} (h : KWid w) (hb : Below w.heap.size w w') : KWid w' := ((Below.cells hb).1 _ _ (World.block_lt_of_cell? w ⟨_, _, none⟩ h)).trans h
/-- what stood when the call began stands; all that was laid is as it was laid -/
structure KAll (w0 w : World) : Prop where
  st : KSt w0 w
  wid : KWid w
theorem KAll.then_ {w0 w w' : World} (h : KAll w0 w) (hb : Below w.heap.size w w') : KAll w0 w' := ⟨h.st.then_ hb, h.wid.below hb⟩
theorem KAll.self {w0 w : World} (h : KAll w0 w) : KAll w w := ⟨h.st.self, h.wid⟩
theorem KAll.below {w0 w : World} (h : KAll w0 w) : Below w0.heap.size w0 w := h.st.below
theorem KAll.new {w0 w : World} (h : KAll w0 w) (o : Obj) : KAll w0 (w.alloc o) := h.then_ ((Below.refl _ _).alloc (Nat.le_refl _) _)
theorem KAll.newN {w0 w : World} (h : KAll w0 w) (n : Nat) : KAll w0 (w.drewN n) := h.then_ (Below.newN w n)
theorem KAll.drew {w0 w : World} (h : KAll w0 w) : KAll w0 w.drew := h.then_ (Below.thenN (Below.refl _ _) 1)
section
variable {w0 w : World} {Q : Ending → Prop} {f : FuncId} {args : Array Value}
theorem KAll.of (h : KAll w0 w) (hc : Calls Tryd.prog f args w fun e w' => Q e ∧ Below w.heap.size w w') : Calls Tryd.prog f args w fun e w' => Q e ∧ KAll w0 w' := hc.mono fun _ _ ⟨he, hb⟩ => ⟨he, h.then_ hb⟩
theorem KAll.ofK (h : KAll w0 w) (hc : KSt w w → Calls Tryd.prog f args w fun e w' => Q e ∧ KSt w w') : Calls Tryd.prog f args w fun e w' => Q e ∧ KAll w0 w' := h.of ((hc h.st.self).mono fun _ _ ⟨he, hb⟩ => ⟨he, hb.below⟩)
theorem KAll.ofS (h : KAll w0 w) (hc : Calls Tryd.prog f args w fun e w' => Q e ∧ w' = w) : Calls Tryd.prog f args w fun e w' => Q e ∧ KAll w0 w' := hc.mono fun _ _ ⟨he, hw⟩ => ⟨he, hw ▸ h⟩
end

theorem uint_any {w : World} (h : KVars w) : Calls Tryd.prog 23 #[] w fun e w' => e = .returned (.int .i64 1) ∧ w' = w := by
  have hc := h.u
  go_enter Tryd.func23, Tryd.ntmps23
  go_wp2
  go_ret
  exact ⟨rfl, rfl⟩
theorem int_any {w : World} (h : KVars w) : Calls Tryd.prog 24 #[] w fun e w' => e = .returned (.int .i64 2) ∧ w' = w := by
  have hc := h.i
  go_enter Tryd.func24, Tryd.ntmps24
  go_wp2
  go_ret
  exact ⟨rfl, rfl⟩
theorem bool_any {w : World} (h : KVars w) : Calls Tryd.prog 25 #[] w fun e w' => e = .returned (.int .i64 3) ∧ w' = w := by
  have hc := h.b
  go_enter Tryd.func25, Tryd.ntmps25
  go_wp2
  go_ret
  exact ⟨rfl, rfl⟩
theorem text_any {w : World} (h : KVars w) : Calls Tryd.prog 26 #[] w fun e w' => e = .returned (.int .i64 4) ∧ w' = w := by
  have hc := h.t
  go_enter Tryd.func26, Tryd.ntmps26
  go_wp2
  go_ret
  exact ⟨rfl, rfl⟩
theorem bytes_any {w : World} (h : KVars w) : Calls Tryd.prog 27 #[] w fun e w' => e = .returned (.int .i64 5) ∧ w' = w := by
  have hc := h.y
  go_enter Tryd.func27, Tryd.ntmps27
  go_wp2
  go_ret
  exact ⟨rfl, rfl⟩
theorem width_any {w : World} (h : KWid w) : Calls Tryd.prog 22 #[] w fun e w' => e = .returned (.int .i64 21) ∧ w' = w := by
  have hc : w.cell? ⟨6, 0, none⟩ = some (.int .i64 21) := h
  go_enter Tryd.func22, Tryd.ntmps22
  go_wp2
  go_ret
  exact ⟨rfl, rfl⟩

theorem aw_of {w0 w : World} (h : KAll w0 w) : Calls Tryd.prog 10 #[.string ⟨#[98, 121, 116, 101, 115]⟩] w fun e w' => e = .returned (.int .i64 5) ∧ KAll w0 w' := by
  have := h.of (of_any w ⟨#[98, 121, 116, 101, 115]⟩)
  rw [show ofL (⟨#[98, 121, 116, 101, 115]⟩ : ByteArray).data.toList = 5 by decide] at this
  exact this
theorem aw_valid {w0 w : World} (h : KAll w0 w) : Calls Tryd.prog 14 #[.agg #[.int .i64 4, .int .u64 0, .string ⟨#[97]⟩]] w fun e w' => e = .returned (.bool true) ∧ KAll w0 w' := by
  have := h.ofK (fun k => kvalid_any k ⟨4, 0, ⟨#[97]⟩⟩ (by unfold Fits; decide) (by decide))
  rw [show okV ⟨4, 0, ⟨#[97]⟩⟩ = true by decide] at this
  exact this
theorem aw_order {w0 w : World} (h : KAll w0 w) : Calls Tryd.prog 16 #[.agg #[.int .i64 2, .int .u64 18446744073709551615, .string ⟨#[]⟩], .agg #[.int .i64 2, .int .u64 0, .string ⟨#[]⟩]] w fun e w' => e = .returned (.int .i64 (-1)) ∧ KAll w0 w' := by
  have := h.ofK (fun k => order_any k ⟨2, 18446744073709551615, ⟨#[]⟩⟩ ⟨2, 0, ⟨#[]⟩⟩ (by unfold Fits; decide) (by unfold Fits; decide))
  rw [show ordV ⟨2, 18446744073709551615, ⟨#[]⟩⟩ ⟨2, 0, ⟨#[]⟩⟩ = -1 by decide] at this
  exact this

set_option maxRecDepth 100000 in
set_option maxHeartbeats 1000000 in
theorem awake_any {w0 w : World} (h : KAll w0 w) : Calls Tryd.prog 9 #[] w fun e w' => e = .returned (.bool true) ∧ KAll w0 w' := by
  go_enter Tryd.func9, Tryd.ntmps9
  go_wp2_with (first
    | (go_at_call 23; refine (uint_any h.st.k).mono ?_; rintro e w' ⟨rfl, rfl⟩)
    | (go_at_call 24; refine (int_any h.st.k).mono ?_; rintro e w' ⟨rfl, rfl⟩)
    | (go_at_call 25; refine (bool_any h.st.k).mono ?_; rintro e w' ⟨rfl, rfl⟩)
    | (go_at_call 26; refine (text_any h.st.k).mono ?_; rintro e w' ⟨rfl, rfl⟩)
    | (go_at_call 27; refine (bytes_any h.st.k).mono ?_; rintro e w' ⟨rfl, rfl⟩)
    | (go_at_call 22; refine (width_any h.wid).mono ?_; rintro e w' ⟨rfl, rfl⟩)
    | (go_at_call 10; refine (aw_of (by assumption)).mono ?_; rintro e w' ⟨rfl, hst⟩)
    | (go_at_call 14; refine (aw_valid (by assumption)).mono ?_; rintro e w' ⟨rfl, hst⟩)
    | (go_at_call 16; refine (aw_order (by assumption)).mono ?_; rintro e w' ⟨rfl, hst⟩))
  go_ret
  exact ⟨rfl, by assumption⟩
end Go.Proofs.YtcodamhoanfanaaDoor
