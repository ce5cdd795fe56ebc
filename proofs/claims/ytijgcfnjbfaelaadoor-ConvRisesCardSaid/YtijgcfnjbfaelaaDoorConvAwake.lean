/- The statements' first question, and Apply in the form that their walks take. -/
import Derived.Test.YtijgcfnjbfaelaaDoorConvCode
namespace Go.Proofs.YtijgcfnjbfaelaaDoor
open Go.RowKit

/-- the call answers true and what stood stands -/
def Yes (W : World) (e : Ending) (w' : World) : Prop := e = .returned (.bool true) ∧ Below W.heap.size W w'

section
variable {w0 w : World}
/-- Apply at a value's parts, the answer's parts named -/
theorem c_apply (h : CSt w0 w) {n k m E x y : Int} {s z : ByteArray} (hf : Fit64 ⟨k, m, s⟩) (hs : s.size ≤ 140737488355328) (hc : capp n ⟨k, m, s⟩ = (E, ⟨x, y, z⟩)) :
    Calls Tryd.prog 11 #[.int .i64 n, .agg #[.int .i64 k, .int .u64 m, .string s]] w fun e w' => e = .returned (.tuple #[.agg #[.int .i64 x, .int .u64 y, .string z], .int .i64 E]) ∧ CSt w0 w' ∧ Below w.heap.size w w' := by
  have := capply_any h n ⟨k, m, s⟩ hf hs
  unfold CappAt at this
  rw [hc] at this
  exact this.mono fun e w' ⟨a, b⟩ => ⟨a, h.then_ b, b⟩

theorem aw5 : capp 5 ⟨4, 0, ⟨#[48, 48, 55]⟩⟩ = (0, ⟨1, 7, ⟨#[]⟩⟩) := by
  rw [capp_yes ⟨by decide, by decide, by decide, rfl⟩, cap5, if_pos (by decide)]
  rfl
theorem aw1 : capp 1 ⟨1, 9223372036854775808, ⟨#[]⟩⟩ = (60, v0) := by
  rw [capp_yes ⟨by decide, by decide, by decide, rfl⟩, cap1, if_pos (by decide)]
set_option maxRecDepth 100000 in
set_option maxHeartbeats 1000000 in
theorem awake_self (h : CSt w w) : Calls Tryd.prog 9 #[] w fun e w' => e = .returned (.bool true) ∧ CSt w w' := by
  have c5 := c_apply h (n := 5) (k := 4) (m := 0) (s := ⟨#[48, 48, 55]⟩) ⟨by decide, by decide⟩ (by decide) aw5
  go_enter Tryd.func9, Tryd.ntmps9
  go_wp2_with fail
  refine c5.mono ?_
  rintro e w1 ⟨rfl, k1, b1⟩
  have c1 := c_apply (k1.new (.cells #[.int .i64 1, .int .u64 7, .string ⟨#[]⟩] 24)) (n := 1) (k := 1) (m := 9223372036854775808) (s := ⟨#[]⟩) ⟨by decide, by decide⟩ (by decide) aw1
  clear c5
  go_wp2_with fail
  refine c1.mono ?_
  rintro e w2 ⟨rfl, k2, b2⟩
  obtain ⟨q0, q1, q2⟩ := ((VBlk.new w1 ⟨1, 7, ⟨#[]⟩⟩).below b2).cells
  dsimp only at q0 q1 q2
  have hlt : w1.heap.size < w2.heap.size := by have := b2.size; simp at this; omega
  go_wp2_with fail
  refine (cbase_any (k2.new _)).mono ?_
  rintro e w3 ⟨rfl, b3⟩
  go_wp2_with fail
  refine (ccount_any ((k2.new _).then_ b3)).mono ?_
  rintro e w4 ⟨rfl, b4⟩
  go_wp2_with fail
  go_ret
  exact ⟨rfl, ((k2.new _).then_ b3).then_ b4⟩
theorem awake_any (h : CSt w0 w) : Calls Tryd.prog 9 #[] w fun e w' => e = .returned (.bool true) ∧ CSt w0 w' :=
  (awake_self h.self).mono fun _ _ ⟨a, b⟩ => ⟨a, h.then_ b.below⟩
end
end Go.Proofs.YtijgcfnjbfaelaaDoor
