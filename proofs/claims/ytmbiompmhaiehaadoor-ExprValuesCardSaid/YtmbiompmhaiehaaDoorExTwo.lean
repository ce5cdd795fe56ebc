/- What stands behind the reckoning of a node's two kids. No walk here. -/
import Derived.Test.YtmbiompmhaiehaaDoorExAr
namespace Go.Proofs.YtmbiompmhaiehaaDoor
open Go.RowKit

theorem after_two {w w2 w3 : World} {x r : Nat} {so1 so2 : Int} {bl1 bl2 : Bool} {nn1 nn2 : Nat} {S1 S2 : ByteArray} (k0 : CB w2 w.heap.size 43 #[.pointer (some ⟨x, 0, none⟩), .int .i64 (r : Nat)]) (k1 : CB w2 (w.heap.size + 1) 64 #[.int .i64 0, .bool false, .int .u64 0, .string ⟨#[]⟩]) (b2 : Below w.heap.size w w2) (hb : Below w2.heap.size w2 w3) :
    ∃ w5, (w3.alloc (.cells #[.int .i64 so1, .bool bl1, .int .u64 (nn1 : Nat), .string S1] 64)).alloc (.cells #[.int .i64 so2, .bool bl2, .int .u64 (nn2 : Nat), .string S2] 64) = w5 ∧ ∀ W, Below w5.heap.size w5 W → (W.cell? ⟨w.heap.size, 0, none⟩ = some (.pointer (some ⟨x, 0, none⟩)) ∧ W.cell? ⟨w.heap.size, 1, none⟩ = some (.int .i64 (r : Nat))) ∧
      (W.cell? ⟨w3.heap.size, 0, none⟩ = some (.int .i64 so1) ∧ W.cell? ⟨w3.heap.size, 1, none⟩ = some (.bool bl1) ∧ W.cell? ⟨w3.heap.size, 2, none⟩ = some (.int .u64 (nn1 : Nat)) ∧ W.cell? ⟨w3.heap.size, 3, none⟩ = some (.string S1)) ∧
      (W.cell? ⟨w3.heap.size + 1, 0, none⟩ = some (.int .i64 so2) ∧ W.cell? ⟨w3.heap.size + 1, 1, none⟩ = some (.bool bl2) ∧ W.cell? ⟨w3.heap.size + 1, 2, none⟩ = some (.int .u64 (nn2 : Nat)) ∧ W.cell? ⟨w3.heap.size + 1, 3, none⟩ = some (.string S2)) ∧
      CB W (w.heap.size + 1) 64 #[.int .i64 0, .bool false, .int .u64 0, .string ⟨#[]⟩] ∧ Below w.heap.size w W ∧ w.heap.size + 1 < w3.heap.size := by
  have hb4 : Below w3.heap.size w3 (w3.alloc (.cells #[.int .i64 so1, .bool bl1, .int .u64 (nn1 : Nat), .string S1] 64)) := (Below.refl _ w3).alloc (Nat.le_refl _) _
  have hq := CB.new w3 64 #[.int .i64 so1, .bool bl1, .int .u64 (nn1 : Nat), .string S1]
  obtain ⟨w4, hw4⟩ : ∃ w4, w4 = w3.alloc (.cells #[.int .i64 so1, .bool bl1, .int .u64 (nn1 : Nat), .string S1] 64) := ⟨_, rfl⟩
  rw [← hw4] at hb4 hq ⊢
  have s4 : w4.heap.size = w3.heap.size + 1 := by rw [hw4]; simp
  have hb5 : Below w4.heap.size w4 (w4.alloc (.cells #[.int .i64 so2, .bool bl2, .int .u64 (nn2 : Nat), .string S2] 64)) := (Below.refl _ w4).alloc (Nat.le_refl _) _
  refine ⟨_, rfl, fun W hW => ?_⟩
  have a0 := (((k0.below hb).below hb4).below hb5).below hW
  have a1 := (((k1.below hb).below hb4).below hb5).below hW
  have a2 := (hq.below hb5).below hW
  have a3 := (CB.new w4 64 #[.int .i64 so2, .bool bl2, .int .u64 (nn2 : Nat), .string S2]).below hW
  rw [s4] at a3
  refine ⟨⟨a0.at_ 0, a0.at_ 1⟩, ⟨a2.at_ 0, a2.at_ 1, a2.at_ 2, a2.at_ 3⟩, ⟨a3.at_ 0, a3.at_ 1, a3.at_ 2, a3.at_ 3⟩, a1, ?_, ?_⟩
  · have h3 := b2.trans (hb.mono b2.size)
    have h4 := h3.trans (hb4.mono h3.size)
    have h5 := h4.trans (hb5.mono h4.size)
    exact h5.trans (hW.mono h5.size)
  · have := k1.len
    have := hb.size
    omega
end Go.Proofs.YtmbiompmhaiehaaDoor
