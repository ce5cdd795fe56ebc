/- The kinds' variables hold what was laid. No walk here. -/
import Derived.Test.YtijgcfnjbfaelaaDoorBytMem
namespace Go.Proofs.YtijgcfnjbfaelaaDoor
open Go.RowKit

/-- the kinds' variables hold what was laid -/
structure KVars (w : World) : Prop where
  u : w.cell? ⟨0, 0, none⟩ = some (.int .i64 1)
  i : w.cell? ⟨1, 0, none⟩ = some (.int .i64 2)
  b : w.cell? ⟨2, 0, none⟩ = some (.int .i64 3)
  t : w.cell? ⟨3, 0, none⟩ = some (.int .i64 4)
  y : w.cell? ⟨4, 0, none⟩ = some (.int .i64 5)
theorem KVars.below {w w' : World} (h : KVars w) (hb : Below w.heap.size w w') : KVars w' := by
  have k := (Below.cells hb).1
  exact ⟨(k _ _ (World.block_lt_of_cell? w ⟨_, _, none⟩ h.u)).trans h.u, (k _ _ (World.block_lt_of_cell? w ⟨_, _, none⟩ h.i)).trans h.i, (k _ _ (World.block_lt_of_cell? w ⟨_, _, none⟩ h.b)).trans h.b, (k _ _ (World.block_lt_of_cell? w ⟨_, _, none⟩ h.t)).trans h.t, (k _ _ (World.block_lt_of_cell? w ⟨_, _, none⟩ h.y)).trans h.y⟩
end Go.Proofs.YtijgcfnjbfaelaaDoor
