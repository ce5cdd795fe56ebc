/- A block of bytes that a call writes over, whole. No walk here. -/
import Derived.Test.YtijgcfnjbfaelaaDoorTurned
import Derived.Laws.MakeOwn
namespace Go.Proofs.YtijgcfnjbfaelaaDoor
open Go.RowKit
open Go.Lib (byteCells)

/-- the block g holds just these bytes -/
def BRow (w : World) (g : Nat) (l : List UInt8) : Prop := w.heap[g]? = some (.cells (byteCells l).toArray 5 (0, 0))
section
variable {w w' : World} {g : Nat} {l : List UInt8}
theorem BRow.start (w : World) (n : Nat) : BRow (w.alloc (.cells (Array.replicate n (.int .u8 0)) 5)) w.heap.size (List.replicate n 0) := by
  unfold BRow
  rw [heap_alloc_new w _]
  simp [byteCells]
theorem BRow.len (h : BRow w g l) : g < w.heap.size := (Array.getElem?_eq_some_iff.1 h).1
theorem BRow.cell (h : BRow w g l) {k : Nat} {x : UInt8} (hk : l[k]? = some x) : w.cell? ⟨g, k, none⟩ = some (.int .u8 (x.toNat : Nat)) := by
  obtain ⟨hl, hx⟩ := List.getElem?_eq_some_iff.1 hk
  rw [cell_of_row w g k _ 5 (0, 0) h, List.getElem?_toArray, byteCells_get _ k hl, hx]
theorem BRow.frozen (h : BRow w g l) (i : Nat) : w.frozen? ⟨g, i, none⟩ = false := by
  unfold BRow at h
  simp [World.frozen?, h]
theorem BRow.set (h : BRow w g l) (k : Nat) (x : UInt8) (z : Int) (hz : z = (x.toNat : Int)) : BRow (w.setCell ⟨g, k, none⟩ (.int .u8 z)) g (l.set k x) := by
  subst hz
  unfold BRow at h ⊢
  have e : byteCells (l.set k x) = (byteCells l).set k (.int .u8 (x.toNat : Int)) := by
    unfold byteCells; rw [List.map_set]
  rw [e]
  simp [World.setCell, Array.getElem?_modify, h]
theorem BRow.reads (h : BRow w g l) : Byt w w.heap.size (some ⟨g, 0, none⟩) l :=
  .inr ⟨g, 0, rfl, h.len, fun j hj => by rw [Nat.zero_add]; exact h.cell (List.getElem?_eq_getElem hj)⟩
theorem BRow.keep (h : BRow w g l) (hb : w'.heap[g]? = w.heap[g]?) : BRow w' g l := hb.trans h
theorem BRow.below (h : BRow w g l) (hb : Below w.heap.size w w') : BRow w' g l := h.keep (hb.block g h.len)
theorem BRow.grown {row : Option Nat} (h : BRow w g l) (hg : w.grownBy w' row) (hne : row ≠ some g) : BRow w' g l := h.keep (hg.block g h.len fun e => hne e.symm)
end
theorem take_set {α : Type} {cur L : List α} {k : Nat} {x : α} (hl : cur.length = L.length) (h : cur.take k = L.take k) (hx : L[k]? = some x) : (cur.set k x).take (k + 1) = L.take (k + 1) := by
  obtain ⟨hk, hv⟩ := List.getElem?_eq_some_iff.1 hx
  have hk2 : k < (cur.set k x).length := by rw [List.length_set]; omega
  rw [List.take_succ_eq_append_getElem hk, List.take_succ_eq_append_getElem hk2, List.getElem_set_self, hv, List.take_set, List.set_eq_of_length_le (by rw [List.length_take]; omega), h]
theorem take_all {α : Type} {cur L : List α} {n : Nat} (hl : cur.length = n) (hL : L.length = n) (h : cur.take n = L.take n) : cur = L := by
  rwa [List.take_of_length_le (by omega), List.take_of_length_le (by omega)] at h
theorem drop_set {α : Type} {cur L : List α} {k : Nat} {x : α} (h : cur.drop k = L.drop k) : (cur.set k x).drop (k + 1) = L.drop (k + 1) := by
  rw [List.drop_set_of_lt (by omega), ← List.drop_drop, ← List.drop_drop, h]
theorem drop_get {α : Type} {cur L : List α} {k : Nat} (h : cur.drop k = L.drop k) : cur[k]? = L[k]? := by
  have := congrArg (fun l => l[0]?) h
  simpa [List.getElem?_drop] using this

theorem infoBR : (Tryd.prog.info? 5).map (fun i => (i.zero, i.size, i.bytes)) = some (some (.int .u8 0), 1, 1) := by kernel_rfl
set_option maxRecDepth 100000 in
/-- make of bytes -/
theorem run_mkB (n : Nat) (hn : n ≤ 140737488355328) (W : World) : (Instr.makeSlice 40 (.int .i64 (n : Int)) (.int .i64 (n : Int))).run Tryd.prog W =
    .ok (.slice (some ⟨W.heap.size, 0, none⟩) n n) (W.alloc (.cells (Array.replicate n (.int .u8 0)) 5)) := by
  have hb := infoBR
  cases hq : Tryd.prog.info? 5 with
  | none => simp [hq] at hb
  | some i0 =>
    simp [hq] at hb
    obtain ⟨hz0, hz1, hz2⟩ := hb
    have h := run_make (P := Tryd.prog) W 40 5 i0 _ Tryd.underlying40 hq hz0 .i64 .i64 (n : Int) (n : Int) (by omega) (by omega) (by rw [hz2]; omega) (by omega)
    rw [hz1] at h
    simp only [Int.toNat_natCast, Nat.mul_one] at h
    rw [h]
    congr 3
    apply Array.toList_inj.1
    rw [Array.toList_replicate]
    exact toList_madeCells_one _ _
end Go.Proofs.YtijgcfnjbfaelaaDoor
