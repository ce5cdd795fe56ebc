/- Rows of bytes and of fields, whole blocks that a call writes over; what one write leaves as it was. No walk here. -/
import Derived.Test.YthekbefbhjllnaaDoorTlvBackLaw
import Derived.Deep.MidRow
import Derived.Deep.AppendLies
import Derived.Laws.OwnMore
namespace Go.Proofs.YthekbefbhjllnaaDoor
open Go.RowKit
open Go.Lib (byteCells uvarint)

/-- only the block g has been written, and no block made -/
structure Turned (g : Nat) (a w : World) : Prop where
  os : w.os = a.os
  tape : w.tape = a.tape
  output : w.output = a.output
  size : w.heap.size = a.heap.size
  others : ∀ k, k ≠ g → w.heap[k]? = a.heap[k]?
section
variable {g : Nat} {a w : World}
theorem Turned.refl (g : Nat) (w : World) : Turned g w w := ⟨rfl, rfl, rfl, rfl, fun _ _ => rfl⟩
theorem Turned.setCell (h : Turned g a w) (o : Nat) (v : Value) : Turned g a (w.setCell ⟨g, o, none⟩ v) :=
  ⟨h.os, h.tape, h.output, by rw [← h.size]; simp, fun k hk => (Below.heap_setCell w ⟨g, o, none⟩ v k hk).trans (h.others k hk)⟩
theorem Turned.setCells : ∀ (vs : List Value) (o : Nat) (w : World), Turned g a w → Turned g a (w.setCells g o vs)
  | [], _, _, h => h
  | v :: r, o, w, h => by
    rw [World.setCells]
    exact Turned.setCells r (o + 1) _ (h.setCell o v)
theorem Turned.cell (h : Turned g a w) {b : Nat} (hb : b ≠ g) (j : Nat) : w.cell? ⟨b, j, none⟩ = a.cell? ⟨b, j, none⟩ := World.cell?_of_block (w := a) (h.others b hb)
theorem Turned.below (h : Turned g a w) {B : Nat} (hB : B ≤ g) : Below B a w := ⟨h.os, h.tape, h.output, by rw [h.size]; exact Nat.le_refl _, fun k hk => h.others k (by omega)⟩
theorem Turned.grown (h : Turned g a w) : a.grownBy w (some g) := ⟨h.os, h.tape, h.output, by rw [h.size]; exact Nat.le_refl _, fun k _ hk => h.others k (fun e => hk (by rw [e]))⟩
end
theorem grown_trans {a b c : World} {row : Option Nat} (h : a.grownBy b row) (k : b.grownBy c row) : a.grownBy c row :=
  ⟨k.os.trans h.os, k.tape.trans h.tape, k.output.trans h.output, Nat.le_trans h.size k.size, fun i hi hne => (k.block i (Nat.lt_of_lt_of_le hi h.size) hne).trans (h.block i hi hne)⟩
theorem grown_below {B : Nat} {W a w : World} {row : Option Nat} (hb : Below B W a) (h : a.grownBy w row) (hB : B ≤ a.heap.size) (hg : ∀ k, row = some k → B ≤ k) : Below B W w := hb.grown h hB hg
theorem below_grown {a b : World} (h : Below a.heap.size a b) (row : Option Nat) : a.grownBy b row := ⟨h.os, h.tape, h.output, h.size, fun k hk _ => h.block k hk⟩
theorem grown_cell {a w : World} {row : Option Nat} (h : a.grownBy w row) {b : Nat} (hb : b < a.heap.size) (hne : row ≠ some b) (j : Nat) : w.cell? ⟨b, j, none⟩ = a.cell? ⟨b, j, none⟩ := World.cell?_of_block (w := a) (h.block b hb fun e => hne e.symm)

/-! bytes -/
/-- the block g holds just these bytes -/
def BRow (w : World) (g : Nat) (l : List UInt8) : Prop := w.heap[g]? = some (.cells (byteCells l).toArray 5 (0, 0))
section
variable {w w' : World} {g : Nat} {l : List UInt8}
theorem BRow.start (w : World) (n : Nat) : BRow (w.alloc (.cells (Array.replicate n (.int .u8 0)) 5)) w.heap.size (List.replicate n 0) := by
  unfold BRow
  rw [heap_alloc_new w _]
  simp [byteCells]
theorem BRow.len (h : BRow w g l) : g < w.heap.size := (Array.getElem?_eq_some_iff.1 h).1
theorem BRow.cell (h : BRow w g l) {k : Nat} {x : UInt8} (hk : l[k]? = some x) : w.cell? ⟨g, k, none⟩ = some (.int .u8 (x.toNat : Nat)) := by
  obtain ⟨hl, hx⟩ := List.getElem?_eq_some_iff.1 hk
  rw [cell_of_row w g k _ 5 (0, 0) h, List.getElem?_toArray, byteCells_get _ k hl, hx]
theorem BRow.frozen (h : BRow w g l) (i : Nat) : w.frozen? ⟨g, i, none⟩ = false := by
  unfold BRow at h
  simp [World.frozen?, h]
theorem BRow.set (h : BRow w g l) (k : Nat) (x : UInt8) (z : Int) (hz : z = (x.toNat : Int)) : BRow (w.setCell ⟨g, k, none⟩ (.int .u8 z)) g (l.set k x) := by
  subst hz
  unfold BRow at h ⊢
  have e : byteCells (l.set k x) = (byteCells l).set k (.int .u8 (x.toNat : Int)) := by
    unfold byteCells; rw [List.map_set]
  rw [e]
  simp [World.setCell, Array.getElem?_modify, h]
theorem BRow.reads (h : BRow w g l) : Byt w w.heap.size (some ⟨g, 0, none⟩) l :=
  .inr ⟨g, 0, rfl, h.len, fun j hj => by rw [Nat.zero_add]; exact h.cell (List.getElem?_eq_getElem hj)⟩
theorem BRow.keep (h : BRow w g l) (hb : w'.heap[g]? = w.heap[g]?) : BRow w' g l := hb.trans h
theorem BRow.below (h : BRow w g l) (hb : Below w.heap.size w w') : BRow w' g l := h.keep (hb.block g h.len)
theorem BRow.grown {row : Option Nat} (h : BRow w g l) (hg : w.grownBy w' row) (hne : row ≠ some g) : BRow w' g l := h.keep (hg.block g h.len fun e => hne e.symm)
end
/-- the bytes and their spare room -/
def wide (b : List UInt8) : List UInt8 := b ++ List.replicate 20 90
theorem wide_len (b : List UInt8) : (wide b).length = b.length + 20 := by simp [wide]
theorem wide_low {b : List UInt8} {k : Nat} (h : k < b.length) : (wide b)[k]? = b[k]? := by
  unfold wide; rw [List.getElem?_append_left h]
theorem wide_high {b : List UInt8} {k : Nat} (h : ¬ k < b.length) (h' : k < b.length + 20) : (wide b)[k]? = some 90 := by
  unfold wide
  rw [List.getElem?_append_right (by omega), List.getElem?_replicate, if_pos (by omega)]
theorem wide_take (b : List UInt8) : (wide b).take b.length = b := by unfold wide; rw [List.take_left]
theorem take_set {α : Type} {cur L : List α} {k : Nat} {x : α} (hl : cur.length = L.length) (h : cur.take k = L.take k) (hx : L[k]? = some x) : (cur.set k x).take (k + 1) = L.take (k + 1) := by
  obtain ⟨hk, hv⟩ := List.getElem?_eq_some_iff.1 hx
  have hk2 : k < (cur.set k x).length := by rw [List.length_set]; omega
  rw [List.take_succ_eq_append_getElem hk, List.take_succ_eq_append_getElem hk2, List.getElem_set_self, hv, List.take_set, List.set_eq_of_length_le (by rw [List.length_take]; omega), h]
theorem take_all {α : Type} {cur L : List α} {n : Nat} (hl : cur.length = n) (hL : L.length = n) (h : cur.take n = L.take n) : cur = L := by
  rwa [List.take_of_length_le (by omega), List.take_of_length_le (by omega)] at h
theorem drop_set {α : Type} {cur L : List α} {k : Nat} {x : α} (h : cur.drop k = L.drop k) : (cur.set k x).drop (k + 1) = L.drop (k + 1) := by
  rw [List.drop_set_of_lt (by omega), ← List.drop_drop, ← List.drop_drop, h]
theorem drop_get {α : Type} {cur L : List α} {k : Nat} (h : cur.drop k = L.drop k) : cur[k]? = L[k]? := by
  have := congrArg (fun l => l[0]?) h
  simpa [List.getElem?_drop] using this

/-! fields -/
/-- the block g holds just these fields -/
def FBlk (w : World) (g : Nat) (l : List Fd) : Prop := w.heap[g]? = some (.cells (fcs l).toArray 41 (0, 0))
def markF : Fd := ⟨-7, zeroV⟩
def noneF : Fd := ⟨0, zeroV⟩
theorem fcs_cons (f : Fd) (r : List Fd) : fcs (f :: r) = .int .i64 f.t :: .int .i64 f.v.k :: .int .u64 f.v.n :: .string f.v.s :: fcs r := rfl
theorem fcs_set : ∀ (l : List Fd) (k : Nat) (f : Fd), k < l.length → fcs (l.set k f) = ((((fcs l).set (k * 4) (.int .i64 f.t)).set (k * 4 + 1) (.int .i64 f.v.k)).set (k * 4 + 2) (.int .u64 f.v.n)).set (k * 4 + 3) (.string f.v.s)
  | [], _, _, h => by simp at h
  | x :: r, 0, f, _ => by
    rw [List.set_cons_zero, fcs_cons, fcs_cons]
    rfl
  | x :: r, k + 1, f, h => by
    rw [List.set_cons_succ, fcs_cons, fcs_cons, fcs_set r k f (by simpa using h)]
    rw [show (k + 1) * 4 = k * 4 + 1 + 1 + 1 + 1 by omega]
    rfl
section
variable {w w' : World} {g : Nat} {l : List Fd}
theorem FBlk.len (h : FBlk w g l) : g < w.heap.size := (Array.getElem?_eq_some_iff.1 h).1
theorem FBlk.cells (h : FBlk w g l) {k : Nat} {f : Fd} (hk : l[k]? = some f) : FCell w g (k * 4) f := by
  have q : ∀ j, j < 4 → w.cell? ⟨g, k * 4 + j, none⟩ = (ffC f)[j]? := fun j hj => by
    rw [cell_of_row w g _ _ 41 (0, 0) h, List.getElem?_toArray, fcs_get l k f j hk hj]
  exact ⟨q 0 (by omega), q 1 (by omega), q 2 (by omega), q 3 (by omega)⟩
theorem FBlk.there (h : FBlk w g l) {k : Nat} (hk : k < l.length) : w.there g (k * 4) 4 := fun j hj => by
  refine ⟨?_, ?_⟩
  · rw [cell_of_row w g _ _ 41 (0, 0) h, List.getElem?_toArray, List.getElem?_eq_getElem (by rw [fcs_len]; omega)]
    rfl
  · unfold FBlk at h
    simp [World.frozen?, h]
theorem FBlk.set (h : FBlk w g l) {k : Nat} (hk : k < l.length) (f : Fd) : FBlk (w.setCells g (k * 4) (ffC f).toList) g (l.set k f) := by
  have h0 := heap_setCell_same w g (k * 4) _ _ (.int .i64 f.t) h
  have h1 := heap_setCell_same _ g (k * 4 + 1) _ _ (.int .i64 f.v.k) h0
  have h2 := heap_setCell_same _ g (k * 4 + 2) _ _ (.int .u64 f.v.n) h1
  have h3 := heap_setCell_same _ g (k * 4 + 3) _ _ (.string f.v.s) h2
  unfold FBlk
  rw [fcs_set l k f hk]
  refine Eq.trans h3 ?_
  simp
theorem FBlk.reads (h : FBlk w g l) : FRow w w.heap.size (some ⟨g, 0, none⟩) l :=
  .inr ⟨g, 0, rfl, h.len, fun i f hf => by rw [Nat.zero_add]; exact h.cells hf⟩
theorem FBlk.keep (h : FBlk w g l) (hb : w'.heap[g]? = w.heap[g]?) : FBlk w' g l := hb.trans h
theorem FBlk.below (h : FBlk w g l) (hb : Below w.heap.size w w') : FBlk w' g l := h.keep (hb.block g h.len)
end
theorem run_mkF (n : Nat) (hn : n ≤ 1000000) (W : World) : (Instr.makeSlice 22 (.int .i64 (n : Int)) (.int .i64 (n : Int))).run Tryd.prog W =
    .ok (.slice (some ⟨W.heap.size, 0, none⟩) n n) (W.alloc (.cells (fcs (List.replicate n noneF)).toArray 41)) := by
  obtain ⟨i0, hi, hz0, hz1, hz2⟩ := info_f
  have h := run_make (P := Tryd.prog) W 22 41 i0 _ Tryd.underlying22 hi hz0 .i64 .i64 (n : Int) (n : Int) (by omega) (by omega) (by rw [hz2]; omega) (by omega)
  rw [hz1] at h
  simp only [Int.toNat_natCast] at h
  rw [h]
  suffices e : madeCells (Value.agg #[.int .i64 0, .int .i64 0, .int .u64 0, .string ⟨#[]⟩]).cells (n * 4) = (fcs (List.replicate n noneF)).toArray by rw [e]
  apply Array.ext_getElem?
  intro j
  rw [show (fcs (List.replicate n noneF)).toArray[j]? = (fcs (List.replicate n noneF))[j]? from by simp]
  rcases Nat.lt_or_ge j (n * 4) with hj | hj
  · have e : (List.replicate n noneF)[j / 4]? = some noneF := by rw [List.getElem?_replicate, if_pos (by omega)]
    have := fcs_get _ (j / 4) noneF (j % 4) e (by omega)
    rw [show j / 4 * 4 + j % 4 = j by omega] at this
    rw [this]
    unfold madeCells
    rw [Array.getElem?_map, Array.getElem?_eq_getElem (by simpa using hj), Array.getElem_range]
    have hm : j % 4 < 4 := by omega
    show some ((ffC noneF)[j % 4]!) = _
    rw [getElem!_pos (ffC noneF) (j % 4) hm, Array.getElem?_eq_getElem hm]
  · rw [Array.getElem?_eq_none (by rw [size_madeCells]; exact hj), List.getElem?_eq_none (by rw [fcs_len, List.length_replicate]; exact hj)]
/-- the fields and their spare room -/
def wideF (l : List Fd) : List Fd := l ++ List.replicate 9 markF
theorem wideF_len (l : List Fd) : (wideF l).length = l.length + 9 := by simp [wideF]
theorem wideF_low {l : List Fd} {k : Nat} (h : k < l.length) : (wideF l)[k]? = l[k]? := by
  unfold wideF; rw [List.getElem?_append_left h]
theorem wideF_high {l : List Fd} {k : Nat} (h : ¬ k < l.length) (h' : k < l.length + 9) : (wideF l)[k]? = some markF := by
  unfold wideF
  rw [List.getElem?_append_right (by omega), List.getElem?_replicate, if_pos (by omega)]
theorem wideF_take (l : List Fd) : (wideF l).take l.length = l := by unfold wideF; rw [List.take_left]

/-- the mark stands -/
def MAt (w : World) (M : Nat) : Prop := w.heap[M]? = some (.cells (ffC markF) 41 (0, 0))
section
variable {w w' : World} {M : Nat}
theorem MAt.len (h : MAt w M) : M < w.heap.size := (Array.getElem?_eq_some_iff.1 h).1
theorem MAt.cells (h : MAt w M) : w.cell? ⟨M, 0, none⟩ = some (.int .i64 (-7)) ∧ w.cell? ⟨M, 1, none⟩ = some (.int .i64 0) ∧ w.cell? ⟨M, 2, none⟩ = some (.int .u64 0) ∧ w.cell? ⟨M, 3, none⟩ = some (.string ⟨#[]⟩) := by
  have q := fun j => cell_of_row w M j _ 41 (0, 0) h
  exact ⟨q 0, q 1, q 2, q 3⟩
theorem MAt.keep (h : MAt w M) (hb : w'.heap[M]? = w.heap[M]?) : MAt w' M := hb.trans h
theorem MAt.below (h : MAt w M) (hb : Below w.heap.size w w') : MAt w' M := h.keep (hb.block M h.len)
theorem MAt.grown {row : Option Nat} (h : MAt w M) (hg : w.grownBy w' row) (hne : row ≠ some M) : MAt w' M := h.keep (hg.block M h.len fun e => hne e.symm)
end

/-- a row of the call's own, its contents whatever -/
def Rw (w : World) (base : Nat) (T : TypeId) (s : Nat) (v : Value) (n : Nat) : Prop := ∃ xs, w.ownsRow base T s v n xs
theorem Rw.of {w : World} {base : Nat} {T : TypeId} {s : Nat} {v : Value} {n : Nat} {xs : List Value} (h : w.ownsRow base T s v n xs) : Rw w base T s v n := ⟨xs, h⟩
theorem Rw.low {w : World} {base base' : Nat} {T : TypeId} {s : Nat} {v : Value} {n : Nat} (h : Rw w base T s v n) (hB : base' ≤ base) : Rw w base' T s v n := by
  obtain ⟨xs, h1, h2⟩ := h
  refine ⟨xs, h1, ?_⟩
  rcases h2 with h0 | ⟨g, cap, cur, hv, hb, rest⟩
  · exact .inl h0
  · exact .inr ⟨g, cap, cur, hv, by omega, rest⟩
theorem Rw.kept {w w' : World} {base : Nat} {T : TypeId} {s : Nat} {v : Value} {n : Nat} {row : Option Nat} (h : Rw w base T s v n) (hg : w.grownBy w' row) (hne : v.ownBlock = none ∨ v.ownBlock ≠ row) : Rw w' base T s v n := by
  obtain ⟨xs, h⟩ := h
  exact ⟨xs, h.kept hg hne⟩
theorem Rw.form {w : World} {base : Nat} {T : TypeId} {s : Nat} {A : Option Addr} {m c n : Nat} (h : Rw w base T s (.slice A m c) n) (hn : 0 < n) : ∃ g, A = some ⟨g, 0, none⟩ ∧ m = n ∧ base ≤ g ∧ g < w.heap.size := by
  obtain ⟨xs, h1, h2⟩ := h
  rcases h2 with ⟨_, h0⟩ | ⟨g, cap, cur, hv, hb, hg, rest⟩
  · omega
  · injection hv with e1 e2 e3
    exact ⟨g, e1, e2, hb, (Array.getElem?_eq_some_iff.1 hg).1⟩
theorem Rw.cell {w : World} {base : Nat} {T : TypeId} {s g n c : Nat} (h : Rw w base T s (.slice (some ⟨g, 0, none⟩) n c) n) {j : Nat} (hj : j < n * s) : ∃ v, w.cell? ⟨g, j, none⟩ = some v := by
  obtain ⟨xs, h⟩ := h
  have hl := h.1
  exact ⟨xs[j]'(by omega), by rw [h.cellAt j hj, List.getElem?_eq_getElem]⟩
theorem Rw.frozen {w : World} {base : Nat} {T : TypeId} {s g n c : Nat} (h : Rw w base T s (.slice (some ⟨g, 0, none⟩) n c) n) (j : Nat) : w.frozen? ⟨g, j, none⟩ = false := by
  obtain ⟨xs, h⟩ := h
  exact h.frozenAt j
theorem Rw.there {w : World} {base : Nat} {T : TypeId} {g n c : Nat} (h : Rw w base T 4 (.slice (some ⟨g, 0, none⟩) n c) n) {k : Nat} (hk : k < n) : w.there g (k * 4) 4 := fun j hj => by
  obtain ⟨v, hv⟩ := h.cell (j := k * 4 + j) (by omega)
  exact ⟨by rw [hv]; rfl, h.frozen _⟩
theorem Rw.setCell {w : World} {base : Nat} {T : TypeId} {s g n c : Nat} (h : Rw w base T s (.slice (some ⟨g, 0, none⟩) n c) n) (o : Nat) (u : Value) : Rw (w.setCell ⟨g, o, none⟩ u) base T s (.slice (some ⟨g, 0, none⟩) n c) n := by
  obtain ⟨xs, h⟩ := h
  exact ⟨_, (h.stored o u).1⟩
theorem Rw.setCells {base : Nat} {T : TypeId} {s g n c : Nat} : ∀ (vs : List Value) (o : Nat) (w : World), Rw w base T s (.slice (some ⟨g, 0, none⟩) n c) n → Rw (w.setCells g o vs) base T s (.slice (some ⟨g, 0, none⟩) n c) n
  | [], _, _, h => h
  | v :: r, o, w, h => by
    rw [World.setCells]
    exact Rw.setCells r (o + 1) _ (h.setCell o v)
theorem grown_set {a w : World} {g o : Nat} (h : a.grownBy w (some g)) (v : Value) : a.grownBy (w.setCell ⟨g, o, none⟩ v) (some g) :=
  grown_trans h ((Turned.refl g w).setCell o v).grown
theorem grown_sets {a w : World} {g : Nat} (h : a.grownBy w (some g)) (o : Nat) (vs : List Value) : a.grownBy (w.setCells g o vs) (some g) :=
  grown_trans h (Turned.setCells vs o w (Turned.refl g w)).grown

theorem apart_of {v : Value} {row : Option Nat} {a : Nat} (h1 : ∀ k, v.ownBlock = some k → a ≤ k) (h2 : ∀ k, row = some k → k < a) : v.ownBlock = none ∨ v.ownBlock ≠ row := by
  cases hv : v.ownBlock with
  | none => exact .inl rfl
  | some k => exact .inr fun e => by have := h1 k hv; have := h2 k e.symm; omega
theorem apart_of' {v : Value} {row : Option Nat} {a : Nat} (h1 : ∀ k, v.ownBlock = some k → k < a) (h2 : ∀ k, row = some k → a ≤ k) : v.ownBlock = none ∨ v.ownBlock ≠ row := by
  cases hv : v.ownBlock with
  | none => exact .inl rfl
  | some k => exact .inr fun e => by have := h1 k hv; have := h2 k e.symm; omega
theorem row_ne {row : Option Nat} {a b : Nat} (h : ∀ k, row = some k → a ≤ k) (hb : b < a) : row ≠ some b := fun e => by have := h b e; omega
theorem row_ne' {row : Option Nat} {a b : Nat} (h : ∀ k, row = some k → k < a) (hb : a ≤ b) : row ≠ some b := fun e => by have := h b e; omega

/-- a field stored into a block of fields -/
theorem wpList_store_fld {ops : Array Oper} {rest : List Oper} {op : Oper} {a : Act} {w : World} {Q : Exit → Act → World → Prop} (hgd : op.guard = none) (x y : Operand) (ho : op.op = .store 41 x y)
    (g k o : Nat) (f : Fd) (cur : List Fd) (ho2 : o = k * 4) (hx : a.eval x = .pointer (some ⟨g, o, none⟩)) (hy : a.eval y = .agg (ffC f)) (hB : FBlk w g cur) (hk : k < cur.length)
    (h : ∀ w2, FBlk w2 g (cur.set k f) → Turned g w w2 → wpList Tryd.prog ops Q rest (a.put op.dst undef) w2) : wpList Tryd.prog ops Q (op :: rest) a w := by
  subst ho2
  exact wpList_store_mid hgd 41 x y ho g (k * 4) (ffC f) hx hy (hB.there hk) (by kernel_rfl) (by kernel_rfl) (h _ (hB.set hk f) (Turned.setCells _ _ _ (Turned.refl g w)))
/-- a field stored into a row of the call's own -/
theorem wpList_store_own {ops : Array Oper} {rest : List Oper} {op : Oper} {a : Act} {w : World} {Q : Exit → Act → World → Prop} (hgd : op.guard = none) (x y : Operand) (ho : op.op = .store 41 x y)
    (base g k o n c : Nat) (f : Fd) (ho2 : o = k * 4) (hx : a.eval x = .pointer (some ⟨g, o, none⟩)) (hy : a.eval y = .agg (ffC f)) (hB : Rw w base 41 4 (.slice (some ⟨g, 0, none⟩) n c) n) (hk : k < n)
    (h : ∀ w2, Rw w2 base 41 4 (.slice (some ⟨g, 0, none⟩) n c) n → Turned g w w2 → wpList Tryd.prog ops Q rest (a.put op.dst undef) w2) : wpList Tryd.prog ops Q (op :: rest) a w := by
  subst ho2
  exact wpList_store_mid hgd 41 x y ho g (k * 4) (ffC f) hx hy (hB.there hk) (by kernel_rfl) (by kernel_rfl) (h _ (Rw.setCells _ _ _ hB) (Turned.setCells _ _ _ (Turned.refl g w)))
/-- one element more onto a row of the call's own -/
theorem wpList_app_own {ops : Array Oper} {rest : List Oper} {op : Oper} {a : Act} {w0 : World} {Q : Exit → Act → World → Prop} (hgd : op.guard = none) (s x : Operand) (t : TypeId)
    (ho : op.op = .call { callee := .builtin .append, args := #[s, x], argTypes := #[t, t] })
    (base : Nat) (e : TypeId) (i : TypeInfo) (z : Value) (size bytes : Nat) (ht : Tryd.prog.underlying t = some (.slice e)) (hi : Tryd.prog.info? e = some i) (hz : i.zero = some z)
    (hsize : i.size = size) (hby : i.bytes = bytes) (hzs : z.cells.size = size) (hsz : 0 < size) (hbl : bytes ≤ 40)
    (A : Option Addr) (c m n : Nat) (row : Option Nat) (w5 : World) (hs : a.eval s = .slice A m c) (hown : Rw w0 base e size (.slice A m c) m) (hgr : w5.grownBy w0 row)
    (hrow : ∀ k, (Value.slice A m c).ownBlock = some k → row = some k ∨ w5.heap.size ≤ k)
    (cs : Array Value) (hx : a.eval x = .slice (some ⟨w0.heap.size, 0, none⟩) 1 1) (hl : cs.size = size) (h1 : ∀ u ∈ cs.toList, u.oneCell' = true)
    (hm : m ≤ 1000000000) (hn : m + 1 = n) (hb5 : base ≤ w5.heap.size)
    (h : ∀ A' c' w', Rw w' base e size (.slice A' n c') n → w5.grownBy w' row → (∀ k, (Value.slice A' n c').ownBlock = some k → row = some k ∨ w5.heap.size ≤ k) → wpList Tryd.prog ops Q rest (a.put op.dst (.slice A' n c')) w') :
    wpList Tryd.prog ops Q (op :: rest) a (w0.alloc (.cells cs e)) := by
  subst hn
  have hbase : base ≤ w0.heap.size := Nat.le_trans hb5 hgr.size
  obtain ⟨xs, hown⟩ := hown
  refine wpList_append_lies _ hgd s x t ho base e i z size bytes ht hi hz hsize hby hzs hsz (.slice A m c) m xs hs (hown.alloc _) ⟨w0.heap.size, 0, none⟩ 1 1 cs.toList hx (by simpa using hl)
    (fun j u hu => by rw [Addr.add_lit, Nat.zero_add, cell_of_row _ w0.heap.size _ cs e (0, 0) (heap_alloc_new w0 _), ← Array.getElem?_toList]; exact hu) h1 (by omega) (by simp only [maxLen]; omega)
    (Nat.le_trans (Nat.mul_le_mul_left _ hbl) (by omega)) (by simp; omega) (w0.heap.size + 1) (by simp) ?_
  intro g cap w' ho2 hg2 hat hlt
  refine h (some ⟨g, 0, none⟩) cap w' ⟨_, ho2⟩ ?_ ?_
  · refine ⟨hg2.os.trans hgr.os, hg2.tape.trans hgr.tape, hg2.output.trans hgr.output, by have h1 := hgr.size; have h2 := hg2.size; simp at h2; omega, fun k hk hne => ?_⟩
    have hks : k < w0.heap.size := Nat.lt_of_lt_of_le hk hgr.size
    refine (hg2.block k (by simp; omega) ?_).trans ((heap_alloc_old w0 _ hks).trans (hgr.block k hk hne))
    intro e
    rcases hrow k e.symm with h | h
    · exact hne h.symm
    · omega
  · intro k hk
    have hkg : g = k := by simpa [Value.ownBlock] using hk
    subst hkg
    rcases hat with h | h
    · exact hrow g h
    · exact .inr (by have := hgr.size; omega)
end Go.Proofs.YthekbefbhjllnaaDoor
