/- A value in a block of its own: stored whole, loaded whole, answered. No walk here. -/
import Derived.Test.YtijgcfnjbfaelaaDoorTurned
import Derived.Test.YtijgcfnjbfaelaaDoorKindPure
namespace Go.Proofs.YtijgcfnjbfaelaaDoor
open Go.RowKit

/-- a value's parts as the machine holds them -/
def vaC (v : Val) : Array Value := #[.int .i64 v.k, .int .u64 v.n, .string v.s]
/-- the block g holds just this value -/
def VBlk (w : World) (g : Nat) (v : Val) : Prop := w.heap[g]? = some (.cells (vaC v) 24 (0, 0))
section
variable {w w' : World} {g : Nat} {v : Val}
theorem VBlk.new (w : World) (v : Val) : VBlk (w.alloc (.cells (vaC v) 24)) w.heap.size v := heap_alloc_new w _
theorem VBlk.len (h : VBlk w g v) : g < w.heap.size := (Array.getElem?_eq_some_iff.1 h).1
theorem VBlk.cells (h : VBlk w g v) : w.cell? ⟨g, 0, none⟩ = some (.int .i64 v.k) ∧ w.cell? ⟨g, 1, none⟩ = some (.int .u64 v.n) ∧ w.cell? ⟨g, 2, none⟩ = some (.string v.s) := by
  have q := fun j => cell_of_row w g j _ 24 (0, 0) h
  exact ⟨q 0, q 1, q 2⟩
theorem VBlk.frozen (h : VBlk w g v) (i : Nat) : w.frozen? ⟨g, i, none⟩ = false := by
  unfold VBlk at h
  simp [World.frozen?, h]
theorem VBlk.there (h : VBlk w g v) : w.there g 0 3 := fun j hj => by
  refine ⟨?_, h.frozen _⟩
  rw [cell_of_row w g _ _ 24 (0, 0) h, Nat.zero_add, Array.getElem?_eq_getElem (show j < (vaC v).size from hj)]
  rfl
theorem VBlk.keep (h : VBlk w g v) (hb : w'.heap[g]? = w.heap[g]?) : VBlk w' g v := hb.trans h
theorem VBlk.below (h : VBlk w g v) (hb : Below w.heap.size w w') : VBlk w' g v := h.keep (hb.block g h.len)
theorem VBlk.new_ (h : VBlk w g v) (o : Obj) : VBlk (w.alloc o) g v := h.keep (heap_alloc_old w _ h.len)
theorem VBlk.set (h : VBlk w g v) (x : Val) : VBlk (w.setCells g 0 (vaC x).toList) g x := by
  have h0 := heap_setCell_same w g 0 _ _ (.int .i64 x.k) h
  have h1 := heap_setCell_same _ g 1 _ _ (.int .u64 x.n) h0
  have h2 := heap_setCell_same _ g 2 _ _ (.string x.s) h1
  exact h2
theorem VBlk.setN (h : VBlk w g v) (z : Int) : VBlk (w.setCell ⟨g, 1, none⟩ (.int .u64 z)) g ⟨v.k, z, v.s⟩ := heap_setCell_same w g 1 _ _ (.int .u64 z) h
theorem VBlk.setS (h : VBlk w g v) (s : ByteArray) : VBlk (w.setCell ⟨g, 2, none⟩ (.string s)) g ⟨v.k, v.n, s⟩ := heap_setCell_same w g 2 _ _ (.string s) h
theorem VBlk.other (h : VBlk w g v) {b o : Nat} (hb : g ≠ b) (x : Value) : VBlk (w.setCell ⟨b, o, none⟩ x) g v := h.keep (Below.heap_setCell w ⟨b, o, none⟩ x g hb)
theorem VBlk.load (h : VBlk w g v) : (loadVar 24 ⟨g, 0, none⟩).run Tryd.prog w = .ok (.agg (vaC v)) w := by
  have hc : w.rangeAt g 0 (vaC v).toList := fun j x hx => by
    rw [cell_of_row w g _ _ 24 (0, 0) h, Nat.zero_add, ← Array.getElem?_toList]; exact hx
  exact run_loadVar_mid w g 0 24 (vaC v).toList _ hc Tryd.underlying24 rfl (by kernel_rfl)
end
/-- a value stored whole into its block -/
theorem wpList_store_val {ops : Array Oper} {rest : List Oper} {op : Oper} {a : Act} {w : World} {Q : Exit → Act → World → Prop} (hgd : op.guard = none) (x y : Operand) (ho : op.op = .store 24 x y)
    (g : Nat) (v0 v : Val) (hx : a.eval x = .pointer (some ⟨g, 0, none⟩)) (hy : a.eval y = .agg (vaC v)) (hB : VBlk w g v0)
    (h : ∀ w2, VBlk w2 g v → Turned g w w2 → wpList Tryd.prog ops Q rest (a.put op.dst undef) w2) : wpList Tryd.prog ops Q (op :: rest) a w :=
  wpList_store_mid hgd 24 x y ho g 0 (vaC v) hx hy hB.there (by kernel_rfl) (by kernel_rfl) (h _ (hB.set v) (Turned.setCells _ _ _ (Turned.refl g w)))
/-- one cell stored -/
theorem run_storeVar_one {P : Program} (w : World) (b o : Nat) (ty : TypeId) (u : Value) (hu : u.cells = #[u]) (h1 : u.oneCell' = true) (ht : w.there b o 1) (hi : (P.info? ty).map (·.size) = some 1) :
    (storeVar ty ⟨b, o, none⟩ u).run P w = .ok () (w.setCells b o [u]) := by
  have := run_storeCells_cells (P := P) b o [u] 0 w (fun j hj => by simpa using (ht j (by simpa using hj)).1) (fun j hj => by simpa using (ht j (by simpa using hj)).2)
    (fun x hx => by simp at hx; subst hx; exact h1)
  cases hq : P.info? ty with
  | none => simp [hq] at hi
  | some i =>
    have hs : 1 = i.size := by simp [hq] at hi; omega
    simp only [Nat.add_zero] at this
    simp [storeVar, sizeOf, typeInfo, hq, hu, hs, this]
theorem wpList_store_one {P : Program} {ops : Array Oper} {rest : List Oper} {op : Oper} {a : Act} {w : World} {Q : Exit → Act → World → Prop} (hgd : op.guard = none) (ty : TypeId) (x y : Operand) (ho : op.op = .store ty x y)
    (b o : Nat) (u : Value) (hx : a.eval x = .pointer (some ⟨b, o, none⟩)) (hy : a.eval y = u) (hu : u.cells = #[u]) (h1 : u.oneCell' = true) (ht : w.there b o 1) (hi : (P.info? ty).map (·.size) = some 1)
    (h : wpList P ops Q rest (a.put op.dst undef) (w.setCells b o [u])) : wpList P ops Q (op :: rest) a w :=
  wpList_plain hgd fun _ hK => by
    unfold Oper.wp execOp
    simp only [ho, hx, hy, Instr.storeAt, Instr.sureAddr, Sem.run_bind, Sem.run_pure, Result.andThen_ok, run_storeVar_one w b o ty u hu h1 ht hi]
    exact hK _ _ h
theorem VBlk.part {w : World} {g : Nat} {v : Val} (h : VBlk w g v) {o : Nat} (ho : o < 3) : w.there g o 1 := fun j hj => by
  have := h.there (o + j) (by omega)
  rwa [Nat.zero_add] at this
/-- a value's number, its text stored into its block -/
theorem wpList_store_valN {ops : Array Oper} {rest : List Oper} {op : Oper} {a : Act} {w : World} {Q : Exit → Act → World → Prop} (hgd : op.guard = none) (x y : Operand) (ho : op.op = .store 22 x y)
    (g : Nat) (v : Val) (z : Int) (hx : a.eval x = .pointer (some ⟨g, 1, none⟩)) (hy : a.eval y = .int .u64 z) (hB : VBlk w g v)
    (h : ∀ w2, VBlk w2 g ⟨v.k, z, v.s⟩ → Turned g w w2 → wpList Tryd.prog ops Q rest (a.put op.dst undef) w2) : wpList Tryd.prog ops Q (op :: rest) a w :=
  wpList_store_one hgd 22 x y ho g 1 _ hx hy rfl rfl (hB.part (by decide)) (by kernel_rfl) (h _ (hB.setN z) ((Turned.refl g w).setCell 1 _))
theorem wpList_store_valS {ops : Array Oper} {rest : List Oper} {op : Oper} {a : Act} {w : World} {Q : Exit → Act → World → Prop} (hgd : op.guard = none) (x y : Operand) (ho : op.op = .store 9 x y)
    (g : Nat) (v : Val) (s : ByteArray) (hx : a.eval x = .pointer (some ⟨g, 2, none⟩)) (hy : a.eval y = .string s) (hB : VBlk w g v)
    (h : ∀ w2, VBlk w2 g ⟨v.k, v.n, s⟩ → Turned g w w2 → wpList Tryd.prog ops Q rest (a.put op.dst undef) w2) : wpList Tryd.prog ops Q (op :: rest) a w :=
  wpList_store_one hgd 9 x y ho g 2 _ hx hy rfl rfl (hB.part (by decide)) (by kernel_rfl) (h _ (hB.setS s) ((Turned.refl g w).setCell 2 _))
/-- a value loaded whole out of its block -/
theorem wpList_load_val {ops : Array Oper} {rest : List Oper} {op : Oper} {a : Act} {w : World} {Q : Exit → Act → World → Prop} (hgd : op.guard = none) (x : Operand) (ho : op.op = .load 24 x)
    (g : Nat) (v : Val) (hx : a.eval x = .pointer (some ⟨g, 0, none⟩)) (hB : VBlk w g v)
    (h : wpList Tryd.prog ops Q rest (a.put op.dst (.agg (vaC v))) w) : wpList Tryd.prog ops Q (op :: rest) a w :=
  wpList_plain hgd fun _ hK => by
    unfold Oper.wp execOp
    simp only [ho, hx, Instr.loadAt, Instr.sureAddr, Sem.run_bind, Sem.run_pure, Result.andThen_ok, hB.load]
    exact hK _ _ h
/-- a value out of a block, and an error: what is answered -/
theorem results_val {fn : Func} {s t : Tmp} (h : fn.results = #[.cell s 24, .tmp t]) (tmps : Array Value) (w : World) (g : Nat) (v : Val) (u : Value)
    (hp : tmps.getD s undef = .pointer (some ⟨g, 0, none⟩)) (he : tmps.getD t undef = u) (hg : VBlk w g v) : (results fn tmps).run Tryd.prog w = .ok (.tuple #[.agg (vaC v), u]) w := by
  unfold results
  rw [h]
  have hp' : tmps[s]?.getD undef = .pointer (some ⟨g, 0, none⟩) := by simpa [Array.getD_eq_getD_getElem?] using hp
  have he' : tmps[t]?.getD undef = u := by simpa [Array.getD_eq_getD_getElem?] using he
  simp [hp', he', asAddr, hg.load]
end Go.Proofs.YtijgcfnjbfaelaaDoor
