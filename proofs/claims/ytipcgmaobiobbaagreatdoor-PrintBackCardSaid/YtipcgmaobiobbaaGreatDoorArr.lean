/- Arrays by value: stored whole into a block that was just made, loaded whole from it, built whole: at a region's list of operations; the cells are whatever, no unrolling. -/
import Derived.WalkKit
import Derived.Deep.WholeRow
import Derived.Deep.MidRow
import Derived.Laws.Tables
namespace Go.Proofs.YtipcgmaobiobbaaGreatDoor
open Go.RowKit

section
variable {P : Program} {ops : Array Oper} {rest : List Oper} {op : Oper} {a : Act} {Q : Exit → Act → World → Prop}

/-- a whole array into the block that was made last -/
theorem wpList_store_last {W : World} (hgd : op.guard = none) (ty : TypeId) (x y : Operand) (ho : op.op = .store ty x y) (b : Nat) (c c' : Array Value)
    (hx : a.eval x = .pointer (some ⟨b, 0, none⟩)) (hy : a.eval y = .agg c') (hb : b = W.heap.size) (hi : (P.info? ty).map (·.size) = some c'.size) (hz : c.size = c'.size) (h1 : c'.all (·.oneCell') = true)
    (h : wpList P ops Q rest (a.put op.dst undef) (W.alloc (.cells c' ty))) : wpList P ops Q (op :: rest) a (W.alloc (.cells c ty)) :=
  wpList_plain hgd fun _ hK => by
    subst hb
    unfold Oper.wp execOp
    simp only [ho, hx, hy, Sem.run_bind, Sem.run_pure, Result.andThen_ok, run_storeAt_new W ty c c' hi hz h1]
    exact hK _ _ h

theorem setRow_alloc_two (w : World) (c c' : Array Value) (t : TypeId) (o : Obj) : ((w.alloc (.cells c t)).alloc o).setRow w.heap.size c' = (w.alloc (.cells c' t)).alloc o := by
  simp only [World.setRow, World.alloc]
  congr 1
  apply Array.ext_getElem?
  intro i
  rw [Array.getElem?_modify]
  by_cases h : w.heap.size = i
  · subst h
    simp [Array.getElem?_push]
  · rw [if_neg h]
    have h' : ¬ i = w.heap.size := fun e => h e.symm
    simp only [Array.getElem?_push, Array.size_push, h', if_false]
theorem heap_alloc_two (w : World) (o o' : Obj) : ((w.alloc o).alloc o').heap[w.heap.size]? = some o := by
  show ((w.heap.push o).push o')[w.heap.size]? = some o
  simp [Array.getElem?_push]

/-- a whole array into the block that was made last but one -/
theorem wpList_store_prev {W : World} (o : Obj) (hgd : op.guard = none) (ty : TypeId) (x y : Operand) (ho : op.op = .store ty x y) (b : Nat) (c c' : Array Value)
    (hx : a.eval x = .pointer (some ⟨b, 0, none⟩)) (hy : a.eval y = .agg c') (hb : b = W.heap.size) (hi : (P.info? ty).map (·.size) = some c'.size) (hz : c.size = c'.size) (h1 : c'.all (·.oneCell') = true)
    (h : wpList P ops Q rest (a.put op.dst undef) ((W.alloc (.cells c' ty)).alloc o)) : wpList P ops Q (op :: rest) a ((W.alloc (.cells c ty)).alloc o) :=
  wpList_plain hgd fun _ hK => by
    subst hb
    have := run_storeVar_row (P := P) ((W.alloc (.cells c ty)).alloc o) W.heap.size ty ty c c' (heap_alloc_two W _ _) hi hz h1
    rw [setRow_alloc_two] at this
    unfold Oper.wp execOp
    simp only [ho, hx, hy, Instr.storeAt, Instr.sureAddr, Sem.run_bind, Sem.run_pure, Result.andThen_ok, this]
    exact hK _ _ h

/-- a whole array out of the block that was made last -/
theorem wpList_load_last {W : World} (hgd : op.guard = none) (ty : TypeId) (x : Operand) (ho : op.op = .load ty x) (b n : Nat) (e : TypeId) (c : Array Value)
    (hx : a.eval x = .pointer (some ⟨b, 0, none⟩)) (hb : b = W.heap.size) (hu : P.underlying ty = some (.array n e)) (hi : (P.info? ty).map (·.size) = some c.size)
    (h : wpList P ops Q rest (a.put op.dst (.agg c)) (W.alloc (.cells c ty))) : wpList P ops Q (op :: rest) a (W.alloc (.cells c ty)) :=
  wpList_plain hgd fun _ hK => by
    subst hb
    unfold Oper.wp execOp
    simp only [ho, hx, Sem.run_bind, Sem.run_pure, Result.andThen_ok, run_loadAt_new W ty c n e hu hi]
    exact hK _ _ h

/-- a whole array or struct, built out of its parts -/
theorem wpList_build {W : World} (hgd : op.guard = none) (ty : TypeId) (parts : Array (Nat × Operand)) (ho : op.op = .build ty parts) (cells : Array Value)
    (hb : P.built ty (parts.map fun (i, x) => (i, a.eval x)).toList = some cells)
    (h : wpList P ops Q rest (a.put op.dst (.agg cells)) W) : wpList P ops Q (op :: rest) a W :=
  wpList_plain hgd fun _ hK => by
    unfold Oper.wp execOp
    simp only [ho, Sem.run_bind, Sem.run_pure, Result.andThen_ok, run_build W ty _ cells hb]
    exact hK _ _ h

/-- a result that is a variable of many cells: it is read whole -/
theorem results_row {fn : Func} {s : Tmp} {t : TypeId} (h : fn.results = #[.cell s t]) (tmps : Array Value) (w : World) (a : Addr) (v : Value) (hp : tmps.getD s undef = .pointer (some a)) (hl : (loadVar t a).run P w = .ok v w) :
    (results fn tmps).run P w = .ok v w := by
  unfold results
  rw [h]
  have hp' : tmps[s]?.getD undef = .pointer (some a) := by simpa [Array.getD_eq_getD_getElem?] using hp
  simp [hp', asAddr, hl]
theorem loadVar_last (w : World) (t : TypeId) (c : Array Value) (n : Nat) (e : TypeId) (hu : P.underlying t = some (.array n e)) (hi : (P.info? t).map (·.size) = some c.size) (b : Nat) (hb : b = w.heap.size) :
    (loadVar t ⟨b, 0, none⟩).run P (w.alloc (.cells c t)) = .ok (.agg c) (w.alloc (.cells c t)) := by
  subst hb; exact run_loadVar_new w t c n e hu hi
theorem loadVar_prev (w : World) (o : Obj) (t : TypeId) (c : Array Value) (n : Nat) (e : TypeId) (hu : P.underlying t = some (.array n e)) (hi : (P.info? t).map (·.size) = some c.size) (b : Nat) (hb : b = w.heap.size) :
    (loadVar t ⟨b, 0, none⟩).run P ((w.alloc (.cells c t)).alloc o) = .ok (.agg c) ((w.alloc (.cells c t)).alloc o) := by
  subst hb; exact run_loadVar_row _ _ t t c (0, 0) _ (heap_alloc_two w _ _) hu rfl hi
end
end Go.Proofs.YtipcgmaobiobbaaGreatDoor
