/- One block written, no other; rows of the call's own whose contents are whatever; append onto such a row. No walk here. -/
import Derived.Test.YtipcgmaobiobbaaGreatDoorProg
import Derived.Test.YtipcgmaobiobbaaGreatDoorParGa
import Derived.Deep.MidRow
import Derived.Deep.AppendLies
import Derived.Laws.OwnMore
import Derived.WalkKit
import Derived.Deep.RegionHeld3
import Derived.Laws.CopyOwn
import Derived.Laws.MakeOwn
import Derived.Laws.IdiomCopy
import Derived.OwnWalk
import Derived.Maps.AppendAt
namespace Go.Proofs.YtipcgmaobiobbaaGreatDoor
open Go.RowKit

/-- only the block g has been written, and no block made -/
structure Turned (g : Nat) (a w : World) : Prop where
  os : w.os = a.os
  tape : w.tape = a.tape
  output : w.output = a.output
  size : w.heap.size = a.heap.size
  others : ∀ k, k ≠ g → w.heap[k]? = a.heap[k]?
section
variable {g : Nat} {a w : World}
theorem Turned.refl (g : Nat) (w : World) : Turned g w w := ⟨rfl, rfl, rfl, rfl, fun _ _ => rfl⟩
theorem Turned.setCell (h : Turned g a w) (o : Nat) (v : Value) : Turned g a (w.setCell ⟨g, o, none⟩ v) :=
  ⟨h.os, h.tape, h.output, by rw [← h.size]; simp, fun k hk => (Below.heap_setCell w ⟨g, o, none⟩ v k hk).trans (h.others k hk)⟩
theorem Turned.setCells : ∀ (vs : List Value) (o : Nat) (w : World), Turned g a w → Turned g a (w.setCells g o vs)
  | [], _, _, h => h
  | v :: r, o, w, h => by
    rw [World.setCells]
    exact Turned.setCells r (o + 1) _ (h.setCell o v)
theorem Turned.cell (h : Turned g a w) {b : Nat} (hb : b ≠ g) (j : Nat) : w.cell? ⟨b, j, none⟩ = a.cell? ⟨b, j, none⟩ := World.cell?_of_block (w := a) (h.others b hb)
theorem Turned.below (h : Turned g a w) {B : Nat} (hB : B ≤ g) : Below B a w := ⟨h.os, h.tape, h.output, by rw [h.size]; exact Nat.le_refl _, fun k hk => h.others k (by omega)⟩
theorem Turned.grown (h : Turned g a w) : a.grownBy w (some g) := ⟨h.os, h.tape, h.output, by rw [h.size]; exact Nat.le_refl _, fun k _ hk => h.others k (fun e => hk (by rw [e]))⟩
end
theorem grown_trans {a b c : World} {row : Option Nat} (h : a.grownBy b row) (k : b.grownBy c row) : a.grownBy c row :=
  ⟨k.os.trans h.os, k.tape.trans h.tape, k.output.trans h.output, Nat.le_trans h.size k.size, fun i hi hne => (k.block i (Nat.lt_of_lt_of_le hi h.size) hne).trans (h.block i hi hne)⟩
theorem grown_below {B : Nat} {W a w : World} {row : Option Nat} (hb : Below B W a) (h : a.grownBy w row) (hB : B ≤ a.heap.size) (hg : ∀ k, row = some k → B ≤ k) : Below B W w := hb.grown h hB hg
theorem below_grown {a b : World} (h : Below a.heap.size a b) (row : Option Nat) : a.grownBy b row := ⟨h.os, h.tape, h.output, h.size, fun k hk _ => h.block k hk⟩
theorem grown_cell {a w : World} {row : Option Nat} (h : a.grownBy w row) {b : Nat} (hb : b < a.heap.size) (hne : row ≠ some b) (j : Nat) : w.cell? ⟨b, j, none⟩ = a.cell? ⟨b, j, none⟩ := World.cell?_of_block (w := a) (h.block b hb fun e => hne e.symm)

/-- a row of the call's own, its contents whatever -/
def Rw (w : World) (base : Nat) (T : TypeId) (s : Nat) (v : Value) (n : Nat) : Prop := ∃ xs, w.ownsRow base T s v n xs
theorem Rw.of {w : World} {base : Nat} {T : TypeId} {s : Nat} {v : Value} {n : Nat} {xs : List Value} (h : w.ownsRow base T s v n xs) : Rw w base T s v n := ⟨xs, h⟩
theorem Rw.low {w : World} {base base' : Nat} {T : TypeId} {s : Nat} {v : Value} {n : Nat} (h : Rw w base T s v n) (hB : base' ≤ base) : Rw w base' T s v n := by
  obtain ⟨xs, h1, h2⟩ := h
  refine ⟨xs, h1, ?_⟩
  rcases h2 with h0 | ⟨g, cap, cur, hv, hb, rest⟩
  · exact .inl h0
  · exact .inr ⟨g, cap, cur, hv, by omega, rest⟩
theorem Rw.kept {w w' : World} {base : Nat} {T : TypeId} {s : Nat} {v : Value} {n : Nat} {row : Option Nat} (h : Rw w base T s v n) (hg : w.grownBy w' row) (hne : v.ownBlock = none ∨ v.ownBlock ≠ row) : Rw w' base T s v n := by
  obtain ⟨xs, h⟩ := h
  exact ⟨xs, h.kept hg hne⟩
theorem Rw.form {w : World} {base : Nat} {T : TypeId} {s : Nat} {A : Option Addr} {m c n : Nat} (h : Rw w base T s (.slice A m c) n) (hn : 0 < n) : ∃ g, A = some ⟨g, 0, none⟩ ∧ m = n ∧ base ≤ g ∧ g < w.heap.size := by
  obtain ⟨xs, h1, h2⟩ := h
  rcases h2 with ⟨_, h0⟩ | ⟨g, cap, cur, hv, hb, hg, rest⟩
  · omega
  · injection hv with e1 e2 e3
    exact ⟨g, e1, e2, hb, (Array.getElem?_eq_some_iff.1 hg).1⟩
theorem Rw.cell {w : World} {base : Nat} {T : TypeId} {s g n c : Nat} (h : Rw w base T s (.slice (some ⟨g, 0, none⟩) n c) n) {j : Nat} (hj : j < n * s) : ∃ v, w.cell? ⟨g, j, none⟩ = some v := by
  obtain ⟨xs, h⟩ := h
  have hl := h.1
  exact ⟨xs[j]'(by omega), by rw [h.cellAt j hj, List.getElem?_eq_getElem]⟩
theorem Rw.frozen {w : World} {base : Nat} {T : TypeId} {s g n c : Nat} (h : Rw w base T s (.slice (some ⟨g, 0, none⟩) n c) n) (j : Nat) : w.frozen? ⟨g, j, none⟩ = false := by
  obtain ⟨xs, h⟩ := h
  exact h.frozenAt j
theorem Rw.there {w : World} {base : Nat} {T : TypeId} {g n c : Nat} (h : Rw w base T 4 (.slice (some ⟨g, 0, none⟩) n c) n) {k : Nat} (hk : k < n) : w.there g (k * 4) 4 := fun j hj => by
  obtain ⟨v, hv⟩ := h.cell (j := k * 4 + j) (by omega)
  exact ⟨by rw [hv]; rfl, h.frozen _⟩
theorem Rw.setCell {w : World} {base : Nat} {T : TypeId} {s g n c : Nat} (h : Rw w base T s (.slice (some ⟨g, 0, none⟩) n c) n) (o : Nat) (u : Value) : Rw (w.setCell ⟨g, o, none⟩ u) base T s (.slice (some ⟨g, 0, none⟩) n c) n := by
  obtain ⟨xs, h⟩ := h
  exact ⟨_, (h.stored o u).1⟩
theorem Rw.setCells {base : Nat} {T : TypeId} {s g n c : Nat} : ∀ (vs : List Value) (o : Nat) (w : World), Rw w base T s (.slice (some ⟨g, 0, none⟩) n c) n → Rw (w.setCells g o vs) base T s (.slice (some ⟨g, 0, none⟩) n c) n
  | [], _, _, h => h
  | v :: r, o, w, h => by
    rw [World.setCells]
    exact Rw.setCells r (o + 1) _ (h.setCell o v)
theorem grown_set {a w : World} {g o : Nat} (h : a.grownBy w (some g)) (v : Value) : a.grownBy (w.setCell ⟨g, o, none⟩ v) (some g) :=
  grown_trans h ((Turned.refl g w).setCell o v).grown
theorem grown_sets {a w : World} {g : Nat} (h : a.grownBy w (some g)) (o : Nat) (vs : List Value) : a.grownBy (w.setCells g o vs) (some g) :=
  grown_trans h (Turned.setCells vs o w (Turned.refl g w)).grown

theorem apart_of {v : Value} {row : Option Nat} {a : Nat} (h1 : ∀ k, v.ownBlock = some k → a ≤ k) (h2 : ∀ k, row = some k → k < a) : v.ownBlock = none ∨ v.ownBlock ≠ row := by
  cases hv : v.ownBlock with
  | none => exact .inl rfl
  | some k => exact .inr fun e => by have := h1 k hv; have := h2 k e.symm; omega
theorem apart_of' {v : Value} {row : Option Nat} {a : Nat} (h1 : ∀ k, v.ownBlock = some k → k < a) (h2 : ∀ k, row = some k → a ≤ k) : v.ownBlock = none ∨ v.ownBlock ≠ row := by
  cases hv : v.ownBlock with
  | none => exact .inl rfl
  | some k => exact .inr fun e => by have := h1 k hv; have := h2 k e.symm; omega
theorem row_ne {row : Option Nat} {a b : Nat} (h : ∀ k, row = some k → a ≤ k) (hb : b < a) : row ≠ some b := fun e => by have := h b e; omega
theorem row_ne' {row : Option Nat} {a b : Nat} (h : ∀ k, row = some k → k < a) (hb : a ≤ b) : row ≠ some b := fun e => by have := h b e; omega

/-- one element more onto a row of the call's own -/
theorem wpList_app_own {ops : Array Oper} {rest : List Oper} {op : Oper} {a : Act} {w0 : World} {Q : Exit → Act → World → Prop} (hgd : op.guard = none) (s x : Operand) (t : TypeId)
    (ho : op.op = .call { callee := .builtin .append, args := #[s, x], argTypes := #[t, t] })
    (base : Nat) (e : TypeId) (i : TypeInfo) (z : Value) (size bytes : Nat) (ht : Tryz.prog.underlying t = some (.slice e)) (hi : Tryz.prog.info? e = some i) (hz : i.zero = some z)
    (hsize : i.size = size) (hby : i.bytes = bytes) (hzs : z.cells.size = size) (hsz : 0 < size) (hbl : bytes ≤ 40)
    (A : Option Addr) (c m n : Nat) (row : Option Nat) (w5 : World) (hs : a.eval s = .slice A m c) (hown : Rw w0 base e size (.slice A m c) m) (hgr : w5.grownBy w0 row)
    (hrow : ∀ k, (Value.slice A m c).ownBlock = some k → row = some k ∨ w5.heap.size ≤ k)
    (cs : Array Value) (hx : a.eval x = .slice (some ⟨w0.heap.size, 0, none⟩) 1 1) (hl : cs.size = size) (h1 : ∀ u ∈ cs.toList, u.oneCell' = true)
    (hm : m ≤ 1000000000) (hn : m + 1 = n) (hb5 : base ≤ w5.heap.size)
    (h : ∀ A' c' w', Rw w' base e size (.slice A' n c') n → w5.grownBy w' row → (∀ k, (Value.slice A' n c').ownBlock = some k → row = some k ∨ w5.heap.size ≤ k) → wpList Tryz.prog ops Q rest (a.put op.dst (.slice A' n c')) w') :
    wpList Tryz.prog ops Q (op :: rest) a (w0.alloc (.cells cs e)) := by
  subst hn
  have hbase : base ≤ w0.heap.size := Nat.le_trans hb5 hgr.size
  obtain ⟨xs, hown⟩ := hown
  refine wpList_append_lies _ hgd s x t ho base e i z size bytes ht hi hz hsize hby hzs hsz (.slice A m c) m xs hs (hown.alloc _) ⟨w0.heap.size, 0, none⟩ 1 1 cs.toList hx (by simpa using hl)
    (fun j u hu => by rw [Addr.add_lit, Nat.zero_add, cell_of_row _ w0.heap.size _ cs e (0, 0) (heap_alloc_new w0 _), ← Array.getElem?_toList]; exact hu) h1 (by omega) (by simp only [maxLen]; omega)
    (Nat.le_trans (Nat.mul_le_mul_left _ hbl) (by omega)) (by simp; omega) (w0.heap.size + 1) (by simp) ?_
  intro g cap w' ho2 hg2 hat hlt
  refine h (some ⟨g, 0, none⟩) cap w' ⟨_, ho2⟩ ?_ ?_
  · refine ⟨hg2.os.trans hgr.os, hg2.tape.trans hgr.tape, hg2.output.trans hgr.output, by have h1 := hgr.size; have h2 := hg2.size; simp at h2; omega, fun k hk hne => ?_⟩
    have hks : k < w0.heap.size := Nat.lt_of_lt_of_le hk hgr.size
    refine (hg2.block k (by simp; omega) ?_).trans ((heap_alloc_old w0 _ hks).trans (hgr.block k hk hne))
    intro e
    rcases hrow k e.symm with h | h
    · exact hne h.symm
    · omega
  · intro k hk
    have hkg : g = k := by simpa [Value.ownBlock] using hk
    subst hkg
    rcases hat with h | h
    · exact hrow g h
    · exact .inr (by have := hgr.size; omega)
end Go.Proofs.YtipcgmaobiobbaaGreatDoor
/- All blocks but one stand. No walk here. -/
namespace Go.Proofs.YtipcgmaobiobbaaGreatDoor
open Go.RowKit

/-- all blocks but g stand -/
abbrev Gn (g : Nat) (w w' : World) : Prop := w.grownBy w' (some g)
theorem Gn.refl (g : Nat) (w : World) : Gn g w w := below_grown (Below.refl _ w) _
theorem Gn.of {g : Nat} {w w' : World} (h : Below w.heap.size w w') : Gn g w w' := below_grown h _
theorem Gn.trans {g : Nat} {a b c : World} (h : Gn g a b) (k : Gn g b c) : Gn g a c := grown_trans h k
theorem Gn.set {g : Nat} {a w : World} (h : Gn g a w) (o : Nat) (v : Value) : Gn g a (w.setCell ⟨g, o, none⟩ v) := grown_set h v
theorem Gn.below {g B : Nat} {w w' : World} (h : Gn g w w') (hB : B ≤ w.heap.size) (hg : B ≤ g) : Below B w w' := ⟨h.os, h.tape, h.output, h.size, fun k hk => h.block k (by omega) (fun e => by have := Option.some.inj e; omega)⟩
theorem Gn.other {g b : Nat} {w w' : World} (h : Gn g w w') (hb : b < w.heap.size) (hne : b ≠ g) : w'.heap[b]? = w.heap[b]? := h.block b hb fun e => hne (Option.some.inj e)
end Go.Proofs.YtipcgmaobiobbaaGreatDoor
/- Blocks, rows of structs, trees in memory: rows within rows, each of the call's own, each by itself. No walk here. -/
namespace Go.Proofs.YtipcgmaobiobbaaGreatDoor
open Go.RowKit

def obk (A : Option Addr) : Option Nat := A.map (·.block)
theorem obk_own (A : Option Addr) (n c : Nat) : (Value.slice A n c).ownBlock = obk A := by cases A <;> rfl
theorem info_three {P : Program} {T : TypeId} {z : Value} {s b : Nat} (h : (P.info? T).map (fun i => (i.zero, i.size, i.bytes)) = some (some z, s, b)) : ∃ i, P.info? T = some i ∧ i.zero = some z ∧ i.size = s ∧ i.bytes = b := by
  cases hq : P.info? T with
  | none => rw [hq] at h; cases h
  | some i =>
    rw [hq] at h
    simp only [Option.map_some, Option.some.injEq, Prod.mk.injEq] at h
    exact ⟨i, rfl, h.1, h.2.1, h.2.2⟩
/-! ### a block that holds just these cells -/
def CB (w : World) (b : Nat) (T : TypeId) (cs : Array Value) : Prop := w.heap[b]? = some (.cells cs T (0, 0))
section
variable {w w' : World} {b : Nat} {T : TypeId} {cs : Array Value}
theorem CB.len (h : CB w b T cs) : b < w.heap.size := (Array.getElem?_eq_some_iff.1 h).1
theorem CB.at_ (h : CB w b T cs) (j : Nat) : w.cell? ⟨b, j, none⟩ = cs[j]? := cell_of_row w b j cs T (0, 0) h
theorem CB.frozen (h : CB w b T cs) (i : Nat) : w.frozen? ⟨b, i, none⟩ = false := by
  unfold CB at h
  simp [World.frozen?, h]
theorem CB.keep (h : CB w b T cs) (hb : w'.heap[b]? = w.heap[b]?) : CB w' b T cs := hb.trans h
theorem CB.new (w : World) (T : TypeId) (cs : Array Value) : CB (w.alloc (.cells cs T)) w.heap.size T cs := heap_alloc_new w _
theorem CB.below (h : CB w b T cs) (hb : Below w.heap.size w w') : CB w' b T cs := h.keep (hb.block b h.len)
theorem CB.there (h : CB w b T cs) {n : Nat} (hn : n ≤ cs.size) : w.there b 0 n := fun j hj => by
  refine ⟨?_, h.frozen _⟩
  rw [h.at_, Nat.zero_add, Array.getElem?_eq_getElem (show j < cs.size by omega)]
  rfl
theorem CB.load {P : Program} (h : CB w b T cs) {d : TypeDesc} (hu : P.underlying T = some d) (hd : d.isRow = true) (hi : (P.info? T).map (·.size) = some cs.size) : (loadVar T ⟨b, 0, none⟩).run P w = .ok (.agg cs) w := by
  have hc : w.rangeAt b 0 cs.toList := fun j y hy => by
    rw [h.at_, Nat.zero_add, ← Array.getElem?_toList]; exact hy
  have := run_loadVar_mid w b 0 T cs.toList d hc hu hd (by simpa using hi)
  simpa using this
end
/-- a struct out of a block, answered by itself -/
theorem results_cb {P : Program} {fn : Func} {s : Tmp} {T : TypeId} (h : fn.results = #[.cell s T]) (tmps : Array Value) (w : World) (b : Nat) (cs : Array Value)
    (hp : tmps.getD s undef = .pointer (some ⟨b, 0, none⟩)) (hb : CB w b T cs) {d : TypeDesc} (hu : P.underlying T = some d) (hd : d.isRow = true) (hi : (P.info? T).map (·.size) = some cs.size) : (results fn tmps).run P w = .ok (.agg cs) w := by
  unfold results
  rw [h]
  have hp' : tmps[s]?.getD undef = .pointer (some ⟨b, 0, none⟩) := by simpa [Array.getD_eq_getD_getElem?] using hp
  simp [hp', asAddr, hb.load hu hd hi]
/-- cells stored whole, one by one -/
theorem setCells_all {b : Nat} {T : TypeId} : ∀ (vs : List Value) (cs : List Value) (w : World) (k : Nat), CB w b T cs.toArray → k + vs.length ≤ cs.length → CB (w.setCells b k vs) b T (cs.take k ++ vs ++ cs.drop (k + vs.length)).toArray
  | [], cs, w, k, h, _ => by
    have : cs.take k ++ [] ++ cs.drop (k + ([] : List Value).length) = cs := by simp
    rw [this]
    exact h
  | v :: r, cs, w, k, h, hk => by
    rw [World.setCells]
    rw [List.length_cons] at hk
    have h1 : CB (w.setCell ⟨b, k, none⟩ v) b T (cs.set k v).toArray := by
      have := heap_setCell_same w b k _ _ v h
      unfold CB
      rw [this]
      simp
    have h2 := setCells_all r (cs.set k v) _ (k + 1) h1 (by rw [List.length_set]; omega)
    have e : (cs.set k v).take (k + 1) ++ r ++ (cs.set k v).drop (k + 1 + r.length) = cs.take k ++ (v :: r) ++ cs.drop (k + (v :: r).length) := by
      rw [List.length_cons, show k + (r.length + 1) = k + 1 + r.length by omega]
      have hk2 : k < cs.length := by omega
      rw [List.set_eq_take_append_cons_drop, if_pos hk2]
      have hl : (cs.take k).length = k := by rw [List.length_take]; omega
      have e1 : (cs.take k ++ v :: cs.drop (k + 1)).take (k + 1) = cs.take k ++ [v] := by
        rw [List.take_append, hl, List.take_of_length_le (by omega)]
        congr 1
        rw [show k + 1 - k = 1 by omega]
        rfl
      have e2 : (cs.take k ++ v :: cs.drop (k + 1)).drop (k + 1 + r.length) = cs.drop (k + 1 + r.length) := by
        rw [List.drop_append, hl, List.drop_of_length_le (by omega), List.nil_append, show k + 1 + r.length - k = r.length + 1 by omega, List.drop_succ_cons, List.drop_drop]
      rw [e1, e2]
      simp
    rw [← e]
    exact h2
theorem CB.store {w : World} {b : Nat} {T : TypeId} {cs0 cs : Array Value} (h : CB w b T cs0) (hs : cs.size = cs0.size) : CB (w.setCells b 0 cs.toList) b T cs := by
  have := setCells_all cs.toList cs0.toList w 0 (by simpa using h) (by simp [hs])
  have e : (cs0.toList.take 0 ++ cs.toList ++ cs0.toList.drop (0 + cs.toList.length)).toArray = cs := by
    rw [List.drop_of_length_le (by simp [hs])]
    simp
  rwa [e] at this
/-- a struct stored whole into its block -/
theorem wpList_store_cb {P : Program} {ops : Array Oper} {rest : List Oper} {op : Oper} {a : Act} {w : World} {Q : Exit → Act → World → Prop} (hgd : op.guard = none) (T : TypeId) (x y : Operand) (ho : op.op = .store T x y)
    (b : Nat) (cs0 cs : Array Value) (hx : a.eval x = .pointer (some ⟨b, 0, none⟩)) (hy : a.eval y = .agg cs) (hB : CB w b T cs0) (hs : cs.size = cs0.size) (hi : (P.info? T).map (·.size) = some cs.size) (h1 : cs.all (·.oneCell') = true)
    (h : ∀ w2, CB w2 b T cs → Turned b w w2 → wpList P ops Q rest (a.put op.dst undef) w2) : wpList P ops Q (op :: rest) a w :=
  wpList_store_mid hgd T x y ho b 0 cs hx hy (hB.there (by omega)) hi h1 (h _ (hB.store hs) (Turned.setCells _ _ _ (Turned.refl b w)))
/-- a struct loaded whole out of its block -/
theorem wpList_load_cb {P : Program} {ops : Array Oper} {rest : List Oper} {op : Oper} {a : Act} {w : World} {Q : Exit → Act → World → Prop} (hgd : op.guard = none) (T : TypeId) (x : Operand) (ho : op.op = .load T x)
    (b : Nat) (cs : Array Value) (hx : a.eval x = .pointer (some ⟨b, 0, none⟩)) (hB : CB w b T cs) {d : TypeDesc} (hu : P.underlying T = some d) (hd : d.isRow = true) (hi : (P.info? T).map (·.size) = some cs.size)
    (h : wpList P ops Q rest (a.put op.dst (.agg cs)) w) : wpList P ops Q (op :: rest) a w :=
  wpList_plain hgd fun _ hK => by
    unfold Oper.wp execOp
    simp only [ho, hx, Instr.loadAt, Instr.sureAddr, Sem.run_bind, Sem.run_pure, Result.andThen_ok, hB.load hu hd hi]
    exact hK _ _ h

/-! ### rows of structs -/
def flatR {α : Type} (f : α → Array Value) (l : List α) : List Value := l.flatMap fun x => (f x).toList
section
variable {α : Type} {f : α → Array Value} {s : Nat}
theorem flatR_len (hs : ∀ x, (f x).size = s) (l : List α) : (flatR f l).length = l.length * s := by
  induction l with
  | nil => simp [flatR]
  | cons x r ih =>
    show ((f x).toList ++ flatR f r).length = _
    rw [List.length_append, ih, Array.length_toList, hs, List.length_cons, Nat.add_mul, Nat.one_mul, Nat.add_comm]
theorem flatR_snoc (l : List α) (x : α) : flatR f (l ++ [x]) = flatR f l ++ (f x).toList := by unfold flatR; rw [List.flatMap_append]; simp
theorem flatR_at (hs : ∀ x, (f x).size = s) : ∀ (l : List α) (i : Nat) (x : α), l[i]? = some x → ∀ j, j < s → (flatR f l)[i * s + j]? = (f x)[j]?
  | [], _, _, h, _, _ => by simp at h
  | y :: r, 0, x, h, j, hj => by
    simp only [List.getElem?_cons_zero, Option.some.injEq] at h
    subst h
    show ((f y).toList ++ flatR f r)[0 * s + j]? = _
    rw [Nat.zero_mul, Nat.zero_add, List.getElem?_append_left (by rw [Array.length_toList, hs]; exact hj), Array.getElem?_toList]
  | y :: r, i + 1, x, h, j, hj => by
    simp only [List.getElem?_cons_succ] at h
    show ((f y).toList ++ flatR f r)[(i + 1) * s + j]? = _
    have e : (i + 1) * s + j - s = i * s + j := by rw [Nat.add_mul]; omega
    rw [List.getElem?_append_right (by rw [Array.length_toList, hs, Nat.add_mul]; omega), Array.length_toList, hs, e]
    exact flatR_at hs r i x h j hj
end

/-- what rows of one kind are made of -/
structure Lev (α : Type) where
  T : TypeId
  s : Nat
  f : α → Array Value
  H : World → Nat → α → Prop
  bl : α → List Nat
def Lev.bls {α : Type} (L : Lev α) (A : Option Addr) (l : List α) : List Nat := (obk A).toList ++ l.flatMap L.bl
structure Lev.Ok {α : Type} (L : Lev α) : Prop where
  size : ∀ x, (L.f x).size = L.s
  one : ∀ x, ∀ u ∈ (L.f x).toList, u.oneCell' = true
  keep : ∀ {w w' : World} {B : Nat} {x : α}, L.H w B x → (∀ b ∈ L.bl x, w'.heap[b]? = w.heap[b]?) → L.H w' B x
  low : ∀ {w : World} {B B' : Nat} {x : α}, L.H w B x → B' ≤ B → L.H w B' x
  bd : ∀ {w : World} {B : Nat} {x : α}, L.H w B x → ∀ b ∈ L.bl x, B ≤ b ∧ b < w.heap.size
  nd : ∀ {w : World} {B : Nat} {x : α}, L.H w B x → (L.bl x).Nodup
/-- a row of the call's own from B on, with all that its parts own, each block by itself -/
structure Built {α : Type} (L : Lev α) (w : World) (B : Nat) (A : Option Addr) (c : Nat) (l : List α) : Prop where
  own : w.ownsRow B L.T L.s (.slice A l.length c) l.length (flatR L.f l)
  each : ∀ x ∈ l, L.H w B x
  nd : (L.bls A l).Nodup
theorem ownsRow_low {w : World} {B B' : Nat} {e : TypeId} {s : Nat} {v : Value} {n : Nat} {xs : List Value} (h : w.ownsRow B e s v n xs) (hB : B' ≤ B) : w.ownsRow B' e s v n xs := by
  refine ⟨h.1, ?_⟩
  rcases h.2 with h0 | ⟨g, cap, cur, hv, hg, rest⟩
  · exact .inl h0
  · exact .inr ⟨g, cap, cur, hv, by omega, rest⟩
theorem ownsRow_keep {w w' : World} {B : Nat} {e : TypeId} {s : Nat} {A : Option Addr} {m c n : Nat} {xs : List Value} (h : w.ownsRow B e s (.slice A m c) n xs) (hk : ∀ b, obk A = some b → w'.heap[b]? = w.heap[b]?) : w'.ownsRow B e s (.slice A m c) n xs := by
  refine ⟨h.1, ?_⟩
  rcases h.2 with h0 | ⟨g, cap, cur, hv, hg, hc, rest⟩
  · exact .inl h0
  · refine .inr ⟨g, cap, cur, hv, hg, ?_, rest⟩
    rw [hk g ?_]
    · exact hc
    · injection hv with e1 e2 e3
      rw [e1]
      rfl
section
variable {α : Type} {L : Lev α} (O : L.Ok) {w w' : World} {B : Nat} {A : Option Addr} {c : Nat} {l : List α}
theorem mem_bls {b : Nat} : b ∈ L.bls A l ↔ obk A = some b ∨ ∃ x ∈ l, b ∈ L.bl x := by
  unfold Lev.bls
  rw [List.mem_append, List.mem_flatMap, Option.mem_toList]
theorem Built.nil (L : Lev α) (w : World) (B : Nat) : Built L w B none 0 [] := ⟨World.ownsRow_nil w B _ _, nofun, .nil⟩
include O
theorem Built.keep (h : Built L w B A c l) (hk : ∀ b ∈ L.bls A l, w'.heap[b]? = w.heap[b]?) : Built L w' B A c l :=
  ⟨ownsRow_keep h.own fun b hb => hk b (mem_bls.2 (.inl hb)), fun x hx => O.keep (h.each x hx) fun b hb => hk b (mem_bls.2 (.inr ⟨x, hx, hb⟩)), h.nd⟩
theorem Built.bd (h : Built L w B A c l) : ∀ b ∈ L.bls A l, B ≤ b ∧ b < w.heap.size := fun b hb => by
  rcases mem_bls.1 hb with z | ⟨x, hx, z⟩
  · exact World.ownsRow.lt h.own b (by rw [obk_own]; exact z)
  · exact O.bd (h.each x hx) b z
theorem Built.low {B' : Nat} (h : Built L w B A c l) (hB : B' ≤ B) : Built L w B' A c l := ⟨ownsRow_low h.own hB, fun x hx => O.low (h.each x hx) hB, h.nd⟩
theorem Built.below (h : Built L w B A c l) (hb : Below w.heap.size w w') : Built L w' B A c l := h.keep O fun b hb' => hb.block b (h.bd O b hb').2
omit O in
theorem grown_keep {row : Option Nat} (hg : w.grownBy w' row) {b : Nat} (hb : b < w.heap.size) (hne : row ≠ some b) : w'.heap[b]? = w.heap[b]? := hg.block b hb fun e => hne e.symm
/-- one part more, just laid and appended -/
theorem run_app_lev {P : Program} (h : Built L w B A c l) (t : TypeId) (i : TypeInfo) (z : Value) (bytes : Nat) (ht : P.underlying t = some (.slice L.T)) (hi : P.info? L.T = some i) (hz : i.zero = some z) (hs : i.size = L.s) (hby : i.bytes = bytes) (hzs : z.cells.size = L.s) (hp : 0 < L.s) (hbs : bytes ≤ 1000)
    (x : α) (hx : L.H w B x) (hd : ∀ b ∈ L.bl x, b ∉ L.bls A l) (hl : l.length ≤ 2000000) (hB : B ≤ w.heap.size) :
    ∃ g c' w', (Builtin.append_ #[t, t] t #[.slice A l.length c, .slice (some ⟨w.heap.size, 0, none⟩) 1 1]).run P (w.alloc (.cells (L.f x) L.T)) = .ok (.slice (some ⟨g, 0, none⟩) (l.length + 1) c') w' ∧
      Built L w' B (some ⟨g, 0, none⟩) c' (l ++ [x]) ∧ (obk A = some g ∨ w.heap.size ≤ g) ∧ w.grownBy w' (obk A) := by
  have hby2 : (l.length + 1) * bytes ≤ 2000001 * 1000 := Nat.mul_le_mul (by omega) hbs
  have ho := h.own.alloc (.cells (L.f x) L.T)
  obtain ⟨g, c', w', hr, hown, hg, hat, hlt⟩ := run_append_lies (P := P) (w.alloc (.cells (L.f x) L.T)) t t B L.T i z L.s bytes ht hi hz hs hby hzs hp _ l.length (flatR L.f l) ho ⟨w.heap.size, 0, none⟩ 1 1 (L.f x).toList
    (by rw [Array.length_toList, O.size, Nat.one_mul]) (fun j u hu => by rw [Addr.add_lit, Nat.zero_add, cell_of_row _ w.heap.size _ (L.f x) L.T (0, 0) (heap_alloc_new w _), ← Array.getElem?_toList]; exact hu)
    (O.one x) (by decide) (by simp only [maxLen]; omega) (by omega) (by simp; omega) _ rfl
  rw [obk_own] at hg hat
  have hg2 : w.grownBy w' (obk A) := grown_trans (below_grown ((Below.refl _ w).alloc (Nat.le_refl _) _) _) hg
  have hat2 : obk A = some g ∨ w.heap.size ≤ g := hat.imp id fun e => by rw [e]; simp
  have hbd := h.bd O
  have hne : ∀ y ∈ l, ∀ b ∈ L.bl y, obk A ≠ some b := fun y hy b hb e => by
    have := h.nd
    unfold Lev.bls at this
    rw [e] at this
    exact (List.nodup_append.1 this).2.2 b (by simp) b (List.mem_flatMap.2 ⟨y, hy, hb⟩) rfl
  have hnx : ∀ b ∈ L.bl x, obk A ≠ some b := fun b hb e => hd b hb (mem_bls.2 (.inl e))
  have hbx := O.bd hx
  refine ⟨g, c', w', hr, ⟨?_, fun y hy => ?_, ?_⟩, hat2, hg2⟩
  · rw [flatR_snoc, List.length_append]
    exact hown
  · rcases List.mem_append.1 hy with hy | hy
    · exact O.keep (h.each y hy) fun b hb => grown_keep hg2 (O.bd (h.each y hy) b hb).2 (hne y hy b hb)
    · rw [List.mem_singleton] at hy
      subst hy
      exact O.keep hx fun b hb => grown_keep hg2 (hbx b hb).2 (hnx b hb)
  · unfold Lev.bls
    rw [List.flatMap_append]
    have hn := h.nd
    unfold Lev.bls at hn
    have hn2 := (List.nodup_append.1 hn).2.1
    have hnb : ∀ b, b ∈ l.flatMap L.bl ∨ b ∈ L.bl x → b ≠ g := fun b hb e => by
      subst e
      have hlt : b < w.heap.size := by
        rcases hb with z | z
        · obtain ⟨y, hy, z⟩ := List.mem_flatMap.1 z
          exact (O.bd (h.each y hy) b z).2
        · exact (hbx b z).2
      rcases hat2 with e | e
      · rcases hb with z | z
        · obtain ⟨y, hy, z⟩ := List.mem_flatMap.1 z
          exact hne y hy b z e
        · exact hnx b z e
      · omega
    have e1 : ([x] : List α).flatMap L.bl = L.bl x := by simp
    rw [e1]
    show (g :: (l.flatMap L.bl ++ L.bl x)).Nodup
    rw [List.nodup_cons]
    refine ⟨fun hm => ?_, List.nodup_append.2 ⟨hn2, O.nd hx, fun a ha b hb e => ?_⟩⟩
    · exact hnb g (List.mem_append.1 hm) rfl
    · subst e
      obtain ⟨y, hy, z⟩ := List.mem_flatMap.1 ha
      exact hd a hb (mem_bls.2 (.inr ⟨y, hy, z⟩))
end
end Go.Proofs.YtipcgmaobiobbaaGreatDoor
/- The greater of two numbers, at a step of the walk. No walk here. -/
namespace Go.Proofs.YtipcgmaobiobbaaGreatDoor
open Go.RowKit

theorem run_max {P : Program} {w : World} {T : TypeId} {u v m : Int} (hm : (if v > u then v else u) = m) : (Builtin.max_ #[T, T] T #[.int .i64 u, .int .i64 v]).run P w = .ok (.int .i64 m) w := by
  subst hm
  rfl
theorem step_max {P : Program} {w : World} {ops : Array Oper} {o : Oper} {a : Act} {K : Act → World → Prop} {Q : Exit → Act → World → Prop} {E : Prop} (hgd : o.guard = none) (s x : Operand) (T : TypeId)
    (ho : o.op = .call { callee := .builtin .max, args := #[s, x], argTypes := #[T, T] }) (ht : o.type = T) {u v : Int} (m : Int) (hs : a.eval s = .int .i64 u) (hx : a.eval x = .int .i64 v) (hm : (if v > u then v else u) = m)
    (h : K (a.put o.dst (.int .i64 m)) w) : if Region.wanted o (yielded ops a.tmps) = true then Oper.wp P o a w K Q else E := by
  have hw : Region.wanted o (yielded ops a.tmps) = true := by simp [Region.wanted, hgd]
  rw [if_pos hw]
  unfold Oper.wp execOp
  simp only [ho, ht, resolve, invoke, builtin, Sem.run_bind, Sem.run_pure, Result.andThen_ok, List.map_toArray, List.map_cons, List.map_nil, hs, hx, run_max hm]
  exact h
theorem wpList_max {P : Program} {ops : Array Oper} {rest : List Oper} {o : Oper} {a : Act} {w : World} {Q : Exit → Act → World → Prop} (hgd : o.guard = none) (s x : Operand) (T : TypeId)
    (ho : o.op = .call { callee := .builtin .max, args := #[s, x], argTypes := #[T, T] }) (ht : o.type = T) {u v : Int} (m : Int) (hs : a.eval s = .int .i64 u) (hx : a.eval x = .int .i64 v) (hm : (if v > u then v else u) = m)
    (h : wpList P ops Q rest (a.put o.dst (.int .i64 m)) w) : wpList P ops Q (o :: rest) a w :=
  wpList_plain hgd fun _ hK => by
    unfold Oper.wp execOp
    simp only [ho, ht, resolve, invoke, builtin, Sem.run_bind, Sem.run_pure, Result.andThen_ok, List.map_toArray, List.map_cons, List.map_nil, hs, hx, run_max hm]
    exact hK _ _ h
end Go.Proofs.YtipcgmaobiobbaaGreatDoor
/- The walk of the code: is a text one of the words. -/
namespace Go.Proofs.YtipcgmaobiobbaaGreatDoor
open Go.RowKit

theorem str_lit (l m : List UInt8) : ((str l).toList == m) = decide (l = m) := by
  have h := str_eq l m
  have e : (str m).toList = m := by rw [ByteArray.toList_eq]; simp [str]
  rwa [e] at h
theorem clash {b : Bool} (h1 : b = true) (h2 : b = false) : False := by rw [h1] at h2; cases h2
theorem lit_yes {l m : List UInt8} (h : ((str l).toList == m) = true) : l = m := by rw [str_lit] at h; exact of_decide_eq_true h
theorem lit_no {l m : List UInt8} (h : ((str l).toList == m) = false) : l ≠ m := by rw [str_lit] at h; exact of_decide_eq_false h
theorem words_eq : words = [[101, 118, 101, 110, 116], [118, 101, 114, 115, 105, 111, 110], [97, 100, 100], [114, 101, 110, 97, 109, 101], [115, 112, 108, 105, 116], [106, 111, 105, 110], [114, 101, 116, 121, 112, 101], [100, 114, 111, 112], [116, 111], [97, 116], [105, 110, 116, 111], [119, 105, 116, 104], [116, 114, 117, 101], [102, 97, 108, 115, 101], [99, 97, 116], [114, 101, 112], [108, 101, 110], [104, 101, 120]] := by decide +kernel
theorem word_in {s m : List UInt8} (h : ((str s).toList == m) = true) (hm : m ∈ words) : s ∈ words := by rw [lit_yes h]; exact hm
theorem word_out {s : List UInt8} (h0 : ((str s).toList == [101, 118, 101, 110, 116]) = false) (h1 : ((str s).toList == [118, 101, 114, 115, 105, 111, 110]) = false) (h2 : ((str s).toList == [97, 100, 100]) = false) (h3 : ((str s).toList == [114, 101, 110, 97, 109, 101]) = false) (h4 : ((str s).toList == [115, 112, 108, 105, 116]) = false) (h5 : ((str s).toList == [106, 111, 105, 110]) = false) (h6 : ((str s).toList == [114, 101, 116, 121, 112, 101]) = false) (h7 : ((str s).toList == [100, 114, 111, 112]) = false) (h8 : ((str s).toList == [116, 111]) = false) (h9 : ((str s).toList == [97, 116]) = false) (h10 : ((str s).toList == [105, 110, 116, 111]) = false) (h11 : ((str s).toList == [119, 105, 116, 104]) = false) (h12 : ((str s).toList == [116, 114, 117, 101]) = false) (h13 : ((str s).toList == [102, 97, 108, 115, 101]) = false) (h14 : ((str s).toList == [99, 97, 116]) = false) (h15 : ((str s).toList == [114, 101, 112]) = false) (h16 : ((str s).toList == [108, 101, 110]) = false) (h17 : ((str s).toList == [104, 101, 120]) = false) : s ∉ words := by
  rw [words_eq]
  intro h
  simp only [List.mem_cons, List.not_mem_nil, or_false] at h
  rcases h with h | h | h | h | h | h | h | h | h | h | h | h | h | h | h | h | h | h
  · exact lit_no h0 h
  · exact lit_no h1 h
  · exact lit_no h2 h
  · exact lit_no h3 h
  · exact lit_no h4 h
  · exact lit_no h5 h
  · exact lit_no h6 h
  · exact lit_no h7 h
  · exact lit_no h8 h
  · exact lit_no h9 h
  · exact lit_no h10 h
  · exact lit_no h11 h
  · exact lit_no h12 h
  · exact lit_no h13 h
  · exact lit_no h14 h
  · exact lit_no h15 h
  · exact lit_no h16 h
  · exact lit_no h17 h

set_option maxRecDepth 100000 in
set_option maxHeartbeats 4000000 in
theorem isWord_any (w : World) (s : List UInt8) : Calls Tryz.prog 75 #[.string (str s)] w fun e w' => e = .returned (.bool (decide (s ∈ words))) ∧ w = w' := by
  obtain ⟨b, hb⟩ : ∃ b, decide (s ∈ words) = b := ⟨_, rfl⟩
  rw [hb]
  have HB := Lib.hid hb
  clear hb
  go_enter Tryz.func75, Tryz.ntmps75
  go_wp2
  all_goals go_ret
  all_goals first
    | exact (clash (by assumption) (by assumption)).elim
    | exact ⟨ret_bool (((decide_eq_true (word_in (by assumption) (by decide +kernel))).symm.trans HB.out)), rfl⟩
    | exact ⟨ret_bool (((decide_eq_false (word_out (by assumption) (by assumption) (by assumption) (by assumption) (by assumption) (by assumption) (by assumption) (by assumption) (by assumption) (by assumption) (by assumption) (by assumption) (by assumption) (by assumption) (by assumption) (by assumption) (by assumption) (by assumption))).symm.trans HB.out)), rfl⟩
    | fail
end Go.Proofs.YtipcgmaobiobbaaGreatDoor
/- Words on memory for layer 8: a token in a block of its own, tokens in a row. No walk here. -/
namespace Go.Proofs.YtipcgmaobiobbaaGreatDoor
open Go.RowKit
open Go.Lib (byteCells)

/-- a token's parts as the machine holds them -/
def tkC (x : Tk) : Array Value := #[.int .i64 (x.k : Nat), .string (str x.t), .int .u64 (x.n : Nat), .int .i64 (x.a : Nat), .int .i64 (x.e : Nat)]
def tk0 : Tk := ⟨0, [], 0, 0, 0⟩
/-- the block g holds just this token -/
def TBlk (w : World) (g : Nat) (x : Tk) : Prop := w.heap[g]? = some (.cells (tkC x) 84 (0, 0))
section
variable {w w' : World} {g : Nat} {x : Tk}
theorem TBlk.new (w : World) (x : Tk) : TBlk (w.alloc (.cells (tkC x) 84)) w.heap.size x := heap_alloc_new w _
theorem TBlk.len (h : TBlk w g x) : g < w.heap.size := (Array.getElem?_eq_some_iff.1 h).1
theorem TBlk.cells (h : TBlk w g x) : w.cell? ⟨g, 0, none⟩ = some (.int .i64 (x.k : Nat)) ∧ w.cell? ⟨g, 1, none⟩ = some (.string (str x.t)) ∧ w.cell? ⟨g, 2, none⟩ = some (.int .u64 (x.n : Nat)) ∧ w.cell? ⟨g, 3, none⟩ = some (.int .i64 (x.a : Nat)) ∧ w.cell? ⟨g, 4, none⟩ = some (.int .i64 (x.e : Nat)) := by
  have q := fun j => cell_of_row w g j _ 84 (0, 0) h
  exact ⟨q 0, q 1, q 2, q 3, q 4⟩
theorem TBlk.frozen (h : TBlk w g x) (i : Nat) : w.frozen? ⟨g, i, none⟩ = false := by
  unfold TBlk at h
  simp [World.frozen?, h]
theorem TBlk.there (h : TBlk w g x) : w.there g 0 5 := fun j hj => by
  refine ⟨?_, h.frozen _⟩
  rw [cell_of_row w g _ _ 84 (0, 0) h, Nat.zero_add, Array.getElem?_eq_getElem (show j < (tkC x).size from hj)]
  rfl
theorem TBlk.keep (h : TBlk w g x) (hb : w'.heap[g]? = w.heap[g]?) : TBlk w' g x := hb.trans h
theorem TBlk.below (h : TBlk w g x) (hb : Below w.heap.size w w') : TBlk w' g x := h.keep (hb.block g h.len)
theorem TBlk.new_ (h : TBlk w g x) (o : Obj) : TBlk (w.alloc o) g x := h.keep (heap_alloc_old w _ h.len)
theorem TBlk.set (h : TBlk w g x) (y : Tk) : TBlk (w.setCells g 0 (tkC y).toList) g y := by
  have h0 := heap_setCell_same w g 0 _ _ (.int .i64 (y.k : Nat)) h
  have h1 := heap_setCell_same _ g 1 _ _ (.string (str y.t)) h0
  have h2 := heap_setCell_same _ g 2 _ _ (.int .u64 (y.n : Nat)) h1
  have h3 := heap_setCell_same _ g 3 _ _ (.int .i64 (y.a : Nat)) h2
  have h4 := heap_setCell_same _ g 4 _ _ (.int .i64 (y.e : Nat)) h3
  exact h4
theorem TBlk.load (h : TBlk w g x) : (loadVar 84 ⟨g, 0, none⟩).run Tryz.prog w = .ok (.agg (tkC x)) w := by
  have hc : w.rangeAt g 0 (tkC x).toList := fun j y hy => by
    rw [cell_of_row w g _ _ 84 (0, 0) h, Nat.zero_add, ← Array.getElem?_toList]; exact hy
  exact run_loadVar_mid w g 0 84 (tkC x).toList _ hc Tryz.underlying84 rfl (by kernel_rfl)
end
/-- a token stored whole into its block -/
theorem wpList_store_tok {ops : Array Oper} {rest : List Oper} {op : Oper} {a : Act} {w : World} {Q : Exit → Act → World → Prop} (hgd : op.guard = none) (x y : Operand) (ho : op.op = .store 84 x y)
    (g : Nat) (v0 v : Tk) (hx : a.eval x = .pointer (some ⟨g, 0, none⟩)) (hy : a.eval y = .agg (tkC v)) (hB : TBlk w g v0)
    (h : ∀ w2, TBlk w2 g v → Turned g w w2 → wpList Tryz.prog ops Q rest (a.put op.dst undef) w2) : wpList Tryz.prog ops Q (op :: rest) a w :=
  wpList_store_mid hgd 84 x y ho g 0 (tkC v) hx hy hB.there (by kernel_rfl) (by kernel_rfl) (h _ (hB.set v) (Turned.setCells _ _ _ (Turned.refl g w)))
/-- a token loaded whole out of its block -/
theorem wpList_load_tok {ops : Array Oper} {rest : List Oper} {op : Oper} {a : Act} {w : World} {Q : Exit → Act → World → Prop} (hgd : op.guard = none) (x : Operand) (ho : op.op = .load 84 x)
    (g : Nat) (v : Tk) (hx : a.eval x = .pointer (some ⟨g, 0, none⟩)) (hB : TBlk w g v)
    (h : wpList Tryz.prog ops Q rest (a.put op.dst (.agg (tkC v))) w) : wpList Tryz.prog ops Q (op :: rest) a w :=
  wpList_plain hgd fun _ hK => by
    unfold Oper.wp execOp
    simp only [ho, hx, Instr.loadAt, Instr.sureAddr, Sem.run_bind, Sem.run_pure, Result.andThen_ok, hB.load]
    exact hK _ _ h
/-- a token out of a block, a place and an error: what is answered -/
theorem results_tok {fn : Func} {s t q : Tmp} (h : fn.results = #[.cell s 84, .tmp t, .tmp q]) (tmps : Array Value) (w : World) (g : Nat) (x : Tk) (u v : Value)
    (hp : tmps.getD s undef = .pointer (some ⟨g, 0, none⟩)) (he : tmps.getD t undef = u) (hv : tmps.getD q undef = v) (hg : TBlk w g x) : (results fn tmps).run Tryz.prog w = .ok (.tuple #[.agg (tkC x), u, v]) w := by
  unfold results
  rw [h]
  have hp' : tmps[s]?.getD undef = .pointer (some ⟨g, 0, none⟩) := by simpa [Array.getD_eq_getD_getElem?] using hp
  have he' : tmps[t]?.getD undef = u := by simpa [Array.getD_eq_getD_getElem?] using he
  have hv' : tmps[q]?.getD undef = v := by simpa [Array.getD_eq_getD_getElem?] using hv
  simp [hp', he', hv', asAddr, hg.load]

/-- At the address A stand the tokens l, below block B. -/
def TRow (w : World) (B : Nat) (A : Option Addr) (l : List Tk) : Prop :=
  l = [] ∨ ∃ g o, A = some ⟨g, o, none⟩ ∧ g < B ∧ ∀ i x, l[i]? = some x → w.cell? ⟨g, o + i * 5, none⟩ = some (.int .i64 (x.k : Nat)) ∧ w.cell? ⟨g, o + i * 5 + 1, none⟩ = some (.string (str x.t)) ∧ w.cell? ⟨g, o + i * 5 + 2, none⟩ = some (.int .u64 (x.n : Nat)) ∧
    w.cell? ⟨g, o + i * 5 + 3, none⟩ = some (.int .i64 (x.a : Nat)) ∧ w.cell? ⟨g, o + i * 5 + 4, none⟩ = some (.int .i64 (x.e : Nat))
section
variable {w w' : World} {B B' : Nat} {A : Option Addr} {l : List Tk}
theorem TRow.nil : TRow w B A [] := .inl rfl
theorem TRow.at_ (h : TRow w B A l) {i : Nat} {x : Tk} (hx : l[i]? = some x) : ∃ g o, A = some ⟨g, o, none⟩ ∧ g < B ∧ w.cell? ⟨g, o + i * 5, none⟩ = some (.int .i64 (x.k : Nat)) ∧ w.cell? ⟨g, o + i * 5 + 1, none⟩ = some (.string (str x.t)) ∧ w.cell? ⟨g, o + i * 5 + 2, none⟩ = some (.int .u64 (x.n : Nat)) ∧
    w.cell? ⟨g, o + i * 5 + 3, none⟩ = some (.int .i64 (x.a : Nat)) ∧ w.cell? ⟨g, o + i * 5 + 4, none⟩ = some (.int .i64 (x.e : Nat)) := by
  rcases h with rfl | ⟨g, o, rfl, hg, hc⟩
  · simp at hx
  · exact ⟨g, o, rfl, hg, hc i x hx⟩
theorem TRow.below (h : TRow w B A l) (hb : Below B w w') : TRow w' B A l := by
  rcases h with rfl | ⟨g, o, rfl, hg, hc⟩
  · exact .inl rfl
  · refine .inr ⟨g, o, rfl, hg, fun i x hx => ?_⟩
    obtain ⟨c0, c1, c2, c3, c4⟩ := hc i x hx
    have k := fun j => hb.cell (p := ⟨g, j, none⟩) hg
    exact ⟨(k _).trans c0, (k _).trans c1, (k _).trans c2, (k _).trans c3, (k _).trans c4⟩
theorem TRow.more (h : TRow w B A l) (hB : B ≤ B') : TRow w B' A l := by
  rcases h with rfl | ⟨g, o, rfl, hg, hc⟩
  · exact .inl rfl
  · exact .inr ⟨g, o, rfl, by omega, hc⟩
theorem TRow.then_ (h : TRow w w.heap.size A l) (hb : Below w.heap.size w w') : TRow w' w'.heap.size A l := (h.below hb).more hb.size
end

def flatT (l : List Tk) : List Value := l.flatMap fun x => (tkC x).toList
theorem flatT_len (l : List Tk) : (flatT l).length = l.length * 5 := by
  induction l with
  | nil => rfl
  | cons x r ih =>
    show ((tkC x).toList ++ flatT r).length = _
    rw [List.length_append, ih, List.length_cons]
    show 5 + _ = _
    omega
theorem flatT_append (a b : List Tk) : flatT (a ++ b) = flatT a ++ flatT b := by unfold flatT; exact List.flatMap_append
theorem flatT_at : ∀ (l : List Tk) (i : Nat) (x : Tk), l[i]? = some x → ∀ j, j < 5 → (flatT l)[i * 5 + j]? = (tkC x)[j]?
  | [], _, _, h, _, _ => by simp at h
  | y :: r, 0, x, h, j, hj => by
    simp only [List.getElem?_cons_zero, Option.some.injEq] at h
    subst h
    show ((tkC y).toList ++ flatT r)[0 * 5 + j]? = _
    rw [Nat.zero_mul, Nat.zero_add, List.getElem?_append_left (by exact hj), Array.getElem?_toList]
  | y :: r, i + 1, x, h, j, hj => by
    simp only [List.getElem?_cons_succ] at h
    show ((tkC y).toList ++ flatT r)[(i + 1) * 5 + j]? = _
    rw [List.getElem?_append_right (by show 5 ≤ _; omega)]
    show (flatT r)[(i + 1) * 5 + j - 5]? = _
    rw [show (i + 1) * 5 + j - 5 = i * 5 + j by omega]
    exact flatT_at r i x h j hj

/-- the slice value v is a row of the call's own: the tokens l -/
def OwnT (w : World) (base : Nat) (A : Option Addr) (c : Nat) (l : List Tk) : Prop := w.ownsRow base 84 5 (.slice A l.length c) l.length (flatT l)
section
variable {w w' : World} {base : Nat} {A : Option Addr} {c : Nat} {l : List Tk}
theorem OwnT.nil (w : World) (base : Nat) : OwnT w base none 0 [] := World.ownsRow_nil w base _ 5
theorem OwnT.then_ (h : OwnT w base A c l) (hb : Below w.heap.size w w') : OwnT w' base A c l := by
  refine ⟨h.1, ?_⟩
  rcases h.2 with h0 | ⟨g, cap, cur, hv, hg, hc, rest⟩
  · exact .inl h0
  · exact .inr ⟨g, cap, cur, hv, hg, (hb.block g (Array.getElem?_eq_some_iff.1 hc).1).trans hc, rest⟩
theorem OwnT.new (h : OwnT w base A c l) (o : Obj) : OwnT (w.alloc o) base A c l := h.then_ ((Below.refl _ _).alloc (Nat.le_refl _) _)
theorem OwnT.reads (h : OwnT w base A c l) : TRow w w.heap.size A l := by
  rcases h.2 with ⟨hv, h0⟩ | ⟨g, cap, cur, hv, hg, hc, rest⟩
  · exact .inl (List.eq_nil_of_length_eq_zero h0)
  · injection hv with e1 e2 e3
    subst e1
    refine .inr ⟨g, 0, rfl, (Array.getElem?_eq_some_iff.1 hc).1, fun i x hx => ?_⟩
    have q : ∀ j, j < 5 → w.cell? ⟨g, 0 + i * 5 + j, none⟩ = (tkC x)[j]? := fun j hj => by
      have hi : i < l.length := by
        rcases Nat.lt_or_ge i l.length with g | g
        · exact g
        · rw [List.getElem?_eq_none g] at hx; cases hx
      have hf := flatT_at l i x hx j hj
      have hsome : (tkC x)[j]? = some ((tkC x)[j]'(by exact hj)) := Array.getElem?_eq_getElem (by exact hj)
      rw [hsome] at hf ⊢
      have := World.ownsRow.cells h (g := g) rfl (i * 5 + j) _ hf
      rwa [Addr.add_lit, ← Nat.add_assoc] at this
    exact ⟨q 0 (by decide), q 1 (by decide), q 2 (by decide), q 3 (by decide), q 4 (by decide)⟩
end

theorem infoT : (Tryz.prog.info? 84).map (fun i => (i.zero, i.size, i.bytes)) = some (some (.agg (tkC tk0)), 5, 48) := by kernel_rfl

/-- one token that was just laid, appended -/
theorem run_app_tok {w : World} {base : Nat} {A : Option Addr} {c : Nat} {l : List Tk} (ho : OwnT w base A c l) (x : Tk) (r : List Tk) (hr : r = l ++ [x]) (hm : r.length ≤ 2000000000) (hbase : base ≤ w.heap.size) :
    ∃ A' c' w', (Builtin.append_ #[54, 54] 54 #[.slice A l.length c, .slice (some ⟨w.heap.size, 0, none⟩) 1 1]).run Tryz.prog (w.alloc (.cells (tkC x) 84)) = .ok (.slice A' r.length c') w' ∧
      OwnT w' base A' c' r ∧ Below base w w' ∧ ∀ g, g < w.heap.size → (Value.slice A l.length c).ownBlock ≠ some g → w'.heap[g]? = w.heap[g]? := by
  cases hq : Tryz.prog.info? 84 with
  | none => have := infoT; rw [hq] at this; cases this
  | some i0 =>
    have hI := infoT
    rw [hq] at hI
    simp only [Option.map_some, Option.some.injEq, Prod.mk.injEq] at hI
    obtain ⟨hz0, hz1, hz2⟩ := hI
    subst hr
    have hln : (l ++ [x]).length = l.length + 1 := List.length_append
    rw [hln] at hm
    obtain ⟨v', w', hr, hown, hg, _, _⟩ := run_append_own_at (P := Tryz.prog) (w.alloc (.cells (tkC x) 84)) base 54 54 84 i0 _ 5 48 Tryz.underlying54 hq hz0 hz1 hz2 rfl (by decide) _ l.length (flatT l) (ho.new _) ⟨w.heap.size, 0, none⟩ 1 1 (tkC x).toList
      rfl (fun j u hu => by rw [Addr.add_lit, Nat.zero_add, cell_of_row _ w.heap.size _ (tkC x) 84 (0, 0) (heap_alloc_new w _), ← Array.getElem?_toList]; exact hu)
      (fun u hu => by simp only [tkC, List.mem_cons, List.not_mem_nil, or_false] at hu; rcases hu with rfl | rfl | rfl | rfl | rfl <;> rfl) (by simp only [maxLen]; omega) (by omega) (by simp; omega)
    have e : flatT l ++ (tkC x).toList = flatT (l ++ [x]) := by rw [flatT_append]; simp [flatT]
    rw [e, ← hln] at hown
    have hB : Below base w w' := ((Below.refl base w).alloc hbase _).grown hg (by simp; omega) fun k hk => (World.ownsRow.lt ho k hk).1
    rcases hown.2 with ⟨_, h0⟩ | ⟨g, cap, cur, rfl, rest⟩
    · rw [hln] at h0; omega
    · exact ⟨some ⟨g, 0, none⟩, cap, w', hr, hown, hB, fun j hj hne => (hg.block j (by simp; omega) (fun e => hne e.symm)).trans (heap_alloc_old w _ hj)⟩

theorem OwnT.off {w : World} {base : Nat} {A : Option Addr} {c : Nat} {l : List Tk} (h : OwnT w base A c l) {g : Nat} (hg : w.heap.size ≤ g) : (Value.slice A l.length c).ownBlock ≠ some g := fun e => by
  have := (World.ownsRow.lt h g e).2
  omega
end Go.Proofs.YtipcgmaobiobbaaGreatDoor
/- Plain words on the walks of layer 8: what is answered of a token, of a text. No walk here. -/
namespace Go.Proofs.YtipcgmaobiobbaaGreatDoor
open Go.RowKit
open Go.Lib (byteCells)

/-- the marks -/
def marks : List UInt8 := [123, 125, 40, 41, 58, 59, 44, 61, 43, 45, 42]
theorem isM_mem (c : UInt8) : isM c = true ↔ c ∈ marks := by
  unfold isM marks
  rw [decide_eq_true_iff]
  simp only [List.mem_cons, List.not_mem_nil, or_false, ← UInt8.toNat_inj]
  rfl
theorem lit_marks (p : Nat) (h : p < 11) : (⟨#[123, 125, 40, 41, 58, 59, 44, 61, 43, 45, 42]⟩ : ByteArray)[p]'h = marks[p]'h := by
  have : ∀ p : Fin 11, (⟨#[123, 125, 40, 41, 58, 59, 44, 61, 43, 45, 42]⟩ : ByteArray)[(p : Nat)]'p.2 = marks[(p : Nat)]'p.2 := by decide
  exact this ⟨p, h⟩
theorem drop_at (s : ByteArray) {k : Nat} (h : k < s.size) : (ls s).drop k = s[k] :: (ls s).drop (k + 1) := by
  rw [List.drop_eq_getElem_cons (by rw [ls_size]; exact h)]
  rfl
theorem drop_end (s : ByteArray) {k : Nat} (h : s.size ≤ k) : (ls s).drop k = [] := List.drop_eq_nil_of_le (by rw [ls_size]; exact h)
/-- what is answered of a token that stands at i, or of its fault -/
def TokAt (r : TR) (i : Nat) (w : World) (e : Ending) (w' : World) : Prop :=
  Below w.heap.size w w' ∧ match r with
    | .tok k t n len => e = .returned (.tuple #[.agg (tkC ⟨k, t, n, i, i + len⟩), .int .i64 0, .int .i64 0])
    | .bad o x => e = .returned (.tuple #[.agg (tkC tk0), .int .i64 ((i + o : Nat) : Int), .int .i64 (x : Nat)])
theorem wordN_cons (c : UInt8) (r : List UInt8) : wordN (c :: r) = if isW c then wordN r + 1 else 0 := by
  unfold wordN
  rw [List.takeWhile_cons]
  split <;> simp
theorem numN_cons (c : UInt8) (r : List UInt8) : numN (c :: r) = if isD c then numN r + 1 else 0 := by
  unfold numN
  rw [List.takeWhile_cons]
  split <;> simp
theorem tkz (w : World) : TBlk (w.alloc (.cells (tkC tk0) 84)) w.heap.size tk0 := TBlk.new w tk0
theorem below_alloc {w w9 : World} {o : Obj} (h : Turned w.heap.size (w.alloc o) w9) : Below w.heap.size w w9 := ((Below.refl _ w).alloc (Nat.le_refl _) _).trans (h.below (Nat.le_refl _))
/-- the name that stands at i -/
def wordR (l : List UInt8) : TR := if 64 < wordN l then .bad 0 111 else .tok 1 (l.take (wordN l)) 0 (wordN l)
/-- the number that stands at i -/
def numR (l : List UInt8) : TR := if 18446744073709551615 < numV (l.take (numN l)) then .bad 0 111 else .tok 2 [] (numV (l.take (numN l))) (numN l)
/-- what the loop knows of the digits read so far -/
def NumInv (P : Nat) (x : Int) (hi : Bool) : Prop := (hi = false → x = (P : Nat) ∧ P ≤ 18446744073709551615) ∧ (hi = true → 18446744073709551615 < P)
theorem numV_snoc (l : List UInt8) (c : UInt8) : numV (l ++ [c]) = numV l * 10 + (c.toNat - 48) := by unfold numV; rw [List.foldl_append]; rfl
theorem inv_high {P d : Nat} {x y : Int} {hi : Bool} (h : NumInv P x hi) (hx : (1844674407370955161 < x) ∨ 18446744073709551615 - (d : Int) < x * 10) : NumInv (P * 10 + d) y true := by
  refine ⟨fun e => Bool.noConfusion e, fun _ => ?_⟩
  cases hi with
  | true => have := h.2 rfl; omega
  | false => have := h.1 rfl; omega
theorem inv_low {P d : Nat} {x : Int} {hi : Bool} (h : NumInv P x hi) (h2 : ¬ 18446744073709551615 - (d : Int) < x * 10) : NumInv (P * 10 + d) (x * 10 + d) hi := by
  cases hi with
  | true => exact ⟨fun e => Bool.noConfusion e, fun _ => by have := h.2 rfl; omega⟩
  | false => exact ⟨fun _ => by have := h.1 rfl; omega, fun e => Bool.noConfusion e⟩
theorem inv_start : NumInv (numV []) 0 false := ⟨fun _ => ⟨rfl, by decide⟩, fun e => Bool.noConfusion e⟩
theorem wrap_nat (x : Int) : ∃ y : Int, IntKind.u64.wrap x = y ∧ 0 ≤ y ∧ y ≤ 18446744073709551615 := by
  have h : IntKind.u64.wrap x = x % 18446744073709551616 := rfl
  exact ⟨_, rfl, by rw [h]; omega, by rw [h]; omega⟩
/-- what a digit of base 16 is worth; -1: it is none -/
def hxI (c : UInt8) : Int := if dv c.toNat = 16 then -1 else (dv c.toNat : Nat)
theorem dv_num {c : Nat} (h : 48 ≤ c ∧ c ≤ 57) : dv c = c - 48 := if_pos h
theorem dv_low {c : Nat} (h : 97 ≤ c ∧ c ≤ 102) : dv c = c - 87 := by unfold dv; rw [if_neg (by omega), if_pos h]
theorem dv_upp {c : Nat} (h : 65 ≤ c ∧ c ≤ 70) : dv c = c - 55 := by unfold dv; rw [if_neg (by omega), if_neg (by omega), if_pos h]
theorem dv_no {c : Nat} (h1 : ¬ (48 ≤ c ∧ c ≤ 57)) (h2 : ¬ (97 ≤ c ∧ c ≤ 102)) (h3 : ¬ (65 ≤ c ∧ c ≤ 70)) : dv c = 16 := by unfold dv; rw [if_neg h1, if_neg h2, if_neg h3]
/-- what an escape stands for, and how many bytes it has; 0: it is none -/
def esN : Option (UInt8 × Nat) → Nat × Nat
  | none => (0, 0)
  | some (x, k) => (x.toNat, k + 1)
theorem hx_bad {c : UInt8} (h : dv c.toNat = 16) : hxI c = -1 := if_pos h
theorem hx_ok {c : UInt8} (h : dv c.toNat ≠ 16) : hxI c = (dv c.toNat : Nat) := if_neg h
/-- the text that stands at i -/
def txR : Tx → TR
  | .done t n => .tok 3 t 0 (n + 1)
  | .esc o => .bad (o + 1) 82
  | .wide => .bad 0 81
def textR (l : List UInt8) : TR := txR (txS (l.drop 1))
/-- behind m bytes that stand for l -/
def Tx.pre (l : List UInt8) (m : Nat) : Tx → Tx
  | .done t n => .done (l ++ t) (n + m)
  | .esc o => .esc (o + m)
  | .wide => .wide
theorem Tx.pre_nil (x : Tx) : x.pre [] 0 = x := by cases x <;> rfl
theorem Tx.pre_push (x : Tx) (c : UInt8) (j : Nat) (l : List UInt8) (m : Nat) : (x.push c j).pre l m = x.pre (l ++ [c]) (m + j) := by
  cases x <;> simp [Tx.push, Tx.pre] <;> omega
theorem below_tok {w4 wr : World} {B : Nat} {x : Tk} {g : Nat} (h : TBlk wr g x) (hb : Below B wr w4) (hg : g < B) : TBlk w4 g x := h.keep (hb.block g hg)
theorem TokAt.val {R : TR} {i : Nat} {w w' : World} {e : Ending} (h : TokAt R i w e w') : ∃ x u v, e = .returned (.tuple #[.agg (tkC x), u, v]) := by
  cases R
  · exact ⟨_, _, _, h.2⟩
  · exact ⟨_, _, _, h.2⟩
theorem tokL_word {c : UInt8} (r : List UInt8) (h : isL c = true) : tokL (c :: r) = wordR (c :: r) := by simp only [tokL]; rw [if_pos h]; rfl
theorem tokL_num {c : UInt8} (r : List UInt8) (h1 : isL c = false) (h : isD c = true) : tokL (c :: r) = numR (c :: r) := by simp only [tokL]; rw [if_neg (by simp [h1]), if_pos h]; rfl
theorem tokL_text {c : UInt8} (r : List UInt8) (h1 : isL c = false) (h2 : isD c = false) (h : c.toNat = 34) : tokL (c :: r) = textR (c :: r) := by
  simp only [tokL]
  rw [if_neg (by simp [h1]), if_neg (by simp [h2]), if_pos h]
  show _ = txR (txS r)
  cases txS r <;> rfl
theorem tokL_mark {c : UInt8} (r : List UInt8) (h1 : isL c = false) (h2 : isD c = false) (h3 : c.toNat ≠ 34) (h : isM c = true) : tokL (c :: r) = .tok 4 [c] 0 1 := by
  simp only [tokL]
  rw [if_neg (by simp [h1]), if_neg (by simp [h2]), if_neg h3, if_pos h]
theorem tokL_none {c : UInt8} (r : List UInt8) (h1 : isL c = false) (h2 : isD c = false) (h3 : c.toNat ≠ 34) (h : isM c = false) : tokL (c :: r) = .bad 0 80 := by
  simp only [tokL]
  rw [if_neg (by simp [h1]), if_neg (by simp [h2]), if_neg h3, if_neg (by simp [h])]
/-- what is answered of a text -/
def lexS (s : ByteArray) : LR := if 1048576 < s.size then .bad 0 2 else lexL (ls s) 0
def LexAt (R : LR) (w : World) (e : Ending) (w' : World) : Prop :=
  Below w.heap.size w w' ∧ match R with
    | .ok l => ∃ A c, e = .returned (.tuple #[.slice A l.length c, .int .i64 0, .int .i64 0]) ∧ TRow w' w'.heap.size A l
    | .bad p x => e = .returned (.tuple #[.slice none 0 0, .int .i64 (p : Nat), .int .i64 (x : Nat)])
/-- what the loop knows: the tokens of the text are those kept and those of what stands from a place on, and the place it stands at is the one behind the blanks there -/
def LexInv (s : ByteArray) (R : LR) (pre : List Tk) (k : Nat) : Prop := ∃ j, k = j + skipS false ((ls s).drop j) ∧ j ≤ s.size ∧ R = (lexL ((ls s).drop j) j).pre pre ∧ pre.length ≤ j
theorem LexInv.k_le {s : ByteArray} {R : LR} {pre : List Tk} {k : Nat} (h : LexInv s R pre k) : k ≤ s.size ∧ pre.length ≤ k := by
  obtain ⟨j, rfl, hj, _, hp⟩ := h
  have := skipS_le false ((ls s).drop j)
  rw [List.length_drop, ls_size] at this
  omega
theorem LexInv.end_ {s : ByteArray} {R : LR} {pre : List Tk} (h : LexInv s R pre s.size) : R = .ok (pre ++ [endTk s.size]) := by
  obtain ⟨j, e, hj, rfl, _⟩ := h
  rw [lexL_done (by rw [List.length_drop, ls_size]; omega), List.length_drop, ls_size, show j + (s.size - j) = s.size by omega]
  rfl
theorem LexInv.bad {s : ByteArray} {R : LR} {pre : List Tk} {k o e : Nat} (h : LexInv s R pre k) (hk : k < s.size) (ht : tokL ((ls s).drop k) = .bad o e) : R = .bad (k + o) e := by
  obtain ⟨j, rfl, hj, rfl, _⟩ := h
  rw [lexL_bad (by rw [List.length_drop, ls_size]; omega) (by rw [List.drop_drop]; exact ht)]
  rfl
theorem LexInv.tok {s : ByteArray} {R : LR} {pre : List Tk} {k q n len : Nat} {t : List UInt8} (h : LexInv s R pre k) (hk : k < s.size) (ht : tokL ((ls s).drop k) = .tok q t n len) :
    LexInv s R (pre ++ [⟨q, t, n, k, k + len⟩]) (k + len + skipS false ((ls s).drop (k + len))) ∧ k + len ≤ s.size ∧ 1 ≤ len := by
  have hl := tokL_len ht
  rw [List.length_drop, ls_size] at hl
  have hp := h.k_le
  obtain ⟨j, rfl, hj, rfl, _⟩ := h
  refine ⟨⟨_, rfl, by omega, ?_, by rw [List.length_append]; show _ + 1 ≤ _; omega⟩, by omega, hl.1⟩
  rw [lexL_tok (by rw [List.length_drop, ls_size]; omega) (by rw [List.drop_drop]; exact ht), LR.pre_push, List.drop_drop, ← Nat.add_assoc]
/-- three slots, answered -/
theorem results_three {fn : Func} {s t q : Tmp} (h : fn.results = #[.tmp s, .tmp t, .tmp q]) (tmps : Array Value) (w : World) (x u v : Value)
    (hx : tmps.getD s undef = x) (hu : tmps.getD t undef = u) (hv : tmps.getD q undef = v) : (results fn tmps).run Tryz.prog w = .ok (.tuple #[x, u, v]) w := by
  unfold results
  rw [h]
  have hx' : tmps[s]?.getD undef = x := by simpa [Array.getD_eq_getD_getElem?] using hx
  have hu' : tmps[t]?.getD undef = u := by simpa [Array.getD_eq_getD_getElem?] using hu
  have hv' : tmps[q]?.getD undef = v := by simpa [Array.getD_eq_getD_getElem?] using hv
  simp [hx', hu', hv']
end Go.Proofs.YtipcgmaobiobbaaGreatDoor
/- copy out of bytes that came in, into a row of the call's own. No walk here. -/
namespace Go.Proofs.YtipcgmaobiobbaaGreatDoor
open Go.RowKit
open Go.Lib (byteCells)

theorem byteCells_at (l : List UInt8) (j : Nat) (v : Value) (h : (byteCells l)[j]? = some v) : ∃ hj : j < l.length, v = .int .u8 (l[j].toNat : Nat) := by
  rcases Nat.lt_or_ge j l.length with hj | hj
  · refine ⟨hj, ?_⟩
    rw [byteCells_get l j hj] at h
    exact (Option.some.inj h).symm
  · rw [List.getElem?_eq_none (by rw [Go.Lib.byteCells_length]; exact hj)] at h
    cases h

theorem run_copy_byt {P : Program} {w : World} {B : Nat} {A : Option Addr} {l : List UInt8} (h : Byt w B A l) (T ty e : TypeId) (hu : P.underlying T = some (.slice e)) (hs : (P.info? e).map (·.size) = some 1)
    (g off dLen dCap c : Nat) (t : TypeId) (cur : List Value) (hg : w.heap[g]? = some (.cells cur.toArray t (0, 0))) (hn : l.length ≤ dLen) (hfit : off + l.length ≤ cur.length) :
    ∃ w1, (Builtin.copy_ #[T, T] ty #[.slice (some ⟨g, off, none⟩) dLen dCap, .slice A l.length c]).run P w = .ok (.int .i64 (l.length : Nat)) w1 ∧
      w1.heap[g]? = some (.cells (splice cur off (byteCells l)).toArray t (0, 0)) ∧ Below g w w1 ∧ w1.heap.size = w.heap.size := by
  have hlen := Go.Lib.byteCells_length l
  rcases Nat.eq_zero_or_pos l.length with h0 | h0
  · obtain rfl := List.eq_nil_of_length_eq_zero h0
    refine ⟨w, run_copy_none w T T ty e _ _ _ _ _ _ hu hs (by simp), ?_, Below.refl _ _, rfl⟩
    simpa [splice, byteCells] using hg
  · obtain ⟨b, o, rfl, _, hc⟩ := h.at_ h0
    have hmin : Nat.min l.length dLen = l.length := Nat.min_eq_left hn
    have hr := run_copy_row (P := P) w T T ty e g off dLen dCap ⟨b, o, none⟩ l.length c cur.toArray t (byteCells l) hu hs hg (by rw [hmin, hlen]) (fun j v hv => by
      obtain ⟨hj, rfl⟩ := byteCells_at l j v hv
      rw [Addr.add_lit]; exact hc j hj) (by rw [hlen]; simpa using hfit) (byteCells_one l)
    rw [hlen] at hr
    refine ⟨_, hr, ?_, below_setRow (Below.refl _ _) (Nat.le_refl _) _, by simp [World.setRow]⟩
    rw [setRow_heap w g _ _ t _ hg]
    simp [splice, hlen]

/-- into a new row -/
theorem run_copy_fresh {P : Program} {w : World} {A : Option Addr} {l : List UInt8} (h : Byt w w.heap.size A l) (T ty e : TypeId) (hu : P.underlying T = some (.slice e)) (hs : (P.info? e).map (·.size) = some 1)
    (z : Value) (m c cap : Nat) (hcap : cap = l.length + m) (hmax : cap ≤ maxLen) :
    ∃ w1, (Builtin.copy_ #[T, T] ty #[.slice (some ⟨w.heap.size, 0, none⟩) l.length cap, .slice A l.length c]).run P (w.alloc (.cells (Array.replicate cap z) e)) = .ok (.int .i64 (l.length : Nat)) w1 ∧
      w1.ownsRow w.heap.size e 1 (.slice (some ⟨w.heap.size, 0, none⟩) l.length cap) l.length (byteCells l) ∧ Below w.heap.size w w1 := by
  have hlen := Go.Lib.byteCells_length l
  subst hcap
  obtain ⟨w1, hr, hh, hb, hz⟩ := run_copy_byt (P := P) (h.below ((Below.refl _ w).alloc (Nat.le_refl _) (.cells (Array.replicate (l.length + m) z) e))) T ty e hu hs w.heap.size 0 l.length (l.length + m) c e
    (List.replicate (l.length + m) z) (by simpa using heap_alloc_new w _) (Nat.le_refl _) (by simp)
  refine ⟨w1, hr, ⟨by rw [hlen]; omega, .inr ⟨w.heap.size, l.length + m, _, rfl, Nat.le_refl _, hh, by omega, hmax, by simp [splice, hlen], ?_⟩⟩, ((Below.refl _ w).alloc (Nat.le_refl _) _).trans (hb.mono (Nat.le_refl _))⟩
  simp [splice, ← hlen]
end Go.Proofs.YtipcgmaobiobbaaGreatDoor
/- append of bytes that came in (nil, empty or not) onto a row of the call's own, as a run equation. No walk here. -/
namespace Go.Proofs.YtipcgmaobiobbaaGreatDoor
open Go.RowKit
open Go.Lib (byteCells)

/-- the slice value v is a row of the call's own: the bytes l -/
def OwnB (w : World) (base : Nat) (e : TypeId) (A : Option Addr) (c : Nat) (l : List UInt8) : Prop :=
  w.ownsRow base e 1 (.slice A l.length c) l.length (byteCells l)

theorem OwnB.reads {w : World} {base : Nat} {e : TypeId} {A : Option Addr} {c : Nat} {l : List UInt8} (h : OwnB w base e A c l) : Byt w w.heap.size A l := (Byt.own h).2
theorem OwnB.lt {w : World} {base : Nat} {e : TypeId} {A : Option Addr} {c : Nat} {l : List UInt8} (h : OwnB w base e A c l) : ∀ k, (Value.slice A l.length c).ownBlock = some k → base ≤ k ∧ k < w.heap.size := World.ownsRow.lt h
theorem OwnB.nil (w : World) (base : Nat) (e : TypeId) : OwnB w base e none 0 [] := World.ownsRow_nil w base e 1

theorem own_low {w : World} {base base' : Nat} {e : TypeId} {v : Value} {n : Nat} {xs : List Value} (hB : base' ≤ base) (h : w.ownsRow base e 1 v n xs) : w.ownsRow base' e 1 v n xs := by
  refine ⟨h.1, ?_⟩
  rcases h.2 with h0 | ⟨g, cap, cur, hv, hb, rest⟩
  · exact .inl h0
  · exact .inr ⟨g, cap, cur, hv, by omega, rest⟩
theorem own_room {w : World} {base : Nat} {e : TypeId} {A : Option Addr} {n c m : Nat} {xs : List Value} (h : w.ownsRow base e 1 (.slice A n c) m xs) : n ≤ c ∧ n = m := by
  rcases h.2 with ⟨hv, h0⟩ | ⟨g, cap, cur, hv, hb, hg, hn, rest⟩
  · injection hv with _ h2 h3
    omega
  · injection hv with _ h2 h3
    omega

theorem run_append_nothing {P : Program} {w : World} (base : Nat) (T ty e : TypeId) (i : TypeInfo) (ht : P.underlying T = some (.slice e)) (hi : P.info? e = some i) (v : Value) (n c : Nat) (xs : List Value)
    (hown : w.ownsRow base e 1 v n xs) : (Builtin.append_ #[T, T] ty #[v, .slice none 0 c]).run P w = .ok v w := by
  rcases hown.2 with ⟨rfl, rfl⟩ | ⟨g, cap, cur, rfl, _, _, hnc, _⟩ <;>
    simp [Builtin.append_, run_underlying ht, sizeOf, typeInfo, Builtin.lenOf, Builtin.firstCells, *, storeCells]

/-- pre and then l -/
theorem run_append_byt {P : Program} {w : World} {B : Nat} {A A0 : Option Addr} {pre l : List UInt8} (base : Nat) (T ty e : TypeId) (i : TypeInfo) (z : Value)
    (ht : P.underlying T = some (.slice e)) (hi : P.info? e = some i) (hz : i.zero = some z) (hs : i.size = 1) (hb : i.bytes = 1) (hzs : z.cells.size = 1)
    (c0 c : Nat) (hown : OwnB w base e A0 c0 pre) (h : Byt w B A l) (r : List UInt8) (hr : r = pre ++ l) (hm : r.length ≤ 140737488355328) (hbase : base ≤ w.heap.size) :
    ∃ A' c' w', (Builtin.append_ #[T, T] ty #[.slice A0 pre.length c0, .slice A l.length c]).run P w = .ok (.slice A' r.length c') w' ∧ OwnB w' base e A' c' r ∧ Below base w w' := by
  subst hr
  have hln : (pre ++ l).length = pre.length + l.length := List.length_append
  rw [hln] at hm
  have close : ∀ v' w', (Builtin.append_ #[T, T] ty #[.slice A0 pre.length c0, .slice A l.length c]).run P w = .ok v' w' → w'.ownsRow base e 1 v' (pre.length + l.length) (byteCells pre ++ byteCells l) → w.grownBy w' (Value.slice A0 pre.length c0).ownBlock →
      ∃ A' c' w', (Builtin.append_ #[T, T] ty #[.slice A0 pre.length c0, .slice A l.length c]).run P w = .ok (.slice A' (pre ++ l).length c') w' ∧ OwnB w' base e A' c' (pre ++ l) ∧ Below base w w' := by
    intro v' w' hr ho hg
    rw [← Go.Lib.byteCells_append, ← hln] at ho
    have hB : Below base w w' := (Below.refl base w).grown hg hbase fun k hk => (hown.lt k hk).1
    rcases ho.2 with ⟨rfl, h0⟩ | ⟨g, cap, cur, rfl, rest⟩
    · exact ⟨none, 0, w', by rw [hr, h0], by unfold OwnB; rw [h0] at ho ⊢; exact ho, hB⟩
    · exact ⟨some ⟨g, 0, none⟩, cap, w', hr, ho, hB⟩
  have hcells : ∀ a : Addr, A = some a → ∀ j u, (byteCells l)[j]? = some u → w.cell? (a.add j) = some u := by
    intro a ha j u hu
    obtain ⟨hj, rfl⟩ := byteCells_at l j u hu
    obtain ⟨b, o, hA, _, hc⟩ := h.at_ (by omega)
    rw [hA] at ha
    obtain rfl := Option.some.inj ha
    rw [Addr.add_lit]
    exact hc j hj
  rcases A with _ | a
  · have hl : l = [] := by
      rcases h with h | ⟨b, o, hA, _⟩
      · exact h
      · cases hA
    subst hl
    have := run_append_nothing (P := P) base T ty e i ht hi _ _ c _ hown
    exact close _ _ this (by have h := hown; unfold OwnB at h; simpa [byteCells] using h) ⟨rfl, rfl, rfl, Nat.le_refl _, fun _ _ _ => rfl⟩
  · obtain ⟨v', w', hr, ho, hg, _, _⟩ := run_append_own_at (P := P) w base T ty e i z 1 1 ht hi hz hs hb hzs (by decide) _ pre.length (byteCells pre) hown a l.length c (byteCells l) (by rw [Go.Lib.byteCells_length]; omega) (hcells a rfl)
      (byteCells_one l) (by simp only [maxLen]; omega) (by omega) hbase
    exact close _ _ hr ho hg

/-- At the operation, out of a run equation: an arm behind 'at_builtin'. -/
theorem wpList_append_run {P : Program} {w w' : World} {ops : Array Oper} {rest : List Oper} {o : Oper} {a : Act} {Q : Exit → Act → World → Prop} (hgd : o.guard = none) (s x : Operand) (T : TypeId)
    (ho : o.op = .call { callee := .builtin .append, args := #[s, x], argTypes := #[T, T] }) {u v v' : Value} (hs : a.eval s = u) (hx : a.eval x = v)
    (hrun : (Builtin.append_ #[T, T] o.type #[u, v]).run P w = .ok v' w') (h : wpList P ops Q rest (a.put o.dst v') w') : wpList P ops Q (o :: rest) a w :=
  wpList_plain hgd fun _ hK => by
    unfold Oper.wp execOp
    simp only [ho, resolve, invoke, builtin, Sem.run_bind, Sem.run_pure, Result.andThen_ok, List.map_toArray, List.map_cons, List.map_nil, hs, hx, hrun]
    exact hK _ _ h
end Go.Proofs.YtipcgmaobiobbaaGreatDoor
/- Rows of bytes of the call's own: kept, grown by bytes that were just laid, read as a text. No walk here. -/
namespace Go.Proofs.YtipcgmaobiobbaaGreatDoor
open Go.RowKit
open Go.Lib (byteCells)

theorem infoB : (Tryz.prog.info? 5).map (fun i => (i.zero, i.size, i.bytes)) = some (some (.int .u8 0), 1, 1) := by kernel_rfl

theorem byt_new (w : World) (cs : Array Value) (l : List UInt8) (T : TypeId) (h : cs.toList = byteCells l) : Byt (w.alloc (.cells cs T)) (w.alloc (.cells cs T)).heap.size (some ⟨w.heap.size, 0, none⟩) l := by
  refine .inr ⟨w.heap.size, 0, rfl, by simp, fun j hj => ?_⟩
  rw [cell_of_row _ w.heap.size _ cs T (0, 0) (heap_alloc_new w _), Nat.zero_add, ← Array.getElem?_toList, h]
  exact byteCells_get l j hj

theorem own_then {w w' : World} {base : Nat} {e : TypeId} {s : Nat} {v : Value} {n : Nat} {xs : List Value} (h : w.ownsRow base e s v n xs) (hb : Below w.heap.size w w') : w'.ownsRow base e s v n xs := by
  refine ⟨h.1, ?_⟩
  rcases h.2 with h0 | ⟨g, cap, cur, hv, hg, hc, rest⟩
  · exact .inl h0
  · exact .inr ⟨g, cap, cur, hv, hg, (hb.block g (Array.getElem?_eq_some_iff.1 hc).1).trans hc, rest⟩
theorem OwnB.then_ {w w' : World} {base : Nat} {e : TypeId} {A : Option Addr} {c : Nat} {l : List UInt8} (h : OwnB w base e A c l) (hb : Below w.heap.size w w') : OwnB w' base e A c l := own_then h hb
theorem OwnB.new {w : World} {base : Nat} {e : TypeId} {A : Option Addr} {c : Nat} {l : List UInt8} (h : OwnB w base e A c l) (o : Obj) : OwnB (w.alloc o) base e A c l := h.then_ ((Below.refl _ _).alloc (Nat.le_refl _) _)

/-- bytes of a block just made, appended -/
theorem run_app_new {w : World} {base : Nat} {A : Option Addr} {c : Nat} {pre : List UInt8} (ho : OwnB w base 5 A c pre) (cs : Array Value) (l : List UInt8) (n : Nat) (hn : n = l.length) (h : cs.toList = byteCells l) (T : TypeId)
    (r : List UInt8) (hr : r = pre ++ l) (hm : r.length ≤ 140737488355328) (hbase : base ≤ w.heap.size) :
    ∃ A' c' w', (Builtin.append_ #[67, 67] 67 #[.slice A pre.length c, .slice (some ⟨w.heap.size, 0, none⟩) n n]).run Tryz.prog (w.alloc (.cells cs T)) = .ok (.slice A' r.length c') w' ∧ OwnB w' base 5 A' c' r ∧ Below base w w' := by
  obtain ⟨i0, hi, hz0, hz1, hz2⟩ := info_parts infoB
  subst hn
  obtain ⟨A', c', w', h1, h2, h3⟩ := run_append_byt (P := Tryz.prog) base 67 67 5 i0 _ Tryz.underlying67 hi hz0 hz1 hz2 rfl c l.length (ho.new _) (byt_new w cs l T h) r hr hm (by simp; omega)
  exact ⟨A', c', w', h1, h2, ((Below.refl base w).alloc hbase _).trans h3⟩

theorem own_byt {w : World} {base : Nat} {e : TypeId} {A : Option Addr} {c : Nat} {l : List UInt8} (h : OwnB w base e A c l) (n : Nat) :
    (convert 67 9 (.slice A l.length n)).run Tryz.prog w = .ok (.string (str l)) w :=
  run_str h.reads 67 5 9 Tryz.underlying67 Tryz.underlying5 Tryz.underlying9 n
end Go.Proofs.YtipcgmaobiobbaaGreatDoor
/- append at a step of a region that draws its order. No walk here. -/
namespace Go.Proofs.YtipcgmaobiobbaaGreatDoor

/-- At a step of a region that draws, out of a run equation. -/
theorem step_append_run {P : Program} {w w' : World} {ops : Array Oper} {o : Oper} {a : Act} {K : Act → World → Prop} {Q : Exit → Act → World → Prop} {E : Prop} (hgd : o.guard = none) (s x : Operand) (T : TypeId)
    (ho : o.op = .call { callee := .builtin .append, args := #[s, x], argTypes := #[T, T] }) {u v v' : Value} (hs : a.eval s = u) (hx : a.eval x = v)
    (hrun : (Builtin.append_ #[T, T] o.type #[u, v]).run P w = .ok v' w') (h : K (a.put o.dst v') w') : if Region.wanted o (yielded ops a.tmps) = true then Oper.wp P o a w K Q else E := by
  have hw : Region.wanted o (yielded ops a.tmps) = true := by simp [Region.wanted, hgd]
  rw [if_pos hw]
  unfold Oper.wp execOp
  simp only [ho, resolve, invoke, builtin, Sem.run_bind, Sem.run_pure, Result.andThen_ok, List.map_toArray, List.map_cons, List.map_nil, hs, hx, hrun]
  exact h

end Go.Proofs.YtipcgmaobiobbaaGreatDoor
