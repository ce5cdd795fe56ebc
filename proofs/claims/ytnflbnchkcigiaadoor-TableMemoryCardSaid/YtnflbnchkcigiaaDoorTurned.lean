/- One block written, no other; rows of the call's own whose contents are whatever; append onto such a row. No walk here. -/
import Derived.Test.YtnflbnchkcigiaaDoorProg
import Derived.Test.YtnflbnchkcigiaaDoorTaGa
import Derived.Deep.MidRow
import Derived.Deep.AppendLies
import Derived.Laws.OwnMore
namespace Go.Proofs.YtnflbnchkcigiaaDoor
open Go.RowKit

/-- only the block g has been written, and no block made -/
structure Turned (g : Nat) (a w : World) : Prop where
  os : w.os = a.os
  tape : w.tape = a.tape
  output : w.output = a.output
  size : w.heap.size = a.heap.size
  others : ∀ k, k ≠ g → w.heap[k]? = a.heap[k]?
section
variable {g : Nat} {a w : World}
theorem Turned.refl (g : Nat) (w : World) : Turned g w w := ⟨rfl, rfl, rfl, rfl, fun _ _ => rfl⟩
theorem Turned.setCell (h : Turned g a w) (o : Nat) (v : Value) : Turned g a (w.setCell ⟨g, o, none⟩ v) :=
  ⟨h.os, h.tape, h.output, by rw [← h.size]; simp, fun k hk => (Below.heap_setCell w ⟨g, o, none⟩ v k hk).trans (h.others k hk)⟩
theorem Turned.setCells : ∀ (vs : List Value) (o : Nat) (w : World), Turned g a w → Turned g a (w.setCells g o vs)
  | [], _, _, h => h
  | v :: r, o, w, h => by
    rw [World.setCells]
    exact Turned.setCells r (o + 1) _ (h.setCell o v)
theorem Turned.cell (h : Turned g a w) {b : Nat} (hb : b ≠ g) (j : Nat) : w.cell? ⟨b, j, none⟩ = a.cell? ⟨b, j, none⟩ := World.cell?_of_block (w := a) (h.others b hb)
theorem Turned.below (h : Turned g a w) {B : Nat} (hB : B ≤ g) : Below B a w := ⟨h.os, h.tape, h.output, by rw [h.size]; exact Nat.le_refl _, fun k hk => h.others k (by omega)⟩
theorem Turned.grown (h : Turned g a w) : a.grownBy w (some g) := ⟨h.os, h.tape, h.output, by rw [h.size]; exact Nat.le_refl _, fun k _ hk => h.others k (fun e => hk (by rw [e]))⟩
end
theorem grown_trans {a b c : World} {row : Option Nat} (h : a.grownBy b row) (k : b.grownBy c row) : a.grownBy c row :=
  ⟨k.os.trans h.os, k.tape.trans h.tape, k.output.trans h.output, Nat.le_trans h.size k.size, fun i hi hne => (k.block i (Nat.lt_of_lt_of_le hi h.size) hne).trans (h.block i hi hne)⟩
theorem grown_below {B : Nat} {W a w : World} {row : Option Nat} (hb : Below B W a) (h : a.grownBy w row) (hB : B ≤ a.heap.size) (hg : ∀ k, row = some k → B ≤ k) : Below B W w := hb.grown h hB hg
theorem below_grown {a b : World} (h : Below a.heap.size a b) (row : Option Nat) : a.grownBy b row := ⟨h.os, h.tape, h.output, h.size, fun k hk _ => h.block k hk⟩
theorem grown_cell {a w : World} {row : Option Nat} (h : a.grownBy w row) {b : Nat} (hb : b < a.heap.size) (hne : row ≠ some b) (j : Nat) : w.cell? ⟨b, j, none⟩ = a.cell? ⟨b, j, none⟩ := World.cell?_of_block (w := a) (h.block b hb fun e => hne e.symm)

/-- a row of the call's own, its contents whatever -/
def Rw (w : World) (base : Nat) (T : TypeId) (s : Nat) (v : Value) (n : Nat) : Prop := ∃ xs, w.ownsRow base T s v n xs
theorem Rw.of {w : World} {base : Nat} {T : TypeId} {s : Nat} {v : Value} {n : Nat} {xs : List Value} (h : w.ownsRow base T s v n xs) : Rw w base T s v n := ⟨xs, h⟩
theorem Rw.low {w : World} {base base' : Nat} {T : TypeId} {s : Nat} {v : Value} {n : Nat} (h : Rw w base T s v n) (hB : base' ≤ base) : Rw w base' T s v n := by
  obtain ⟨xs, h1, h2⟩ := h
  refine ⟨xs, h1, ?_⟩
  rcases h2 with h0 | ⟨g, cap, cur, hv, hb, rest⟩
  · exact .inl h0
  · exact .inr ⟨g, cap, cur, hv, by omega, rest⟩
theorem Rw.kept {w w' : World} {base : Nat} {T : TypeId} {s : Nat} {v : Value} {n : Nat} {row : Option Nat} (h : Rw w base T s v n) (hg : w.grownBy w' row) (hne : v.ownBlock = none ∨ v.ownBlock ≠ row) : Rw w' base T s v n := by
  obtain ⟨xs, h⟩ := h
  exact ⟨xs, h.kept hg hne⟩
theorem Rw.form {w : World} {base : Nat} {T : TypeId} {s : Nat} {A : Option Addr} {m c n : Nat} (h : Rw w base T s (.slice A m c) n) (hn : 0 < n) : ∃ g, A = some ⟨g, 0, none⟩ ∧ m = n ∧ base ≤ g ∧ g < w.heap.size := by
  obtain ⟨xs, h1, h2⟩ := h
  rcases h2 with ⟨_, h0⟩ | ⟨g, cap, cur, hv, hb, hg, rest⟩
  · omega
  · injection hv with e1 e2 e3
    exact ⟨g, e1, e2, hb, (Array.getElem?_eq_some_iff.1 hg).1⟩
theorem Rw.cell {w : World} {base : Nat} {T : TypeId} {s g n c : Nat} (h : Rw w base T s (.slice (some ⟨g, 0, none⟩) n c) n) {j : Nat} (hj : j < n * s) : ∃ v, w.cell? ⟨g, j, none⟩ = some v := by
  obtain ⟨xs, h⟩ := h
  have hl := h.1
  exact ⟨xs[j]'(by omega), by rw [h.cellAt j hj, List.getElem?_eq_getElem]⟩
theorem Rw.frozen {w : World} {base : Nat} {T : TypeId} {s g n c : Nat} (h : Rw w base T s (.slice (some ⟨g, 0, none⟩) n c) n) (j : Nat) : w.frozen? ⟨g, j, none⟩ = false := by
  obtain ⟨xs, h⟩ := h
  exact h.frozenAt j
theorem Rw.there {w : World} {base : Nat} {T : TypeId} {g n c : Nat} (h : Rw w base T 4 (.slice (some ⟨g, 0, none⟩) n c) n) {k : Nat} (hk : k < n) : w.there g (k * 4) 4 := fun j hj => by
  obtain ⟨v, hv⟩ := h.cell (j := k * 4 + j) (by omega)
  exact ⟨by rw [hv]; rfl, h.frozen _⟩
theorem Rw.setCell {w : World} {base : Nat} {T : TypeId} {s g n c : Nat} (h : Rw w base T s (.slice (some ⟨g, 0, none⟩) n c) n) (o : Nat) (u : Value) : Rw (w.setCell ⟨g, o, none⟩ u) base T s (.slice (some ⟨g, 0, none⟩) n c) n := by
  obtain ⟨xs, h⟩ := h
  exact ⟨_, (h.stored o u).1⟩
theorem Rw.setCells {base : Nat} {T : TypeId} {s g n c : Nat} : ∀ (vs : List Value) (o : Nat) (w : World), Rw w base T s (.slice (some ⟨g, 0, none⟩) n c) n → Rw (w.setCells g o vs) base T s (.slice (some ⟨g, 0, none⟩) n c) n
  | [], _, _, h => h
  | v :: r, o, w, h => by
    rw [World.setCells]
    exact Rw.setCells r (o + 1) _ (h.setCell o v)
theorem grown_set {a w : World} {g o : Nat} (h : a.grownBy w (some g)) (v : Value) : a.grownBy (w.setCell ⟨g, o, none⟩ v) (some g) :=
  grown_trans h ((Turned.refl g w).setCell o v).grown
theorem grown_sets {a w : World} {g : Nat} (h : a.grownBy w (some g)) (o : Nat) (vs : List Value) : a.grownBy (w.setCells g o vs) (some g) :=
  grown_trans h (Turned.setCells vs o w (Turned.refl g w)).grown

theorem apart_of {v : Value} {row : Option Nat} {a : Nat} (h1 : ∀ k, v.ownBlock = some k → a ≤ k) (h2 : ∀ k, row = some k → k < a) : v.ownBlock = none ∨ v.ownBlock ≠ row := by
  cases hv : v.ownBlock with
  | none => exact .inl rfl
  | some k => exact .inr fun e => by have := h1 k hv; have := h2 k e.symm; omega
theorem apart_of' {v : Value} {row : Option Nat} {a : Nat} (h1 : ∀ k, v.ownBlock = some k → k < a) (h2 : ∀ k, row = some k → a ≤ k) : v.ownBlock = none ∨ v.ownBlock ≠ row := by
  cases hv : v.ownBlock with
  | none => exact .inl rfl
  | some k => exact .inr fun e => by have := h1 k hv; have := h2 k e.symm; omega
theorem row_ne {row : Option Nat} {a b : Nat} (h : ∀ k, row = some k → a ≤ k) (hb : b < a) : row ≠ some b := fun e => by have := h b e; omega
theorem row_ne' {row : Option Nat} {a b : Nat} (h : ∀ k, row = some k → k < a) (hb : a ≤ b) : row ≠ some b := fun e => by have := h b e; omega

/-- one element more onto a row of the call's own -/
theorem wpList_app_own {ops : Array Oper} {rest : List Oper} {op : Oper} {a : Act} {w0 : World} {Q : Exit → Act → World → Prop} (hgd : op.guard = none) (s x : Operand) (t : TypeId)
    (ho : op.op = .call { callee := .builtin .append, args := #[s, x], argTypes := #[t, t] })
    (base : Nat) (e : TypeId) (i : TypeInfo) (z : Value) (size bytes : Nat) (ht : Tryd.prog.underlying t = some (.slice e)) (hi : Tryd.prog.info? e = some i) (hz : i.zero = some z)
    (hsize : i.size = size) (hby : i.bytes = bytes) (hzs : z.cells.size = size) (hsz : 0 < size) (hbl : bytes ≤ 40)
    (A : Option Addr) (c m n : Nat) (row : Option Nat) (w5 : World) (hs : a.eval s = .slice A m c) (hown : Rw w0 base e size (.slice A m c) m) (hgr : w5.grownBy w0 row)
    (hrow : ∀ k, (Value.slice A m c).ownBlock = some k → row = some k ∨ w5.heap.size ≤ k)
    (cs : Array Value) (hx : a.eval x = .slice (some ⟨w0.heap.size, 0, none⟩) 1 1) (hl : cs.size = size) (h1 : ∀ u ∈ cs.toList, u.oneCell' = true)
    (hm : m ≤ 1000000000) (hn : m + 1 = n) (hb5 : base ≤ w5.heap.size)
    (h : ∀ A' c' w', Rw w' base e size (.slice A' n c') n → w5.grownBy w' row → (∀ k, (Value.slice A' n c').ownBlock = some k → row = some k ∨ w5.heap.size ≤ k) → wpList Tryd.prog ops Q rest (a.put op.dst (.slice A' n c')) w') :
    wpList Tryd.prog ops Q (op :: rest) a (w0.alloc (.cells cs e)) := by
  subst hn
  have hbase : base ≤ w0.heap.size := Nat.le_trans hb5 hgr.size
  obtain ⟨xs, hown⟩ := hown
  refine wpList_append_lies _ hgd s x t ho base e i z size bytes ht hi hz hsize hby hzs hsz (.slice A m c) m xs hs (hown.alloc _) ⟨w0.heap.size, 0, none⟩ 1 1 cs.toList hx (by simpa using hl)
    (fun j u hu => by rw [Addr.add_lit, Nat.zero_add, cell_of_row _ w0.heap.size _ cs e (0, 0) (heap_alloc_new w0 _), ← Array.getElem?_toList]; exact hu) h1 (by omega) (by simp only [maxLen]; omega)
    (Nat.le_trans (Nat.mul_le_mul_left _ hbl) (by omega)) (by simp; omega) (w0.heap.size + 1) (by simp) ?_
  intro g cap w' ho2 hg2 hat hlt
  refine h (some ⟨g, 0, none⟩) cap w' ⟨_, ho2⟩ ?_ ?_
  · refine ⟨hg2.os.trans hgr.os, hg2.tape.trans hgr.tape, hg2.output.trans hgr.output, by have h1 := hgr.size; have h2 := hg2.size; simp at h2; omega, fun k hk hne => ?_⟩
    have hks : k < w0.heap.size := Nat.lt_of_lt_of_le hk hgr.size
    refine (hg2.block k (by simp; omega) ?_).trans ((heap_alloc_old w0 _ hks).trans (hgr.block k hk hne))
    intro e
    rcases hrow k e.symm with h | h
    · exact hne h.symm
    · omega
  · intro k hk
    have hkg : g = k := by simpa [Value.ownBlock] using hk
    subst hkg
    rcases hat with h | h
    · exact hrow g h
    · exact .inr (by have := hgr.size; omega)
end Go.Proofs.YtnflbnchkcigiaaDoor
