/- copy out of bytes that came in, into a row of the call's own. No walk here. -/
import Derived.Test.YtmbiompmhaiehaaDoorExGa
import Derived.Test.YtmbiompmhaiehaaDoorProg
import Derived.Laws.CopyOwn
import Derived.Laws.MakeOwn
import Derived.Laws.IdiomCopy
import Derived.OwnWalk
import Derived.Maps.AppendAt
import Derived.Deep.MidRow
import Derived.Deep.AppendLies
import Derived.Laws.OwnMore
import Derived.WalkKit
namespace Go.Proofs.YtmbiompmhaiehaaDoor
open Go.RowKit
open Go.Lib (byteCells)

theorem byteCells_at (l : List UInt8) (j : Nat) (v : Value) (h : (byteCells l)[j]? = some v) : ∃ hj : j < l.length, v = .int .u8 (l[j].toNat : Nat) := by
  rcases Nat.lt_or_ge j l.length with hj | hj
  · refine ⟨hj, ?_⟩
    rw [byteCells_get l j hj] at h
    exact (Option.some.inj h).symm
  · rw [List.getElem?_eq_none (by rw [Go.Lib.byteCells_length]; exact hj)] at h
    cases h

theorem run_copy_byt {P : Program} {w : World} {B : Nat} {A : Option Addr} {l : List UInt8} (h : Byt w B A l) (T ty e : TypeId) (hu : P.underlying T = some (.slice e)) (hs : (P.info? e).map (·.size) = some 1)
    (g off dLen dCap c : Nat) (t : TypeId) (cur : List Value) (hg : w.heap[g]? = some (.cells cur.toArray t (0, 0))) (hn : l.length ≤ dLen) (hfit : off + l.length ≤ cur.length) :
    ∃ w1, (Builtin.copy_ #[T, T] ty #[.slice (some ⟨g, off, none⟩) dLen dCap, .slice A l.length c]).run P w = .ok (.int .i64 (l.length : Nat)) w1 ∧
      w1.heap[g]? = some (.cells (splice cur off (byteCells l)).toArray t (0, 0)) ∧ Below g w w1 ∧ w1.heap.size = w.heap.size := by
  have hlen := Go.Lib.byteCells_length l
  rcases Nat.eq_zero_or_pos l.length with h0 | h0
  · obtain rfl := List.eq_nil_of_length_eq_zero h0
    refine ⟨w, run_copy_none w T T ty e _ _ _ _ _ _ hu hs (by simp), ?_, Below.refl _ _, rfl⟩
    simpa [splice, byteCells] using hg
  · obtain ⟨b, o, rfl, _, hc⟩ := h.at_ h0
    have hmin : Nat.min l.length dLen = l.length := Nat.min_eq_left hn
    have hr := run_copy_row (P := P) w T T ty e g off dLen dCap ⟨b, o, none⟩ l.length c cur.toArray t (byteCells l) hu hs hg (by rw [hmin, hlen]) (fun j v hv => by
      obtain ⟨hj, rfl⟩ := byteCells_at l j v hv
      rw [Addr.add_lit]; exact hc j hj) (by rw [hlen]; simpa using hfit) (byteCells_one l)
    rw [hlen] at hr
    refine ⟨_, hr, ?_, below_setRow (Below.refl _ _) (Nat.le_refl _) _, by simp [World.setRow]⟩
    rw [setRow_heap w g _ _ t _ hg]
    simp [splice, hlen]

/-- into a new row -/
theorem run_copy_fresh {P : Program} {w : World} {A : Option Addr} {l : List UInt8} (h : Byt w w.heap.size A l) (T ty e : TypeId) (hu : P.underlying T = some (.slice e)) (hs : (P.info? e).map (·.size) = some 1)
    (z : Value) (m c cap : Nat) (hcap : cap = l.length + m) (hmax : cap ≤ maxLen) :
    ∃ w1, (Builtin.copy_ #[T, T] ty #[.slice (some ⟨w.heap.size, 0, none⟩) l.length cap, .slice A l.length c]).run P (w.alloc (.cells (Array.replicate cap z) e)) = .ok (.int .i64 (l.length : Nat)) w1 ∧
      w1.ownsRow w.heap.size e 1 (.slice (some ⟨w.heap.size, 0, none⟩) l.length cap) l.length (byteCells l) ∧ Below w.heap.size w w1 := by
  have hlen := Go.Lib.byteCells_length l
  subst hcap
  obtain ⟨w1, hr, hh, hb, hz⟩ := run_copy_byt (P := P) (h.below ((Below.refl _ w).alloc (Nat.le_refl _) (.cells (Array.replicate (l.length + m) z) e))) T ty e hu hs w.heap.size 0 l.length (l.length + m) c e
    (List.replicate (l.length + m) z) (by simpa using heap_alloc_new w _) (Nat.le_refl _) (by simp)
  refine ⟨w1, hr, ⟨by rw [hlen]; omega, .inr ⟨w.heap.size, l.length + m, _, rfl, Nat.le_refl _, hh, by omega, hmax, by simp [splice, hlen], ?_⟩⟩, ((Below.refl _ w).alloc (Nat.le_refl _) _).trans (hb.mono (Nat.le_refl _))⟩
  simp [splice, ← hlen]
end Go.Proofs.YtmbiompmhaiehaaDoor
/- append of bytes that came in (nil, empty or not) onto a row of the call's own, as a run equation. No walk here. -/
namespace Go.Proofs.YtmbiompmhaiehaaDoor
open Go.RowKit
open Go.Lib (byteCells)

/-- the slice value v is a row of the call's own: the bytes l -/
def OwnB (w : World) (base : Nat) (e : TypeId) (A : Option Addr) (c : Nat) (l : List UInt8) : Prop :=
  w.ownsRow base e 1 (.slice A l.length c) l.length (byteCells l)

theorem OwnB.reads {w : World} {base : Nat} {e : TypeId} {A : Option Addr} {c : Nat} {l : List UInt8} (h : OwnB w base e A c l) : Byt w w.heap.size A l := (Byt.own h).2
theorem OwnB.lt {w : World} {base : Nat} {e : TypeId} {A : Option Addr} {c : Nat} {l : List UInt8} (h : OwnB w base e A c l) : ∀ k, (Value.slice A l.length c).ownBlock = some k → base ≤ k ∧ k < w.heap.size := World.ownsRow.lt h
theorem OwnB.nil (w : World) (base : Nat) (e : TypeId) : OwnB w base e none 0 [] := World.ownsRow_nil w base e 1

theorem own_low {w : World} {base base' : Nat} {e : TypeId} {v : Value} {n : Nat} {xs : List Value} (hB : base' ≤ base) (h : w.ownsRow base e 1 v n xs) : w.ownsRow base' e 1 v n xs := by
  refine ⟨h.1, ?_⟩
  rcases h.2 with h0 | ⟨g, cap, cur, hv, hb, rest⟩
  · exact .inl h0
  · exact .inr ⟨g, cap, cur, hv, by omega, rest⟩
theorem own_room {w : World} {base : Nat} {e : TypeId} {A : Option Addr} {n c m : Nat} {xs : List Value} (h : w.ownsRow base e 1 (.slice A n c) m xs) : n ≤ c ∧ n = m := by
  rcases h.2 with ⟨hv, h0⟩ | ⟨g, cap, cur, hv, hb, hg, hn, rest⟩
  · injection hv with _ h2 h3
    omega
  · injection hv with _ h2 h3
    omega

theorem run_append_nothing {P : Program} {w : World} (base : Nat) (T ty e : TypeId) (i : TypeInfo) (ht : P.underlying T = some (.slice e)) (hi : P.info? e = some i) (v : Value) (n c : Nat) (xs : List Value)
    (hown : w.ownsRow base e 1 v n xs) : (Builtin.append_ #[T, T] ty #[v, .slice none 0 c]).run P w = .ok v w := by
  rcases hown.2 with ⟨rfl, rfl⟩ | ⟨g, cap, cur, rfl, _, _, hnc, _⟩ <;>
    simp [Builtin.append_, run_underlying ht, sizeOf, typeInfo, Builtin.lenOf, Builtin.firstCells, *, storeCells]

/-- pre and then l -/
theorem run_append_byt {P : Program} {w : World} {B : Nat} {A A0 : Option Addr} {pre l : List UInt8} (base : Nat) (T ty e : TypeId) (i : TypeInfo) (z : Value)
    (ht : P.underlying T = some (.slice e)) (hi : P.info? e = some i) (hz : i.zero = some z) (hs : i.size = 1) (hb : i.bytes = 1) (hzs : z.cells.size = 1)
    (c0 c : Nat) (hown : OwnB w base e A0 c0 pre) (h : Byt w B A l) (r : List UInt8) (hr : r = pre ++ l) (hm : r.length ≤ 140737488355328) (hbase : base ≤ w.heap.size) :
    ∃ A' c' w', (Builtin.append_ #[T, T] ty #[.slice A0 pre.length c0, .slice A l.length c]).run P w = .ok (.slice A' r.length c') w' ∧ OwnB w' base e A' c' r ∧ Below base w w' := by
  subst hr
  have hln : (pre ++ l).length = pre.length + l.length := List.length_append
  rw [hln] at hm
  have close : ∀ v' w', (Builtin.append_ #[T, T] ty #[.slice A0 pre.length c0, .slice A l.length c]).run P w = .ok v' w' → w'.ownsRow base e 1 v' (pre.length + l.length) (byteCells pre ++ byteCells l) → w.grownBy w' (Value.slice A0 pre.length c0).ownBlock →
      ∃ A' c' w', (Builtin.append_ #[T, T] ty #[.slice A0 pre.length c0, .slice A l.length c]).run P w = .ok (.slice A' (pre ++ l).length c') w' ∧ OwnB w' base e A' c' (pre ++ l) ∧ Below base w w' := by
    intro v' w' hr ho hg
    rw [← Go.Lib.byteCells_append, ← hln] at ho
    have hB : Below base w w' := (Below.refl base w).grown hg hbase fun k hk => (hown.lt k hk).1
    rcases ho.2 with ⟨rfl, h0⟩ | ⟨g, cap, cur, rfl, rest⟩
    · exact ⟨none, 0, w', by rw [hr, h0], by unfold OwnB; rw [h0] at ho ⊢; exact ho, hB⟩
    · exact ⟨some ⟨g, 0, none⟩, cap, w', hr, ho, hB⟩
  have hcells : ∀ a : Addr, A = some a → ∀ j u, (byteCells l)[j]? = some u → w.cell? (a.add j) = some u := by
    intro a ha j u hu
    obtain ⟨hj, rfl⟩ := byteCells_at l j u hu
    obtain ⟨b, o, hA, _, hc⟩ := h.at_ (by omega)
    rw [hA] at ha
    obtain rfl := Option.some.inj ha
    rw [Addr.add_lit]
    exact hc j hj
  rcases A with _ | a
  · have hl : l = [] := by
      rcases h with h | ⟨b, o, hA, _⟩
      · exact h
      · cases hA
    subst hl
    have := run_append_nothing (P := P) base T ty e i ht hi _ _ c _ hown
    exact close _ _ this (by have h := hown; unfold OwnB at h; simpa [byteCells] using h) ⟨rfl, rfl, rfl, Nat.le_refl _, fun _ _ _ => rfl⟩
  · obtain ⟨v', w', hr, ho, hg, _, _⟩ := run_append_own_at (P := P) w base T ty e i z 1 1 ht hi hz hs hb hzs (by decide) _ pre.length (byteCells pre) hown a l.length c (byteCells l) (by rw [Go.Lib.byteCells_length]; omega) (hcells a rfl)
      (byteCells_one l) (by simp only [maxLen]; omega) (by omega) hbase
    exact close _ _ hr ho hg

/-- At the operation, out of a run equation: an arm behind 'at_builtin'. -/
theorem wpList_append_run {P : Program} {w w' : World} {ops : Array Oper} {rest : List Oper} {o : Oper} {a : Act} {Q : Exit → Act → World → Prop} (hgd : o.guard = none) (s x : Operand) (T : TypeId)
    (ho : o.op = .call { callee := .builtin .append, args := #[s, x], argTypes := #[T, T] }) {u v v' : Value} (hs : a.eval s = u) (hx : a.eval x = v)
    (hrun : (Builtin.append_ #[T, T] o.type #[u, v]).run P w = .ok v' w') (h : wpList P ops Q rest (a.put o.dst v') w') : wpList P ops Q (o :: rest) a w :=
  wpList_plain hgd fun _ hK => by
    unfold Oper.wp execOp
    simp only [ho, resolve, invoke, builtin, Sem.run_bind, Sem.run_pure, Result.andThen_ok, List.map_toArray, List.map_cons, List.map_nil, hs, hx, hrun]
    exact hK _ _ h
end Go.Proofs.YtmbiompmhaiehaaDoor
/- One block written, no other; rows of the call's own whose contents are whatever; append onto such a row. No walk here. -/
namespace Go.Proofs.YtmbiompmhaiehaaDoor
open Go.RowKit

/-- only the block g has been written, and no block made -/
structure Turned (g : Nat) (a w : World) : Prop where
  os : w.os = a.os
  tape : w.tape = a.tape
  output : w.output = a.output
  size : w.heap.size = a.heap.size
  others : ∀ k, k ≠ g → w.heap[k]? = a.heap[k]?
section
variable {g : Nat} {a w : World}
theorem Turned.refl (g : Nat) (w : World) : Turned g w w := ⟨rfl, rfl, rfl, rfl, fun _ _ => rfl⟩
theorem Turned.setCell (h : Turned g a w) (o : Nat) (v : Value) : Turned g a (w.setCell ⟨g, o, none⟩ v) :=
  ⟨h.os, h.tape, h.output, by rw [← h.size]; simp, fun k hk => (Below.heap_setCell w ⟨g, o, none⟩ v k hk).trans (h.others k hk)⟩
theorem Turned.setCells : ∀ (vs : List Value) (o : Nat) (w : World), Turned g a w → Turned g a (w.setCells g o vs)
  | [], _, _, h => h
  | v :: r, o, w, h => by
    rw [World.setCells]
    exact Turned.setCells r (o + 1) _ (h.setCell o v)
theorem Turned.cell (h : Turned g a w) {b : Nat} (hb : b ≠ g) (j : Nat) : w.cell? ⟨b, j, none⟩ = a.cell? ⟨b, j, none⟩ := World.cell?_of_block (w := a) (h.others b hb)
theorem Turned.below (h : Turned g a w) {B : Nat} (hB : B ≤ g) : Below B a w := ⟨h.os, h.tape, h.output, by rw [h.size]; exact Nat.le_refl _, fun k hk => h.others k (by omega)⟩
theorem Turned.grown (h : Turned g a w) : a.grownBy w (some g) := ⟨h.os, h.tape, h.output, by rw [h.size]; exact Nat.le_refl _, fun k _ hk => h.others k (fun e => hk (by rw [e]))⟩
end
theorem grown_trans {a b c : World} {row : Option Nat} (h : a.grownBy b row) (k : b.grownBy c row) : a.grownBy c row :=
  ⟨k.os.trans h.os, k.tape.trans h.tape, k.output.trans h.output, Nat.le_trans h.size k.size, fun i hi hne => (k.block i (Nat.lt_of_lt_of_le hi h.size) hne).trans (h.block i hi hne)⟩
theorem grown_below {B : Nat} {W a w : World} {row : Option Nat} (hb : Below B W a) (h : a.grownBy w row) (hB : B ≤ a.heap.size) (hg : ∀ k, row = some k → B ≤ k) : Below B W w := hb.grown h hB hg
theorem below_grown {a b : World} (h : Below a.heap.size a b) (row : Option Nat) : a.grownBy b row := ⟨h.os, h.tape, h.output, h.size, fun k hk _ => h.block k hk⟩
theorem grown_cell {a w : World} {row : Option Nat} (h : a.grownBy w row) {b : Nat} (hb : b < a.heap.size) (hne : row ≠ some b) (j : Nat) : w.cell? ⟨b, j, none⟩ = a.cell? ⟨b, j, none⟩ := World.cell?_of_block (w := a) (h.block b hb fun e => hne e.symm)

/-- a row of the call's own, its contents whatever -/
def Rw (w : World) (base : Nat) (T : TypeId) (s : Nat) (v : Value) (n : Nat) : Prop := ∃ xs, w.ownsRow base T s v n xs
theorem Rw.of {w : World} {base : Nat} {T : TypeId} {s : Nat} {v : Value} {n : Nat} {xs : List Value} (h : w.ownsRow base T s v n xs) : Rw w base T s v n := ⟨xs, h⟩
theorem Rw.low {w : World} {base base' : Nat} {T : TypeId} {s : Nat} {v : Value} {n : Nat} (h : Rw w base T s v n) (hB : base' ≤ base) : Rw w base' T s v n := by
  obtain ⟨xs, h1, h2⟩ := h
  refine ⟨xs, h1, ?_⟩
  rcases h2 with h0 | ⟨g, cap, cur, hv, hb, rest⟩
  · exact .inl h0
  · exact .inr ⟨g, cap, cur, hv, by omega, rest⟩
theorem Rw.kept {w w' : World} {base : Nat} {T : TypeId} {s : Nat} {v : Value} {n : Nat} {row : Option Nat} (h : Rw w base T s v n) (hg : w.grownBy w' row) (hne : v.ownBlock = none ∨ v.ownBlock ≠ row) : Rw w' base T s v n := by
  obtain ⟨xs, h⟩ := h
  exact ⟨xs, h.kept hg hne⟩
theorem Rw.form {w : World} {base : Nat} {T : TypeId} {s : Nat} {A : Option Addr} {m c n : Nat} (h : Rw w base T s (.slice A m c) n) (hn : 0 < n) : ∃ g, A = some ⟨g, 0, none⟩ ∧ m = n ∧ base ≤ g ∧ g < w.heap.size := by
  obtain ⟨xs, h1, h2⟩ := h
  rcases h2 with ⟨_, h0⟩ | ⟨g, cap, cur, hv, hb, hg, rest⟩
  · omega
  · injection hv with e1 e2 e3
    exact ⟨g, e1, e2, hb, (Array.getElem?_eq_some_iff.1 hg).1⟩
theorem Rw.cell {w : World} {base : Nat} {T : TypeId} {s g n c : Nat} (h : Rw w base T s (.slice (some ⟨g, 0, none⟩) n c) n) {j : Nat} (hj : j < n * s) : ∃ v, w.cell? ⟨g, j, none⟩ = some v := by
  obtain ⟨xs, h⟩ := h
  have hl := h.1
  exact ⟨xs[j]'(by omega), by rw [h.cellAt j hj, List.getElem?_eq_getElem]⟩
theorem Rw.frozen {w : World} {base : Nat} {T : TypeId} {s g n c : Nat} (h : Rw w base T s (.slice (some ⟨g, 0, none⟩) n c) n) (j : Nat) : w.frozen? ⟨g, j, none⟩ = false := by
  obtain ⟨xs, h⟩ := h
  exact h.frozenAt j
theorem Rw.there {w : World} {base : Nat} {T : TypeId} {g n c : Nat} (h : Rw w base T 4 (.slice (some ⟨g, 0, none⟩) n c) n) {k : Nat} (hk : k < n) : w.there g (k * 4) 4 := fun j hj => by
  obtain ⟨v, hv⟩ := h.cell (j := k * 4 + j) (by omega)
  exact ⟨by rw [hv]; rfl, h.frozen _⟩
theorem Rw.setCell {w : World} {base : Nat} {T : TypeId} {s g n c : Nat} (h : Rw w base T s (.slice (some ⟨g, 0, none⟩) n c) n) (o : Nat) (u : Value) : Rw (w.setCell ⟨g, o, none⟩ u) base T s (.slice (some ⟨g, 0, none⟩) n c) n := by
  obtain ⟨xs, h⟩ := h
  exact ⟨_, (h.stored o u).1⟩
theorem Rw.setCells {base : Nat} {T : TypeId} {s g n c : Nat} : ∀ (vs : List Value) (o : Nat) (w : World), Rw w base T s (.slice (some ⟨g, 0, none⟩) n c) n → Rw (w.setCells g o vs) base T s (.slice (some ⟨g, 0, none⟩) n c) n
  | [], _, _, h => h
  | v :: r, o, w, h => by
    rw [World.setCells]
    exact Rw.setCells r (o + 1) _ (h.setCell o v)
theorem grown_set {a w : World} {g o : Nat} (h : a.grownBy w (some g)) (v : Value) : a.grownBy (w.setCell ⟨g, o, none⟩ v) (some g) :=
  grown_trans h ((Turned.refl g w).setCell o v).grown
theorem grown_sets {a w : World} {g : Nat} (h : a.grownBy w (some g)) (o : Nat) (vs : List Value) : a.grownBy (w.setCells g o vs) (some g) :=
  grown_trans h (Turned.setCells vs o w (Turned.refl g w)).grown

theorem apart_of {v : Value} {row : Option Nat} {a : Nat} (h1 : ∀ k, v.ownBlock = some k → a ≤ k) (h2 : ∀ k, row = some k → k < a) : v.ownBlock = none ∨ v.ownBlock ≠ row := by
  cases hv : v.ownBlock with
  | none => exact .inl rfl
  | some k => exact .inr fun e => by have := h1 k hv; have := h2 k e.symm; omega
theorem apart_of' {v : Value} {row : Option Nat} {a : Nat} (h1 : ∀ k, v.ownBlock = some k → k < a) (h2 : ∀ k, row = some k → a ≤ k) : v.ownBlock = none ∨ v.ownBlock ≠ row := by
  cases hv : v.ownBlock with
  | none => exact .inl rfl
  | some k => exact .inr fun e => by have := h1 k hv; have := h2 k e.symm; omega
theorem row_ne {row : Option Nat} {a b : Nat} (h : ∀ k, row = some k → a ≤ k) (hb : b < a) : row ≠ some b := fun e => by have := h b e; omega
theorem row_ne' {row : Option Nat} {a b : Nat} (h : ∀ k, row = some k → k < a) (hb : a ≤ b) : row ≠ some b := fun e => by have := h b e; omega

/-- one element more onto a row of the call's own -/
theorem wpList_app_own {ops : Array Oper} {rest : List Oper} {op : Oper} {a : Act} {w0 : World} {Q : Exit → Act → World → Prop} (hgd : op.guard = none) (s x : Operand) (t : TypeId)
    (ho : op.op = .call { callee := .builtin .append, args := #[s, x], argTypes := #[t, t] })
    (base : Nat) (e : TypeId) (i : TypeInfo) (z : Value) (size bytes : Nat) (ht : Tryd.prog.underlying t = some (.slice e)) (hi : Tryd.prog.info? e = some i) (hz : i.zero = some z)
    (hsize : i.size = size) (hby : i.bytes = bytes) (hzs : z.cells.size = size) (hsz : 0 < size) (hbl : bytes ≤ 40)
    (A : Option Addr) (c m n : Nat) (row : Option Nat) (w5 : World) (hs : a.eval s = .slice A m c) (hown : Rw w0 base e size (.slice A m c) m) (hgr : w5.grownBy w0 row)
    (hrow : ∀ k, (Value.slice A m c).ownBlock = some k → row = some k ∨ w5.heap.size ≤ k)
    (cs : Array Value) (hx : a.eval x = .slice (some ⟨w0.heap.size, 0, none⟩) 1 1) (hl : cs.size = size) (h1 : ∀ u ∈ cs.toList, u.oneCell' = true)
    (hm : m ≤ 1000000000) (hn : m + 1 = n) (hb5 : base ≤ w5.heap.size)
    (h : ∀ A' c' w', Rw w' base e size (.slice A' n c') n → w5.grownBy w' row → (∀ k, (Value.slice A' n c').ownBlock = some k → row = some k ∨ w5.heap.size ≤ k) → wpList Tryd.prog ops Q rest (a.put op.dst (.slice A' n c')) w') :
    wpList Tryd.prog ops Q (op :: rest) a (w0.alloc (.cells cs e)) := by
  subst hn
  have hbase : base ≤ w0.heap.size := Nat.le_trans hb5 hgr.size
  obtain ⟨xs, hown⟩ := hown
  refine wpList_append_lies _ hgd s x t ho base e i z size bytes ht hi hz hsize hby hzs hsz (.slice A m c) m xs hs (hown.alloc _) ⟨w0.heap.size, 0, none⟩ 1 1 cs.toList hx (by simpa using hl)
    (fun j u hu => by rw [Addr.add_lit, Nat.zero_add, cell_of_row _ w0.heap.size _ cs e (0, 0) (heap_alloc_new w0 _), ← Array.getElem?_toList]; exact hu) h1 (by omega) (by simp only [maxLen]; omega)
    (Nat.le_trans (Nat.mul_le_mul_left _ hbl) (by omega)) (by simp; omega) (w0.heap.size + 1) (by simp) ?_
  intro g cap w' ho2 hg2 hat hlt
  refine h (some ⟨g, 0, none⟩) cap w' ⟨_, ho2⟩ ?_ ?_
  · refine ⟨hg2.os.trans hgr.os, hg2.tape.trans hgr.tape, hg2.output.trans hgr.output, by have h1 := hgr.size; have h2 := hg2.size; simp at h2; omega, fun k hk hne => ?_⟩
    have hks : k < w0.heap.size := Nat.lt_of_lt_of_le hk hgr.size
    refine (hg2.block k (by simp; omega) ?_).trans ((heap_alloc_old w0 _ hks).trans (hgr.block k hk hne))
    intro e
    rcases hrow k e.symm with h | h
    · exact hne h.symm
    · omega
  · intro k hk
    have hkg : g = k := by simpa [Value.ownBlock] using hk
    subst hkg
    rcases hat with h | h
    · exact hrow g h
    · exact .inr (by have := hgr.size; omega)
end Go.Proofs.YtmbiompmhaiehaaDoor
/- All blocks but one stand. No walk here. -/
namespace Go.Proofs.YtmbiompmhaiehaaDoor
open Go.RowKit

/-- all blocks but g stand -/
abbrev Gn (g : Nat) (w w' : World) : Prop := w.grownBy w' (some g)
theorem Gn.refl (g : Nat) (w : World) : Gn g w w := below_grown (Below.refl _ w) _
theorem Gn.of {g : Nat} {w w' : World} (h : Below w.heap.size w w') : Gn g w w' := below_grown h _
theorem Gn.trans {g : Nat} {a b c : World} (h : Gn g a b) (k : Gn g b c) : Gn g a c := grown_trans h k
theorem Gn.set {g : Nat} {a w : World} (h : Gn g a w) (o : Nat) (v : Value) : Gn g a (w.setCell ⟨g, o, none⟩ v) := grown_set h v
theorem Gn.below {g B : Nat} {w w' : World} (h : Gn g w w') (hB : B ≤ w.heap.size) (hg : B ≤ g) : Below B w w' := ⟨h.os, h.tape, h.output, h.size, fun k hk => h.block k (by omega) (fun e => by have := Option.some.inj e; omega)⟩
theorem Gn.other {g b : Nat} {w w' : World} (h : Gn g w w') (hb : b < w.heap.size) (hne : b ≠ g) : w'.heap[b]? = w.heap[b]? := h.block b hb fun e => hne (Option.some.inj e)
end Go.Proofs.YtmbiompmhaiehaaDoor
/- Blocks, rows of structs, trees in memory: rows within rows, each of the call's own, each by itself. No walk here. -/
namespace Go.Proofs.YtmbiompmhaiehaaDoor
open Go.RowKit

def obk (A : Option Addr) : Option Nat := A.map (·.block)
theorem obk_own (A : Option Addr) (n c : Nat) : (Value.slice A n c).ownBlock = obk A := by cases A <;> rfl
theorem info_three {P : Program} {T : TypeId} {z : Value} {s b : Nat} (h : (P.info? T).map (fun i => (i.zero, i.size, i.bytes)) = some (some z, s, b)) : ∃ i, P.info? T = some i ∧ i.zero = some z ∧ i.size = s ∧ i.bytes = b := by
  cases hq : P.info? T with
  | none => rw [hq] at h; cases h
  | some i =>
    rw [hq] at h
    simp only [Option.map_some, Option.some.injEq, Prod.mk.injEq] at h
    exact ⟨i, rfl, h.1, h.2.1, h.2.2⟩
/-! ### a block that holds just these cells -/
def CB (w : World) (b : Nat) (T : TypeId) (cs : Array Value) : Prop := w.heap[b]? = some (.cells cs T (0, 0))
section
variable {w w' : World} {b : Nat} {T : TypeId} {cs : Array Value}
theorem CB.len (h : CB w b T cs) : b < w.heap.size := (Array.getElem?_eq_some_iff.1 h).1
theorem CB.at_ (h : CB w b T cs) (j : Nat) : w.cell? ⟨b, j, none⟩ = cs[j]? := cell_of_row w b j cs T (0, 0) h
theorem CB.frozen (h : CB w b T cs) (i : Nat) : w.frozen? ⟨b, i, none⟩ = false := by
  unfold CB at h
  simp [World.frozen?, h]
theorem CB.keep (h : CB w b T cs) (hb : w'.heap[b]? = w.heap[b]?) : CB w' b T cs := hb.trans h
theorem CB.new (w : World) (T : TypeId) (cs : Array Value) : CB (w.alloc (.cells cs T)) w.heap.size T cs := heap_alloc_new w _
theorem CB.below (h : CB w b T cs) (hb : Below w.heap.size w w') : CB w' b T cs := h.keep (hb.block b h.len)
theorem CB.there (h : CB w b T cs) {n : Nat} (hn : n ≤ cs.size) : w.there b 0 n := fun j hj => by
  refine ⟨?_, h.frozen _⟩
  rw [h.at_, Nat.zero_add, Array.getElem?_eq_getElem (show j < cs.size by omega)]
  rfl
theorem CB.load {P : Program} (h : CB w b T cs) {d : TypeDesc} (hu : P.underlying T = some d) (hd : d.isRow = true) (hi : (P.info? T).map (·.size) = some cs.size) : (loadVar T ⟨b, 0, none⟩).run P w = .ok (.agg cs) w := by
  have hc : w.rangeAt b 0 cs.toList := fun j y hy => by
    rw [h.at_, Nat.zero_add, ← Array.getElem?_toList]; exact hy
  have := run_loadVar_mid w b 0 T cs.toList d hc hu hd (by simpa using hi)
  simpa using this
end
/-- a struct out of a block, answered by itself -/
theorem results_cb {P : Program} {fn : Func} {s : Tmp} {T : TypeId} (h : fn.results = #[.cell s T]) (tmps : Array Value) (w : World) (b : Nat) (cs : Array Value)
    (hp : tmps.getD s undef = .pointer (some ⟨b, 0, none⟩)) (hb : CB w b T cs) {d : TypeDesc} (hu : P.underlying T = some d) (hd : d.isRow = true) (hi : (P.info? T).map (·.size) = some cs.size) : (results fn tmps).run P w = .ok (.agg cs) w := by
  unfold results
  rw [h]
  have hp' : tmps[s]?.getD undef = .pointer (some ⟨b, 0, none⟩) := by simpa [Array.getD_eq_getD_getElem?] using hp
  simp [hp', asAddr, hb.load hu hd hi]
/-- cells stored whole, one by one -/
theorem setCells_all {b : Nat} {T : TypeId} : ∀ (vs : List Value) (cs : List Value) (w : World) (k : Nat), CB w b T cs.toArray → k + vs.length ≤ cs.length → CB (w.setCells b k vs) b T (cs.take k ++ vs ++ cs.drop (k + vs.length)).toArray
  | [], cs, w, k, h, _ => by
    have : cs.take k ++ [] ++ cs.drop (k + ([] : List Value).length) = cs := by simp
    rw [this]
    exact h
  | v :: r, cs, w, k, h, hk => by
    rw [World.setCells]
    rw [List.length_cons] at hk
    have h1 : CB (w.setCell ⟨b, k, none⟩ v) b T (cs.set k v).toArray := by
      have := heap_setCell_same w b k _ _ v h
      unfold CB
      rw [this]
      simp
    have h2 := setCells_all r (cs.set k v) _ (k + 1) h1 (by rw [List.length_set]; omega)
    have e : (cs.set k v).take (k + 1) ++ r ++ (cs.set k v).drop (k + 1 + r.length) = cs.take k ++ (v :: r) ++ cs.drop (k + (v :: r).length) := by
      rw [List.length_cons, show k + (r.length + 1) = k + 1 + r.length by omega]
      have hk2 : k < cs.length := by omega
      rw [List.set_eq_take_append_cons_drop, if_pos hk2]
      have hl : (cs.take k).length = k := by rw [List.length_take]; omega
      have e1 : (cs.take k ++ v :: cs.drop (k + 1)).take (k + 1) = cs.take k ++ [v] := by
        rw [List.take_append, hl, List.take_of_length_le (by omega)]
        congr 1
        rw [show k + 1 - k = 1 by omega]
        rfl
      have e2 : (cs.take k ++ v :: cs.drop (k + 1)).drop (k + 1 + r.length) = cs.drop (k + 1 + r.length) := by
        rw [List.drop_append, hl, List.drop_of_length_le (by omega), List.nil_append, show k + 1 + r.length - k = r.length + 1 by omega, List.drop_succ_cons, List.drop_drop]
      rw [e1, e2]
      simp
    rw [← e]
    exact h2
theorem CB.store {w : World} {b : Nat} {T : TypeId} {cs0 cs : Array Value} (h : CB w b T cs0) (hs : cs.size = cs0.size) : CB (w.setCells b 0 cs.toList) b T cs := by
  have := setCells_all cs.toList cs0.toList w 0 (by simpa using h) (by simp [hs])
  have e : (cs0.toList.take 0 ++ cs.toList ++ cs0.toList.drop (0 + cs.toList.length)).toArray = cs := by
    rw [List.drop_of_length_le (by simp [hs])]
    simp
  rwa [e] at this
/-- a struct stored whole into its block -/
theorem wpList_store_cb {P : Program} {ops : Array Oper} {rest : List Oper} {op : Oper} {a : Act} {w : World} {Q : Exit → Act → World → Prop} (hgd : op.guard = none) (T : TypeId) (x y : Operand) (ho : op.op = .store T x y)
    (b : Nat) (cs0 cs : Array Value) (hx : a.eval x = .pointer (some ⟨b, 0, none⟩)) (hy : a.eval y = .agg cs) (hB : CB w b T cs0) (hs : cs.size = cs0.size) (hi : (P.info? T).map (·.size) = some cs.size) (h1 : cs.all (·.oneCell') = true)
    (h : ∀ w2, CB w2 b T cs → Turned b w w2 → wpList P ops Q rest (a.put op.dst undef) w2) : wpList P ops Q (op :: rest) a w :=
  wpList_store_mid hgd T x y ho b 0 cs hx hy (hB.there (by omega)) hi h1 (h _ (hB.store hs) (Turned.setCells _ _ _ (Turned.refl b w)))
/-- a struct loaded whole out of its block -/
theorem wpList_load_cb {P : Program} {ops : Array Oper} {rest : List Oper} {op : Oper} {a : Act} {w : World} {Q : Exit → Act → World → Prop} (hgd : op.guard = none) (T : TypeId) (x : Operand) (ho : op.op = .load T x)
    (b : Nat) (cs : Array Value) (hx : a.eval x = .pointer (some ⟨b, 0, none⟩)) (hB : CB w b T cs) {d : TypeDesc} (hu : P.underlying T = some d) (hd : d.isRow = true) (hi : (P.info? T).map (·.size) = some cs.size)
    (h : wpList P ops Q rest (a.put op.dst (.agg cs)) w) : wpList P ops Q (op :: rest) a w :=
  wpList_plain hgd fun _ hK => by
    unfold Oper.wp execOp
    simp only [ho, hx, Instr.loadAt, Instr.sureAddr, Sem.run_bind, Sem.run_pure, Result.andThen_ok, hB.load hu hd hi]
    exact hK _ _ h

/-! ### rows of structs -/
def flatR {α : Type} (f : α → Array Value) (l : List α) : List Value := l.flatMap fun x => (f x).toList
section
variable {α : Type} {f : α → Array Value} {s : Nat}
theorem flatR_len (hs : ∀ x, (f x).size = s) (l : List α) : (flatR f l).length = l.length * s := by
  induction l with
  | nil => simp [flatR]
  | cons x r ih =>
    show ((f x).toList ++ flatR f r).length = _
    rw [List.length_append, ih, Array.length_toList, hs, List.length_cons, Nat.add_mul, Nat.one_mul, Nat.add_comm]
theorem flatR_snoc (l : List α) (x : α) : flatR f (l ++ [x]) = flatR f l ++ (f x).toList := by unfold flatR; rw [List.flatMap_append]; simp
theorem flatR_at (hs : ∀ x, (f x).size = s) : ∀ (l : List α) (i : Nat) (x : α), l[i]? = some x → ∀ j, j < s → (flatR f l)[i * s + j]? = (f x)[j]?
  | [], _, _, h, _, _ => by simp at h
  | y :: r, 0, x, h, j, hj => by
    simp only [List.getElem?_cons_zero, Option.some.injEq] at h
    subst h
    show ((f y).toList ++ flatR f r)[0 * s + j]? = _
    rw [Nat.zero_mul, Nat.zero_add, List.getElem?_append_left (by rw [Array.length_toList, hs]; exact hj), Array.getElem?_toList]
  | y :: r, i + 1, x, h, j, hj => by
    simp only [List.getElem?_cons_succ] at h
    show ((f y).toList ++ flatR f r)[(i + 1) * s + j]? = _
    have e : (i + 1) * s + j - s = i * s + j := by rw [Nat.add_mul]; omega
    rw [List.getElem?_append_right (by rw [Array.length_toList, hs, Nat.add_mul]; omega), Array.length_toList, hs, e]
    exact flatR_at hs r i x h j hj
end

/-- what rows of one kind are made of -/
structure Lev (α : Type) where
  T : TypeId
  s : Nat
  f : α → Array Value
  H : World → Nat → α → Prop
  bl : α → List Nat
def Lev.bls {α : Type} (L : Lev α) (A : Option Addr) (l : List α) : List Nat := (obk A).toList ++ l.flatMap L.bl
structure Lev.Ok {α : Type} (L : Lev α) : Prop where
  size : ∀ x, (L.f x).size = L.s
  one : ∀ x, ∀ u ∈ (L.f x).toList, u.oneCell' = true
  keep : ∀ {w w' : World} {B : Nat} {x : α}, L.H w B x → (∀ b ∈ L.bl x, w'.heap[b]? = w.heap[b]?) → L.H w' B x
  low : ∀ {w : World} {B B' : Nat} {x : α}, L.H w B x → B' ≤ B → L.H w B' x
  bd : ∀ {w : World} {B : Nat} {x : α}, L.H w B x → ∀ b ∈ L.bl x, B ≤ b ∧ b < w.heap.size
  nd : ∀ {w : World} {B : Nat} {x : α}, L.H w B x → (L.bl x).Nodup
/-- a row of the call's own from B on, with all that its parts own, each block by itself -/
structure Built {α : Type} (L : Lev α) (w : World) (B : Nat) (A : Option Addr) (c : Nat) (l : List α) : Prop where
  own : w.ownsRow B L.T L.s (.slice A l.length c) l.length (flatR L.f l)
  each : ∀ x ∈ l, L.H w B x
  nd : (L.bls A l).Nodup
theorem ownsRow_low {w : World} {B B' : Nat} {e : TypeId} {s : Nat} {v : Value} {n : Nat} {xs : List Value} (h : w.ownsRow B e s v n xs) (hB : B' ≤ B) : w.ownsRow B' e s v n xs := by
  refine ⟨h.1, ?_⟩
  rcases h.2 with h0 | ⟨g, cap, cur, hv, hg, rest⟩
  · exact .inl h0
  · exact .inr ⟨g, cap, cur, hv, by omega, rest⟩
theorem ownsRow_keep {w w' : World} {B : Nat} {e : TypeId} {s : Nat} {A : Option Addr} {m c n : Nat} {xs : List Value} (h : w.ownsRow B e s (.slice A m c) n xs) (hk : ∀ b, obk A = some b → w'.heap[b]? = w.heap[b]?) : w'.ownsRow B e s (.slice A m c) n xs := by
  refine ⟨h.1, ?_⟩
  rcases h.2 with h0 | ⟨g, cap, cur, hv, hg, hc, rest⟩
  · exact .inl h0
  · refine .inr ⟨g, cap, cur, hv, hg, ?_, rest⟩
    rw [hk g ?_]
    · exact hc
    · injection hv with e1 e2 e3
      rw [e1]
      rfl
section
variable {α : Type} {L : Lev α} (O : L.Ok) {w w' : World} {B : Nat} {A : Option Addr} {c : Nat} {l : List α}
theorem mem_bls {b : Nat} : b ∈ L.bls A l ↔ obk A = some b ∨ ∃ x ∈ l, b ∈ L.bl x := by
  unfold Lev.bls
  rw [List.mem_append, List.mem_flatMap, Option.mem_toList]
theorem Built.nil (L : Lev α) (w : World) (B : Nat) : Built L w B none 0 [] := ⟨World.ownsRow_nil w B _ _, nofun, .nil⟩
include O
theorem Built.keep (h : Built L w B A c l) (hk : ∀ b ∈ L.bls A l, w'.heap[b]? = w.heap[b]?) : Built L w' B A c l :=
  ⟨ownsRow_keep h.own fun b hb => hk b (mem_bls.2 (.inl hb)), fun x hx => O.keep (h.each x hx) fun b hb => hk b (mem_bls.2 (.inr ⟨x, hx, hb⟩)), h.nd⟩
theorem Built.bd (h : Built L w B A c l) : ∀ b ∈ L.bls A l, B ≤ b ∧ b < w.heap.size := fun b hb => by
  rcases mem_bls.1 hb with z | ⟨x, hx, z⟩
  · exact World.ownsRow.lt h.own b (by rw [obk_own]; exact z)
  · exact O.bd (h.each x hx) b z
theorem Built.low {B' : Nat} (h : Built L w B A c l) (hB : B' ≤ B) : Built L w B' A c l := ⟨ownsRow_low h.own hB, fun x hx => O.low (h.each x hx) hB, h.nd⟩
theorem Built.below (h : Built L w B A c l) (hb : Below w.heap.size w w') : Built L w' B A c l := h.keep O fun b hb' => hb.block b (h.bd O b hb').2
omit O in
theorem grown_keep {row : Option Nat} (hg : w.grownBy w' row) {b : Nat} (hb : b < w.heap.size) (hne : row ≠ some b) : w'.heap[b]? = w.heap[b]? := hg.block b hb fun e => hne e.symm
/-- one part more, just laid and appended -/
theorem run_app_lev {P : Program} (h : Built L w B A c l) (t : TypeId) (i : TypeInfo) (z : Value) (bytes : Nat) (ht : P.underlying t = some (.slice L.T)) (hi : P.info? L.T = some i) (hz : i.zero = some z) (hs : i.size = L.s) (hby : i.bytes = bytes) (hzs : z.cells.size = L.s) (hp : 0 < L.s) (hbs : bytes ≤ 1000)
    (x : α) (hx : L.H w B x) (hd : ∀ b ∈ L.bl x, b ∉ L.bls A l) (hl : l.length ≤ 2000000) (hB : B ≤ w.heap.size) :
    ∃ g c' w', (Builtin.append_ #[t, t] t #[.slice A l.length c, .slice (some ⟨w.heap.size, 0, none⟩) 1 1]).run P (w.alloc (.cells (L.f x) L.T)) = .ok (.slice (some ⟨g, 0, none⟩) (l.length + 1) c') w' ∧
      Built L w' B (some ⟨g, 0, none⟩) c' (l ++ [x]) ∧ (obk A = some g ∨ w.heap.size ≤ g) ∧ w.grownBy w' (obk A) := by
  have hby2 : (l.length + 1) * bytes ≤ 2000001 * 1000 := Nat.mul_le_mul (by omega) hbs
  have ho := h.own.alloc (.cells (L.f x) L.T)
  obtain ⟨g, c', w', hr, hown, hg, hat, hlt⟩ := run_append_lies (P := P) (w.alloc (.cells (L.f x) L.T)) t t B L.T i z L.s bytes ht hi hz hs hby hzs hp _ l.length (flatR L.f l) ho ⟨w.heap.size, 0, none⟩ 1 1 (L.f x).toList
    (by rw [Array.length_toList, O.size, Nat.one_mul]) (fun j u hu => by rw [Addr.add_lit, Nat.zero_add, cell_of_row _ w.heap.size _ (L.f x) L.T (0, 0) (heap_alloc_new w _), ← Array.getElem?_toList]; exact hu)
    (O.one x) (by decide) (by simp only [maxLen]; omega) (by omega) (by simp; omega) _ rfl
  rw [obk_own] at hg hat
  have hg2 : w.grownBy w' (obk A) := grown_trans (below_grown ((Below.refl _ w).alloc (Nat.le_refl _) _) _) hg
  have hat2 : obk A = some g ∨ w.heap.size ≤ g := hat.imp id fun e => by rw [e]; simp
  have hbd := h.bd O
  have hne : ∀ y ∈ l, ∀ b ∈ L.bl y, obk A ≠ some b := fun y hy b hb e => by
    have := h.nd
    unfold Lev.bls at this
    rw [e] at this
    exact (List.nodup_append.1 this).2.2 b (by simp) b (List.mem_flatMap.2 ⟨y, hy, hb⟩) rfl
  have hnx : ∀ b ∈ L.bl x, obk A ≠ some b := fun b hb e => hd b hb (mem_bls.2 (.inl e))
  have hbx := O.bd hx
  refine ⟨g, c', w', hr, ⟨?_, fun y hy => ?_, ?_⟩, hat2, hg2⟩
  · rw [flatR_snoc, List.length_append]
    exact hown
  · rcases List.mem_append.1 hy with hy | hy
    · exact O.keep (h.each y hy) fun b hb => grown_keep hg2 (O.bd (h.each y hy) b hb).2 (hne y hy b hb)
    · rw [List.mem_singleton] at hy
      subst hy
      exact O.keep hx fun b hb => grown_keep hg2 (hbx b hb).2 (hnx b hb)
  · unfold Lev.bls
    rw [List.flatMap_append]
    have hn := h.nd
    unfold Lev.bls at hn
    have hn2 := (List.nodup_append.1 hn).2.1
    have hnb : ∀ b, b ∈ l.flatMap L.bl ∨ b ∈ L.bl x → b ≠ g := fun b hb e => by
      subst e
      have hlt : b < w.heap.size := by
        rcases hb with z | z
        · obtain ⟨y, hy, z⟩ := List.mem_flatMap.1 z
          exact (O.bd (h.each y hy) b z).2
        · exact (hbx b z).2
      rcases hat2 with e | e
      · rcases hb with z | z
        · obtain ⟨y, hy, z⟩ := List.mem_flatMap.1 z
          exact hne y hy b z e
        · exact hnx b z e
      · omega
    have e1 : ([x] : List α).flatMap L.bl = L.bl x := by simp
    rw [e1]
    show (g :: (l.flatMap L.bl ++ L.bl x)).Nodup
    rw [List.nodup_cons]
    refine ⟨fun hm => ?_, List.nodup_append.2 ⟨hn2, O.nd hx, fun a ha b hb e => ?_⟩⟩
    · exact hnb g (List.mem_append.1 hm) rfl
    · subst e
      obtain ⟨y, hy, z⟩ := List.mem_flatMap.1 ha
      exact hd a hb (mem_bls.2 (.inr ⟨y, hy, z⟩))
end
end Go.Proofs.YtmbiompmhaiehaaDoor
/- The greater of two numbers, at a step of the walk. No walk here. -/
namespace Go.Proofs.YtmbiompmhaiehaaDoor
open Go.RowKit

theorem run_max {P : Program} {w : World} {T : TypeId} {u v m : Int} (hm : (if v > u then v else u) = m) : (Builtin.max_ #[T, T] T #[.int .i64 u, .int .i64 v]).run P w = .ok (.int .i64 m) w := by
  subst hm
  rfl
theorem step_max {P : Program} {w : World} {ops : Array Oper} {o : Oper} {a : Act} {K : Act → World → Prop} {Q : Exit → Act → World → Prop} {E : Prop} (hgd : o.guard = none) (s x : Operand) (T : TypeId)
    (ho : o.op = .call { callee := .builtin .max, args := #[s, x], argTypes := #[T, T] }) (ht : o.type = T) {u v : Int} (m : Int) (hs : a.eval s = .int .i64 u) (hx : a.eval x = .int .i64 v) (hm : (if v > u then v else u) = m)
    (h : K (a.put o.dst (.int .i64 m)) w) : if Region.wanted o (yielded ops a.tmps) = true then Oper.wp P o a w K Q else E := by
  have hw : Region.wanted o (yielded ops a.tmps) = true := by simp [Region.wanted, hgd]
  rw [if_pos hw]
  unfold Oper.wp execOp
  simp only [ho, ht, resolve, invoke, builtin, Sem.run_bind, Sem.run_pure, Result.andThen_ok, List.map_toArray, List.map_cons, List.map_nil, hs, hx, run_max hm]
  exact h
theorem wpList_max {P : Program} {ops : Array Oper} {rest : List Oper} {o : Oper} {a : Act} {w : World} {Q : Exit → Act → World → Prop} (hgd : o.guard = none) (s x : Operand) (T : TypeId)
    (ho : o.op = .call { callee := .builtin .max, args := #[s, x], argTypes := #[T, T] }) (ht : o.type = T) {u v : Int} (m : Int) (hs : a.eval s = .int .i64 u) (hx : a.eval x = .int .i64 v) (hm : (if v > u then v else u) = m)
    (h : wpList P ops Q rest (a.put o.dst (.int .i64 m)) w) : wpList P ops Q (o :: rest) a w :=
  wpList_plain hgd fun _ hK => by
    unfold Oper.wp execOp
    simp only [ho, ht, resolve, invoke, builtin, Sem.run_bind, Sem.run_pure, Result.andThen_ok, List.map_toArray, List.map_cons, List.map_nil, hs, hx, run_max hm]
    exact hK _ _ h
end Go.Proofs.YtmbiompmhaiehaaDoor
/- Two results of a function. No walk here. -/
namespace Go.Proofs.YtmbiompmhaiehaaDoor
open Go.RowKit

theorem results_2 {fn : Func} {t q : Tmp} (h : fn.results = #[.tmp t, .tmp q]) (tmps : Array Value) (w : World) (u v : Value)
    (hu : tmps.getD t undef = u) (hv : tmps.getD q undef = v) : (results fn tmps).run Tryd.prog w = .ok (.tuple #[u, v]) w := by
  unfold results
  rw [h]
  have hu' : tmps[t]?.getD undef = u := by simpa [Array.getD_eq_getD_getElem?] using hu
  have hv' : tmps[q]?.getD undef = v := by simpa [Array.getD_eq_getD_getElem?] using hv
  simp [hu', hv']
end Go.Proofs.YtmbiompmhaiehaaDoor
