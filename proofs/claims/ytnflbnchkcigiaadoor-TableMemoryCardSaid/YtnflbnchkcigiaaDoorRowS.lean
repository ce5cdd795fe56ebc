/- Rows of structs of any size: a block that holds just these; make, store, append. No walk here. -/
import Derived.Test.YtnflbnchkcigiaaDoorRowsP
import Derived.Test.YtnflbnchkcigiaaDoorTree
import Derived.Deep.MidRow
import Derived.Laws.OwnMore
import Derived.Laws.MakeOwn
import Derived.Maps.AppendAt
namespace Go.Proofs.YtnflbnchkcigiaaDoor
open Go.RowKit

section
variable {α : Type} {f : α → Array Value} {s : Nat}
theorem flatR_app (a b : List α) : flatR f (a ++ b) = flatR f a ++ flatR f b := List.flatMap_append
theorem flatR_cons (x : α) (r : List α) : flatR f (x :: r) = (f x).toList ++ flatR f r := rfl
theorem flatR_set (hs : ∀ x, (f x).size = s) {l : List α} {k : Nat} {x : α} (hk : k < l.length) : flatR f (l.set k x) = (flatR f l).take (k * s) ++ (f x).toList ++ (flatR f l).drop (k * s + (f x).toList.length) := by
  have hl : (flatR f (l.take k)).length = k * s := by rw [flatR_len hs, List.length_take, Nat.min_eq_left (by omega)]
  have e1 : l = l.take k ++ l[k] :: l.drop (k + 1) := by rw [List.getElem_cons_drop, List.take_append_drop]
  have e2 : flatR f l = flatR f (l.take k) ++ ((f l[k]).toList ++ flatR f (l.drop (k + 1))) := by
    conv => lhs; rw [e1]
    rw [flatR_app, flatR_cons]
  have e3 : flatR f (l.set k x) = flatR f (l.take k) ++ ((f x).toList ++ flatR f (l.drop (k + 1))) := by rw [List.set_eq_take_append_cons_drop, if_pos hk, flatR_app, flatR_cons]
  have hM : (f l[k]).toList.length = s := by rw [Array.length_toList, hs]
  have hX : (f x).toList.length = s := by rw [Array.length_toList, hs]
  rw [e3, e2, hX]
  generalize flatR f (l.take k) = P at *
  generalize (f l[k]).toList = M at *
  generalize flatR f (l.drop (k + 1)) = Q at *
  have t1 : (P ++ (M ++ Q)).take (k * s) = P := by rw [← hl]; exact List.take_left
  have t2 : (P ++ (M ++ Q)).drop (k * s + s) = Q := by
    rw [← hl, ← List.drop_drop, List.drop_left]
    conv => lhs; rw [← hM]
    exact List.drop_left
  rw [t1, t2, List.append_assoc]
theorem flatR_one (h1 : ∀ x, ∀ u ∈ (f x).toList, u.oneCell' = true) (l : List α) : ∀ u ∈ flatR f l, u.oneCell' = true := by
  intro u hu
  obtain ⟨x, _, hx⟩ := List.mem_flatMap.1 hu
  exact h1 x u hx
/-- a flat list at a row's place -/
theorem flatR_get (hs : ∀ x, (f x).size = s) (hs0 : 0 < s) {l : List α} {j : Nat} {u : Value} (h : (flatR f l)[j]? = some u) : ∃ x, l[j / s]? = some x ∧ (f x)[j % s]? = some u := by
  have hj : j < l.length * s := by rw [← flatR_len (f := f) hs]; exact (List.getElem?_eq_some_iff.1 h).1
  have hd : j / s < l.length := Nat.div_lt_of_lt_mul (by rw [Nat.mul_comm]; exact hj)
  have hx := List.getElem?_eq_getElem hd
  refine ⟨_, hx, ?_⟩
  have := flatR_at (f := f) hs l (j / s) _ hx (j % s) (Nat.mod_lt _ hs0)
  rw [← this, Nat.mul_comm, Nat.div_add_mod]
  exact h
theorem Rows.flat (hs : ∀ x, (f x).size = s) (hs0 : 0 < s) {w : World} {B b o : Nat} {l : List α} (h : Rows f s w B (some ⟨b, o, none⟩) l) : ∀ j u, (flatR f l)[j]? = some u → w.cell? ((⟨b, o, none⟩ : Addr).add j) = some u := by
  intro j u hu
  obtain ⟨x, hx, hv⟩ := flatR_get hs hs0 hu
  obtain ⟨b', o', e, _, hc⟩ := h.at_ hx
  injection e with e
  injection e with e1 e2
  subst e1 e2
  have := hc _ _ hv
  rw [Addr.add_lit]
  rwa [show o + j / s * s + j % s = o + j by rw [Nat.add_assoc, Nat.mul_comm, Nat.div_add_mod]] at this
end

/-- the block g holds just these structs -/
def RB {α : Type} (f : α → Array Value) (T : TypeId) (w : World) (g : Nat) (l : List α) : Prop := CB w g T (flatR f l).toArray
section
variable {α : Type} {f : α → Array Value} {s : Nat} {T : TypeId} {w w' : World} {g : Nat} {l : List α}
theorem RB.len (h : RB f T w g l) : g < w.heap.size := CB.len h
theorem RB.keep (h : RB f T w g l) (hb : w'.heap[g]? = w.heap[g]?) : RB f T w' g l := CB.keep h hb
theorem RB.below (h : RB f T w g l) (hb : Below w.heap.size w w') : RB f T w' g l := CB.below h hb
theorem RB.cell (hs : ∀ x, (f x).size = s) (h : RB f T w g l) {k : Nat} {x : α} (hx : l[k]? = some x) {j : Nat} {v : Value} (hv : (f x)[j]? = some v) : w.cell? ⟨g, k * s + j, none⟩ = some v := by
  have hj : j < s := by rw [← hs x]; exact (Array.getElem?_eq_some_iff.1 hv).1
  rw [CB.at_ h, List.getElem?_toArray, flatR_at hs l k x hx j hj, hv]
theorem RB.reads (hs : ∀ x, (f x).size = s) (h : RB f T w g l) : Rows f s w w.heap.size (some ⟨g, 0, none⟩) l :=
  .inr ⟨g, 0, rfl, h.len, fun i x hx j v hv => by rw [Nat.zero_add]; exact RB.cell hs h hx hv⟩
theorem RB.there (hs : ∀ x, (f x).size = s) (h : RB f T w g l) {k : Nat} (hk : k < l.length) : w.there g (k * s) s := fun j hj => by
  refine ⟨?_, CB.frozen h _⟩
  rw [CB.at_ h, List.getElem?_toArray, flatR_at hs l k l[k] (List.getElem?_eq_getElem hk) j hj, Array.getElem?_eq_getElem (by rw [hs]; exact hj)]
  rfl
theorem RB.set (hs : ∀ x, (f x).size = s) (h : RB f T w g l) {k : Nat} (hk : k < l.length) (x : α) : RB f T (w.setCells g (k * s) (f x).toList) g (l.set k x) := by
  have h1 : k * s + (f x).toList.length ≤ (flatR f l).length := by
    rw [flatR_len hs, Array.length_toList, hs, show k * s + s = (k + 1) * s by rw [Nat.add_mul, Nat.one_mul]]
    exact Nat.mul_le_mul_right _ hk
  have := setCells_all (f x).toList (flatR f l) w (k * s) h h1
  unfold RB
  rwa [flatR_set hs hk]
/-- a struct stored into a row that is a block -/
theorem wpList_store_rb {P : Program} {ops : Array Oper} {rest : List Oper} {op : Oper} {a : Act} {Q : Exit → Act → World → Prop} (hgd : op.guard = none) (x y : Operand) (ho : op.op = .store T x y)
    (hs : ∀ x, (f x).size = s) (h1 : ∀ x, ∀ u ∈ (f x).toList, u.oneCell' = true) (hi : (P.info? T).map (·.size) = some s)
    (k o : Nat) (z : α) (ho2 : o = k * s) (hx : a.eval x = .pointer (some ⟨g, o, none⟩)) (hy : a.eval y = .agg (f z)) (hB : RB f T w g l) (hk : k < l.length)
    (h : ∀ w2, RB f T w2 g (l.set k z) → Turned g w w2 → wpList P ops Q rest (a.put op.dst undef) w2) : wpList P ops Q (op :: rest) a w := by
  subst ho2
  exact wpList_store_mid hgd T x y ho g (k * s) (f z) hx hy (by rw [hs]; exact RB.there hs hB hk) (by rw [hs]; exact hi) (by rw [← Array.toArray_toList (xs := f z)]; exact Go.all_oneCell_toArray (h1 z)) (h _ (RB.set hs hB hk z) (Turned.setCells _ _ _ (Turned.refl g w)))
end
/-- make of structs -/
theorem run_mk_rows {α : Type} {f : α → Array Value} {s : Nat} {T : TypeId} {P : Program} {TS : TypeId} {bytes : Nat} (z0 : α) (hs : ∀ x, (f x).size = s) (hs0 : 0 < s) (ht : P.underlying TS = some (.slice T)) (hinfo : (P.info? T).map (fun i => (i.zero, i.size, i.bytes)) = some (some (.agg (f z0)), s, bytes))
    (n m : Nat) (hnm : n ≤ m) (hb : m * bytes ≤ 140737488355328) (h63 : m ≤ 140737488355328) (W : World) : (Instr.makeSlice TS (.int .i64 (n : Int)) (.int .i64 (m : Int))).run P W =
    .ok (.slice (some ⟨W.heap.size, 0, none⟩) n m) (W.alloc (.cells (flatR f (List.replicate m z0)).toArray T)) := by
  obtain ⟨i0, hi, hz0, hz1, hz2⟩ := info_three hinfo
  have hbi : (i0.bytes : Int) * (m : Int) ≤ 281474976710656 := by
    rw [hz2, ← Int.natCast_mul, Nat.mul_comm]
    omega
  have h := run_make (P := P) W TS T i0 _ ht hi hz0 .i64 .i64 (n : Int) (m : Int) (by omega) (by omega) hbi (by omega)
  rw [hz1, Int.toNat_natCast, Int.toNat_natCast] at h
  rw [h]
  have e : madeCells (Value.agg (f z0)).cells (m * s) = (flatR f (List.replicate m z0)).toArray := by
    have hl : (flatR f (List.replicate m z0)).length = m * s := by rw [flatR_len (f := f) hs, List.length_replicate]
    apply Array.ext_getElem?
    intro j
    rw [show (flatR f (List.replicate m z0)).toArray[j]? = (flatR f (List.replicate m z0))[j]? from by simp]
    rcases Nat.lt_or_ge j (m * s) with hj | hj
    · have hd : j / s < m := Nat.div_lt_of_lt_mul (by rw [Nat.mul_comm]; exact hj)
      have e : (List.replicate m z0)[j / s]? = some z0 := by rw [List.getElem?_replicate, if_pos hd]
      have := flatR_at (f := f) hs _ (j / s) z0 e (j % s) (Nat.mod_lt _ hs0)
      rw [Nat.mul_comm, Nat.div_add_mod] at this
      rw [this]
      unfold madeCells
      rw [Array.getElem?_map, Array.getElem?_eq_getElem (by simpa using hj), Array.getElem_range]
      have hm : j % s < (f z0).size := by rw [hs]; exact Nat.mod_lt _ hs0
      show some ((f z0)[j % (f z0).size]!) = _
      rw [hs, getElem!_pos (f z0) (j % s) hm, Array.getElem?_eq_getElem hm]
    · rw [Array.getElem?_eq_none (by rw [size_madeCells]; exact hj), List.getElem?_eq_none (by rw [hl]; exact hj)]
  rw [e]
/-- a row of the call's own -/
def OwnR {α : Type} (f : α → Array Value) (s : Nat) (T : TypeId) (w : World) (B : Nat) (A : Option Addr) (c : Nat) (l : List α) : Prop := w.ownsRow B T s (.slice A l.length c) l.length (flatR f l)
section
variable {α : Type} {f : α → Array Value} {s : Nat} {T : TypeId} {w w' : World} {B : Nat} {A : Option Addr} {c : Nat} {l : List α}
theorem OwnR.nil : OwnR f s T w B none 0 [] := World.ownsRow_nil w B T s
theorem OwnR.reads (hs : ∀ x, (f x).size = s) (h : OwnR f s T w B A c l) : Rows f s w w.heap.size A l := by
  rcases Nat.eq_zero_or_pos l.length with h0 | h0
  · exact .inl (List.eq_nil_of_length_eq_zero h0)
  rcases h.2 with ⟨_, h0'⟩ | ⟨g, cap, cur, hv, hg, hc, hcap, hm, hcur, ht⟩
  · omega
  · injection hv with e1 e2 e3
    subst e1
    refine .inr ⟨g, 0, rfl, (Array.getElem?_eq_some_iff.1 hc).1, fun i x hx j v hv => ?_⟩
    have hj : j < s := by rw [← hs x]; exact (Array.getElem?_eq_some_iff.1 hv).1
    have hi : i < l.length := (List.getElem?_eq_some_iff.1 hx).1
    have hlt : i * s + j < l.length * s := by
      have : (i + 1) * s ≤ l.length * s := Nat.mul_le_mul_right _ hi
      rw [Nat.add_mul, Nat.one_mul] at this
      omega
    have h1 := flatR_at hs l i x hx j hj
    rw [hv] at h1
    rw [Nat.zero_add, cell_of_row w g _ _ T (0, 0) hc, ← Array.getElem?_toList, ← h1, ← ht, List.getElem?_take, if_pos hlt]
theorem OwnR.room (h : OwnR f s T w B A c l) : l.length ≤ c := by
  rcases h.2 with ⟨h0, h1⟩ | ⟨g, cap, cur, hv, _, _, hcap, _⟩
  · injection h0; omega
  · injection hv; omega
theorem OwnR.then_ (h : OwnR f s T w B A c l) (hb : Below w.heap.size w w') : OwnR f s T w' B A c l := by
  refine ⟨h.1, ?_⟩
  rcases h.2 with h0 | ⟨g, cap, cur, hv, hg, hc, rest⟩
  · exact .inl h0
  · exact .inr ⟨g, cap, cur, hv, hg, (hb.block g (Array.getElem?_eq_some_iff.1 hc).1).trans hc, rest⟩
theorem OwnR.low {B' : Nat} (h : OwnR f s T w B A c l) (hB : B' ≤ B) : OwnR f s T w B' A c l := by
  refine ⟨h.1, ?_⟩
  rcases h.2 with h0 | ⟨g, cap, cur, hv, hg, rest⟩
  · exact .inl h0
  · exact .inr ⟨g, cap, cur, hv, Nat.le_trans hB hg, rest⟩
theorem OwnR.blk (h : OwnR f s T w B A c l) {k : Nat} (hk : obk A = some k) : B ≤ k ∧ k < w.heap.size := by
  have := World.ownsRow.lt h k (by rw [obk_own]; exact hk)
  exact this
theorem OwnR.of_rb {g : Nat} (hs : ∀ x, (f x).size = s) (h : RB f T w g l) (hB : B ≤ g) (hl : l.length ≤ maxLen) : OwnR f s T w B (some ⟨g, 0, none⟩) l.length l := by
  refine ⟨flatR_len hs l, .inr ⟨g, l.length, _, rfl, hB, h, Nat.le_refl _, hl, by rw [List.size_toArray, flatR_len hs], ?_⟩⟩
  rw [List.take_of_length_le (by rw [flatR_len hs]; exact Nat.le_refl _)]
theorem run_append_none {P : Program} {TS : TypeId} {i : TypeInfo} (h : OwnR f s T w B A c l) (ht : P.underlying TS = some (.slice T)) (hi : P.info? T = some i) (cS : Nat) :
    (Builtin.append_ #[TS, TS] TS #[.slice A l.length c, .slice none ([] : List α).length cS]).run P w = .ok (.slice A l.length c) w := by
  rcases h.2 with ⟨h0, h1⟩ | ⟨g, cap, cur, hv, _, _, hnc, _⟩
  · injection h0 with e1 e2 e3
    subst e1 e3
    rw [e2]
    simp [Builtin.append_, run_underlying ht, sizeOf, typeInfo, Builtin.lenOf, Builtin.firstCells, hi]
  · injection hv with e1 e2 e3
    subst e1 e3
    simp [Builtin.append_, run_underlying ht, sizeOf, typeInfo, Builtin.lenOf, Builtin.firstCells, hi, storeCells, hnc]
/-- append of a row onto a row of the call's own: which rows may be nil or empty -/
theorem run_app_rows {P : Program} {TS : TypeId} {z : Value} {bytes B' cS : Nat} {S : Option Addr} {N : List α} (hs : ∀ x, (f x).size = s) (h1 : ∀ x, ∀ u ∈ (f x).toList, u.oneCell' = true) (hs0 : 0 < s)
    (ht : P.underlying TS = some (.slice T)) (hinfo : (P.info? T).map (fun i => (i.zero, i.size, i.bytes)) = some (some z, s, bytes)) (hz : z.cells.size = s)
    (h : OwnR f s T w B A c l) (hS : Rows f s w B' S N) (hl : (l.length + N.length) * bytes ≤ 140737488355328) (h63 : l.length + N.length ≤ 140737488355328) (hB : B ≤ w.heap.size) :
    ∃ A' c' w', (Builtin.append_ #[TS, TS] TS #[.slice A l.length c, .slice S N.length cS]).run P w = .ok (.slice A' (l ++ N).length c') w' ∧
      OwnR f s T w' B A' c' (l ++ N) ∧ w.grownBy w' (obk A) ∧ (obk A' = obk A ∨ obk A' = some w.heap.size) ∧ Below B w w' := by
  obtain ⟨i, hi, hz0, hz1, hz2⟩ := info_three hinfo
  have hlow : ∀ w', w.grownBy w' (obk A) → Below B w w' := fun w' hg => ⟨hg.os, hg.tape, hg.output, hg.size, fun k hk => hg.block k (by omega) fun e => by
    have := h.blk e.symm
    omega⟩
  have key : ∀ (a : Addr) (m : Nat), m = N.length → (∀ j u, (flatR f N)[j]? = some u → w.cell? (a.add j) = some u) →
      ∃ A' c' w', (Builtin.append_ #[TS, TS] TS #[.slice A l.length c, .slice (some a) m cS]).run P w = .ok (.slice A' (l ++ N).length c') w' ∧
      OwnR f s T w' B A' c' (l ++ N) ∧ w.grownBy w' (obk A) ∧ (obk A' = obk A ∨ obk A' = some w.heap.size) ∧ Below B w w' := by
    intro a m hm hcells
    subst hm
    obtain ⟨v', w', hr, hown, hg, _, hat⟩ := run_append_own_at (P := P) w B TS TS T i z s bytes ht hi hz0 hz1 hz2 hz hs0 (.slice A l.length c) l.length (flatR f l) h a N.length cS (flatR f N)
      (flatR_len hs N) hcells (flatR_one h1 N) (by simp only [maxLen]; omega) hl hB
    rw [obk_own] at hg hat
    have hv : ∃ A' c', v' = .slice A' (l.length + N.length) c' := by
      rcases hown.2 with ⟨e, e0⟩ | ⟨g, cap, _, e, _⟩
      · exact ⟨none, 0, by rw [e, e0]⟩
      · exact ⟨some ⟨g, 0, none⟩, cap, e⟩
    obtain ⟨A', c', rfl⟩ := hv
    rw [obk_own] at hat
    refine ⟨A', c', w', by rw [List.length_append]; exact hr, ?_, hg, hat, hlow w' hg⟩
    unfold OwnR
    rw [List.length_append, flatR_app]
    exact hown
  rcases hS with h0 | ⟨b, o, rfl, hb, hc⟩
  · subst h0
    cases S with
    | some a => exact key a 0 rfl (fun j u hu => by simp [flatR] at hu)
    | none =>
      refine ⟨A, c, w, ?_, by rw [List.append_nil]; exact h, ⟨rfl, rfl, rfl, Nat.le_refl _, fun _ _ _ => rfl⟩, .inl rfl, Below.refl _ _⟩
      rw [List.append_nil]
      exact (run_append_none h ht hi cS)
  · exact key ⟨b, o, none⟩ N.length rfl (Rows.flat hs hs0 (.inr ⟨b, o, rfl, hb, hc⟩))
end
end Go.Proofs.YtnflbnchkcigiaaDoor
