/- append of bytes that came in (nil, empty or not) onto a row of the call's own, as a run equation. No walk here. -/
import Derived.Test.YtggonhciakfabaaDoorBytCopy
import Derived.Maps.AppendAt
namespace Go.Proofs.YtggonhciakfabaaDoor
open Go.RowKit
open Go.Lib (byteCells)

/-- the slice value v is a row of the call's own: the bytes l -/
def OwnB (w : World) (base : Nat) (e : TypeId) (A : Option Addr) (c : Nat) (l : List UInt8) : Prop :=
  w.ownsRow base e 1 (.slice A l.length c) l.length (byteCells l)

theorem OwnB.reads {w : World} {base : Nat} {e : TypeId} {A : Option Addr} {c : Nat} {l : List UInt8} (h : OwnB w base e A c l) : Byt w w.heap.size A l := (Byt.own h).2
theorem OwnB.lt {w : World} {base : Nat} {e : TypeId} {A : Option Addr} {c : Nat} {l : List UInt8} (h : OwnB w base e A c l) : ∀ k, (Value.slice A l.length c).ownBlock = some k → base ≤ k ∧ k < w.heap.size := World.ownsRow.lt h
theorem OwnB.nil (w : World) (base : Nat) (e : TypeId) : OwnB w base e none 0 [] := World.ownsRow_nil w base e 1

theorem own_low {w : World} {base base' : Nat} {e : TypeId} {v : Value} {n : Nat} {xs : List Value} (hB : base' ≤ base) (h : w.ownsRow base e 1 v n xs) : w.ownsRow base' e 1 v n xs := by
  refine ⟨h.1, ?_⟩
  rcases h.2 with h0 | ⟨g, cap, cur, hv, hb, rest⟩
  · exact .inl h0
  · exact .inr ⟨g, cap, cur, hv, by omega, rest⟩
theorem own_room {w : World} {base : Nat} {e : TypeId} {A : Option Addr} {n c m : Nat} {xs : List Value} (h : w.ownsRow base e 1 (.slice A n c) m xs) : n ≤ c ∧ n = m := by
  rcases h.2 with ⟨hv, h0⟩ | ⟨g, cap, cur, hv, hb, hg, hn, rest⟩
  · injection hv with _ h2 h3
    omega
  · injection hv with _ h2 h3
    omega

theorem run_append_nothing {P : Program} {w : World} (base : Nat) (T ty e : TypeId) (i : TypeInfo) (ht : P.underlying T = some (.slice e)) (hi : P.info? e = some i) (v : Value) (n c : Nat) (xs : List Value)
    (hown : w.ownsRow base e 1 v n xs) : (Builtin.append_ #[T, T] ty #[v, .slice none 0 c]).run P w = .ok v w := by
  rcases hown.2 with ⟨rfl, rfl⟩ | ⟨g, cap, cur, rfl, _, _, hnc, _⟩ <;>
    simp [Builtin.append_, run_underlying ht, sizeOf, typeInfo, Builtin.lenOf, Builtin.firstCells, *, storeCells]

/-- pre and then l -/
theorem run_append_byt {P : Program} {w : World} {B : Nat} {A A0 : Option Addr} {pre l : List UInt8} (base : Nat) (T ty e : TypeId) (i : TypeInfo) (z : Value)
    (ht : P.underlying T = some (.slice e)) (hi : P.info? e = some i) (hz : i.zero = some z) (hs : i.size = 1) (hb : i.bytes = 1) (hzs : z.cells.size = 1)
    (c0 c : Nat) (hown : OwnB w base e A0 c0 pre) (h : Byt w B A l) (r : List UInt8) (hr : r = pre ++ l) (hm : r.length ≤ 140737488355328) (hbase : base ≤ w.heap.size) :
    ∃ A' c' w', (Builtin.append_ #[T, T] ty #[.slice A0 pre.length c0, .slice A l.length c]).run P w = .ok (.slice A' r.length c') w' ∧ OwnB w' base e A' c' r ∧ Below base w w' := by
  subst hr
  have hln : (pre ++ l).length = pre.length + l.length := List.length_append
  rw [hln] at hm
  have close : ∀ v' w', (Builtin.append_ #[T, T] ty #[.slice A0 pre.length c0, .slice A l.length c]).run P w = .ok v' w' → w'.ownsRow base e 1 v' (pre.length + l.length) (byteCells pre ++ byteCells l) → w.grownBy w' (Value.slice A0 pre.length c0).ownBlock →
      ∃ A' c' w', (Builtin.append_ #[T, T] ty #[.slice A0 pre.length c0, .slice A l.length c]).run P w = .ok (.slice A' (pre ++ l).length c') w' ∧ OwnB w' base e A' c' (pre ++ l) ∧ Below base w w' := by
    intro v' w' hr ho hg
    rw [← Go.Lib.byteCells_append, ← hln] at ho
    have hB : Below base w w' := (Below.refl base w).grown hg hbase fun k hk => (hown.lt k hk).1
    rcases ho.2 with ⟨rfl, h0⟩ | ⟨g, cap, cur, rfl, rest⟩
    · exact ⟨none, 0, w', by rw [hr, h0], by unfold OwnB; rw [h0] at ho ⊢; exact ho, hB⟩
    · exact ⟨some ⟨g, 0, none⟩, cap, w', hr, ho, hB⟩
  have hcells : ∀ a : Addr, A = some a → ∀ j u, (byteCells l)[j]? = some u → w.cell? (a.add j) = some u := by
    intro a ha j u hu
    obtain ⟨hj, rfl⟩ := byteCells_at l j u hu
    obtain ⟨b, o, hA, _, hc⟩ := h.at_ (by omega)
    rw [hA] at ha
    obtain rfl := Option.some.inj ha
    rw [Addr.add_lit]
    exact hc j hj
  rcases A with _ | a
  · have hl : l = [] := by
      rcases h with h | ⟨b, o, hA, _⟩
      · exact h
      · cases hA
    subst hl
    have := run_append_nothing (P := P) base T ty e i ht hi _ _ c _ hown
    exact close _ _ this (by have h := hown; unfold OwnB at h; simpa [byteCells] using h) ⟨rfl, rfl, rfl, Nat.le_refl _, fun _ _ _ => rfl⟩
  · obtain ⟨v', w', hr, ho, hg, _, _⟩ := run_append_own_at (P := P) w base T ty e i z 1 1 ht hi hz hs hb hzs (by decide) _ pre.length (byteCells pre) hown a l.length c (byteCells l) (by rw [Go.Lib.byteCells_length]; omega) (hcells a rfl)
      (byteCells_one l) (by simp only [maxLen]; omega) (by omega) hbase
    exact close _ _ hr ho hg

/-- At the operation, out of a run equation: an arm behind 'at_builtin'. -/
theorem wpList_append_run {P : Program} {w w' : World} {ops : Array Oper} {rest : List Oper} {o : Oper} {a : Act} {Q : Exit → Act → World → Prop} (hgd : o.guard = none) (s x : Operand) (T : TypeId)
    (ho : o.op = .call { callee := .builtin .append, args := #[s, x], argTypes := #[T, T] }) {u v v' : Value} (hs : a.eval s = u) (hx : a.eval x = v)
    (hrun : (Builtin.append_ #[T, T] o.type #[u, v]).run P w = .ok v' w') (h : wpList P ops Q rest (a.put o.dst v') w') : wpList P ops Q (o :: rest) a w :=
  wpList_plain hgd fun _ hK => by
    unfold Oper.wp execOp
    simp only [ho, resolve, invoke, builtin, Sem.run_bind, Sem.run_pure, Result.andThen_ok, List.map_toArray, List.map_cons, List.map_nil, hs, hx, hrun]
    exact hK _ _ h
end Go.Proofs.YtggonhciakfabaaDoor
