/- Rows of bytes of the call's own: kept, grown by bytes that were just laid, read as a text. No walk here. -/
import Derived.Test.YtggonhciakfabaaDoorBytApp
import Derived.Test.YtggonhciakfabaaDoorProg
namespace Go.Proofs.YtggonhciakfabaaDoor
open Go.RowKit
open Go.Lib (byteCells)

theorem infoB : (Tryd.prog.info? 5).map (fun i => (i.zero, i.size, i.bytes)) = some (some (.int .u8 0), 1, 1) := by kernel_rfl

theorem byt_new (w : World) (cs : Array Value) (l : List UInt8) (T : TypeId) (h : cs.toList = byteCells l) : Byt (w.alloc (.cells cs T)) (w.alloc (.cells cs T)).heap.size (some ⟨w.heap.size, 0, none⟩) l := by
  refine .inr ⟨w.heap.size, 0, rfl, by simp, fun j hj => ?_⟩
  rw [cell_of_row _ w.heap.size _ cs T (0, 0) (heap_alloc_new w _), Nat.zero_add, ← Array.getElem?_toList, h]
  exact byteCells_get l j hj

theorem own_then {w w' : World} {base : Nat} {e : TypeId} {s : Nat} {v : Value} {n : Nat} {xs : List Value} (h : w.ownsRow base e s v n xs) (hb : Below w.heap.size w w') : w'.ownsRow base e s v n xs := by
  refine ⟨h.1, ?_⟩
  rcases h.2 with h0 | ⟨g, cap, cur, hv, hg, hc, rest⟩
  · exact .inl h0
  · exact .inr ⟨g, cap, cur, hv, hg, (hb.block g (Array.getElem?_eq_some_iff.1 hc).1).trans hc, rest⟩
theorem OwnB.then_ {w w' : World} {base : Nat} {e : TypeId} {A : Option Addr} {c : Nat} {l : List UInt8} (h : OwnB w base e A c l) (hb : Below w.heap.size w w') : OwnB w' base e A c l := own_then h hb
theorem OwnB.new {w : World} {base : Nat} {e : TypeId} {A : Option Addr} {c : Nat} {l : List UInt8} (h : OwnB w base e A c l) (o : Obj) : OwnB (w.alloc o) base e A c l := h.then_ ((Below.refl _ _).alloc (Nat.le_refl _) _)

/-- bytes of a block just made, appended -/
theorem run_app_new {w : World} {base : Nat} {A : Option Addr} {c : Nat} {pre : List UInt8} (ho : OwnB w base 5 A c pre) (cs : Array Value) (l : List UInt8) (n : Nat) (hn : n = l.length) (h : cs.toList = byteCells l) (T : TypeId)
    (r : List UInt8) (hr : r = pre ++ l) (hm : r.length ≤ 140737488355328) (hbase : base ≤ w.heap.size) :
    ∃ A' c' w', (Builtin.append_ #[41, 41] 41 #[.slice A pre.length c, .slice (some ⟨w.heap.size, 0, none⟩) n n]).run Tryd.prog (w.alloc (.cells cs T)) = .ok (.slice A' r.length c') w' ∧ OwnB w' base 5 A' c' r ∧ Below base w w' := by
  obtain ⟨i0, hi, hz0, hz1, hz2⟩ := info_parts infoB
  subst hn
  obtain ⟨A', c', w', h1, h2, h3⟩ := run_append_byt (P := Tryd.prog) base 41 41 5 i0 _ Tryd.underlying41 hi hz0 hz1 hz2 rfl c l.length (ho.new _) (byt_new w cs l T h) r hr hm (by simp; omega)
  exact ⟨A', c', w', h1, h2, ((Below.refl base w).alloc hbase _).trans h3⟩

theorem own_byt {w : World} {base : Nat} {e : TypeId} {A : Option Addr} {c : Nat} {l : List UInt8} (h : OwnB w base e A c l) (n : Nat) :
    (convert 41 9 (.slice A l.length n)).run Tryd.prog w = .ok (.string (str l)) w :=
  run_str h.reads 41 5 9 Tryd.underlying41 Tryd.underlying5 Tryd.underlying9 n
end Go.Proofs.YtggonhciakfabaaDoor
