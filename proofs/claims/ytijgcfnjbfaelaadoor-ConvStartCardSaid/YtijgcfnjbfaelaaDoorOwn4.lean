/- A list of structs of four cells in the call's own memory: kept, grown by append. No walk here. -/
import Derived.Test.YtijgcfnjbfaelaaDoorBytMem
import Derived.Maps.AppendAt
import Derived.Laws.OwnMore
import Derived.Deep.AppendLies
import Derived.Great.BuildSlice
namespace Go.Proofs.YtijgcfnjbfaelaaDoor
open Go.RowKit

/-- what stood when the call began stands, and v is a row of the call's own: n structs of four cells each -/
structure Own4 (T : TypeId) (w0 w : World) (v : Value) (n : Nat) (xs : List Value) : Prop where
  below : Below w0.heap.size w0 w
  own : w.ownsRow w0.heap.size T 4 v n xs
section
variable {T : TypeId} {w0 w w' : World} {v : Value} {n : Nat} {xs : List Value}
theorem Own4.nil (T : TypeId) (w : World) : Own4 T w w (.slice none 0 0) 0 [] := ⟨Below.refl _ _, World.ownsRow_nil w _ T 4⟩
theorem Own4.then_ (h : Own4 T w0 w v n xs) (hb : Below w.heap.size w w') : Own4 T w0 w' v n xs := by
  refine ⟨Below.both h.below hb, h.own.1, ?_⟩
  rcases h.own.2 with h0 | ⟨g, cap, cur, hv, hg, hc, rest⟩
  · exact .inl h0
  · exact .inr ⟨g, cap, cur, hv, hg, (hb.block g (Array.getElem?_eq_some_iff.1 hc).1).trans hc, rest⟩
theorem Own4.new (h : Own4 T w0 w v n xs) (o : Obj) : Own4 T w0 (w.alloc o) v n xs := h.then_ ((Below.refl _ _).alloc (Nat.le_refl _) _)
/-- a list that was just laid -/
theorem Own4.made (hb : Below w0.heap.size w0 w) (cs : Array Value) (n : Nat) (hs : cs.size = n * 4) (hm : n ≤ maxLen) : Own4 T w0 (w.alloc (.cells cs T)) (.slice (some ⟨w.heap.size, 0, none⟩) n n) n cs.toList :=
  ⟨hb.alloc hb.size _, World.ownsRow_lit w cs n hb.size hm hs⟩
/-- append of a list that was just laid -/
theorem own4_append {P : Program} (h : Own4 T w0 w v n xs) (t ty : TypeId) (i : TypeInfo) (z : Value) (ht : P.underlying t = some (.slice T)) (hi : P.info? T = some i) (hz : i.zero = some z) (hs : i.size = 4) (hby : i.bytes = 40) (hzs : z.cells.size = 4)
    (cs : Array Value) (m : Nat) (hc : cs.size = m * 4) (h1 : ∀ u ∈ cs.toList, u.oneCell' = true) (hl : n + m ≤ 1000) :
    ∃ v' w', (Builtin.append_ #[t, t] ty #[v, .slice (some ⟨w.heap.size, 0, none⟩) m m]).run P (w.alloc (.cells cs T)) = .ok v' w' ∧ Own4 T w0 w' v' (n + m) (xs ++ cs.toList) := by
  have h2 := h.new (.cells cs T)
  obtain ⟨v', w', hr, ho, hg, _, _⟩ := run_append_own_at (P := P) (w.alloc (.cells cs T)) w0.heap.size t ty T i z 4 40 ht hi hz hs hby hzs (by decide) v n xs h2.own ⟨w.heap.size, 0, none⟩ m m cs.toList (by simpa using hc)
    (fun j u hu => by rw [Addr.add_lit, Nat.zero_add, cell_of_row _ w.heap.size _ cs T (0, 0) (heap_alloc_new w _), ← Array.getElem?_toList]; exact hu) h1 (by simp only [maxLen]; omega) (by omega) h2.below.size
  exact ⟨v', w', hr, ⟨h2.below.grown hg h2.below.size fun k hk => (World.ownsRow.lt h2.own k hk).1, ho⟩⟩
/-- append of a list that was just laid onto a list of other memory that is full -/
theorem first_append {P : Program} (hb : Below w0.heap.size w0 w) (t ty : TypeId) (i : TypeInfo) (z : Value) (ht : P.underlying t = some (.slice T)) (hi : P.info? T = some i) (hz : i.zero = some z) (hs : i.size = 4) (hby : i.bytes = 40) (hzs : z.cells.size = 4)
    (g n : Nat) (olds : List Value) (ho : olds.length = n * 4) (hold : ∀ j v, olds[j]? = some v → w.cell? ⟨g, j, none⟩ = some v) (hg : g < w.heap.size)
    (cs : Array Value) (m : Nat) (hc : cs.size = m * 4) (hm : 0 < m) (hl : n + m ≤ 1000) :
    ∃ v' w', (Builtin.append_ #[t, t] ty #[.slice (some ⟨g, 0, none⟩) n n, .slice (some ⟨w.heap.size, 0, none⟩) m m]).run P (w.alloc (.cells cs T)) = .ok v' w' ∧ Own4 T w0 w' v' (n + m) (olds ++ cs.toList) := by
  have hcap := grownCap_le_maxLen (w.alloc (.cells cs T)) (n + m) n T (by simp only [maxLen]; omega)
  have hge := grownCap_ge (w.alloc (.cells cs T)) (n + m) n T
  have hr := run_append_grow (P := P) (w.alloc (.cells cs T)) t ty T i z ht hi hz ⟨g, 0, none⟩ n n olds (by rw [hs]; exact ho)
    (fun j v hv => by rw [Addr.add_lit, Nat.zero_add, (Below.cells ((Below.refl w.heap.size w).alloc (Nat.le_refl _) (.cells cs T))).1 g j hg]; exact hold j v hv)
    ⟨w.heap.size, 0, none⟩ m m cs.toList (by rw [hs]; simpa using hc)
    (fun j u hu => by rw [Addr.add_lit, Nat.zero_add, cell_of_row _ w.heap.size _ cs T (0, 0) (heap_alloc_new w _), ← Array.getElem?_toList]; exact hu) (by omega) (by omega) (growslice_fits (by omega) (by rw [hby]; omega))
  have hB : Below w0.heap.size w0 (w.alloc (.cells cs T)) := hb.alloc hb.size _
  refine ⟨_, _, hr, ⟨(Below.drew hB).alloc (by have := hB.size; exact this) _, by rw [List.length_append, ho]; simp [hc]; omega, .inr ⟨_, _, _, rfl, hB.size, heap_alloc_new _ _, hge, hcap, ?_, ?_⟩⟩⟩
  · simp only [Array.size_append, List.size_toArray, size_zeroCells, hzs, ho, hc]
    omega
  · simp only [Array.toList_append, List.append_assoc]
    rw [← List.append_assoc, show (n + m) * 4 = (olds ++ cs.toList).length by rw [List.length_append, ho]; simp [hc]; omega]
    exact List.take_left
/-- a list of structs of four cells, laid at once -/
theorem wpList_list {P : Program} {ops : Array Oper} {rest : List Oper} {o : Oper} {a : Act} {Q : Exit → Act → World → Prop} (hg : o.guard = none) (t e : TypeId) (len : Nat) (parts : Array (Nat × Operand)) (ho : o.op = .buildSlice t len parts)
    (cells : Array Value) (ie : TypeInfo) (z : Value) (hu : P.underlying t = some (.slice e)) (hie : P.info? e = some ie) (hz : ie.zero = some z) (h4 : ie.size = 4) (hp : 0 < len) (hl : len ≤ 1000)
    (hf : Instr.fill (fun i => some (i * 4, 4)) ((Array.range (len * 4)).map (z.cells[· % z.cells.size]!)) (parts.map fun (i, x) => (i, a.eval x)).toList = some cells)
    (h : wpList P ops Q rest (a.put o.dst (.slice (some ⟨w.heap.size, 0, none⟩) len len)) (w.alloc (.cells cells e))) : wpList P ops Q (o :: rest) a w :=
  wpList_buildSlice hg t e len parts ho cells ie z hu hie hz (by rw [h4]; omega) (by rw [h4]; omega) (by rw [h4]; exact hf) h
theorem info_of {P : Program} {T : TypeId} {z : Value} (h : (P.info? T).map (fun i => (i.zero, i.size, i.bytes)) = some (some z, 4, 40)) : ∃ i, P.info? T = some i ∧ i.zero = some z ∧ i.size = 4 ∧ i.bytes = 40 := by
  cases hq : P.info? T with
  | none => simp [hq] at h
  | some i =>
    simp [hq] at h
    exact ⟨i, rfl, h.1, h.2.1, h.2.2⟩
/-- it is a slice; its cells -/
theorem Own4.form (h : Own4 T w0 w v n xs) (hn : 0 < n) : ∃ g cap, v = .slice (some ⟨g, 0, none⟩) n cap ∧ n ≤ cap ∧ cap ≤ maxLen ∧ w0.heap.size ≤ g ∧ g < w.heap.size ∧ ∀ j, j < n * 4 → w.cell? ⟨g, j, none⟩ = xs[j]? := by
  rcases h.own.2 with ⟨_, h0⟩ | ⟨g, cap, cur, hv, hb, hg, hnc, hm, _⟩
  · omega
  · have ho := h.own
    rw [hv] at ho
    exact ⟨g, cap, hv, hnc, hm, hb, (Array.getElem?_eq_some_iff.1 hg).1, fun j hj => ho.cellAt j hj⟩
end
end Go.Proofs.YtijgcfnjbfaelaaDoor
