/- Arguments opened: slices of structs, whatever their fields are. -/
import Derived.Test.YtnflbnchkcigiaaDoorProg
import Derived.Test.YtnflbnchkcigiaaDoorRowsP
import Derived.Test.YtnflbnchkcigiaaDoorStructs
import Derived.Test.YtnflbnchkcigiaaDoorRows
namespace Go.Proofs.YtnflbnchkcigiaaDoor.OG
open Go.Joins Go.ChangeShapes Go.WideShapes Go.Deep Go.RowKit

section
variable {H : Type} {P : Program}
theorem weight_in {e : TypeId} {fs : Array Field} {parts : List (DataW H)} {j n : Nat} {f : Field} {d : DataW H} (he : P.underlying e = some (.struct fs))
    (hj : fs[j]? = some f) (hp : parts[j]? = some d) (hn : n ∈ d.weights P f.type) : n ∈ (DataW.agg parts).weights P e := by
  simp only [DataW.weights, he]
  refine DataW.weights_mem_each (j := j) (t := f.type) (d := d) ?_ hp _ hn
  rw [List.getElem?_map, Array.getElem?_toList, hj]
  rfl
theorem weight_elem {t e : TypeId} {elems spare : List (DataW H)} {d : DataW H} {n : Nat} (ht : P.underlying t = some (.slice e)) (hd : d ∈ elems) (hn : n ∈ d.weights P e) : n ∈ (DataW.slice elems spare).weights P t := by
  simp only [DataW.weights, ht, List.mem_cons, List.mem_append]
  exact .inr (.inl (weights_all hd hn))
theorem bulk_pos (d : DataW H) : 1 ≤ Rows.uptoBulk d := by
  unfold Rows.uptoBulk
  split <;> omega
theorem bulk_mem : ∀ {l : List (DataW H)} {d : DataW H}, d ∈ l → Rows.uptoBulk d ≤ Rows.uptoBulkAll l
  | x :: l, d, h => by
    rw [Rows.uptoBulkAll]
    rcases List.mem_cons.1 h with rfl | h
    · omega
    · have := bulk_mem h
      omega
theorem bulk_len : ∀ (l : List (DataW H)), l.length ≤ Rows.uptoBulkAll l
  | [] => Nat.zero_le _
  | x :: l => by
    have := bulk_len l
    have := bulk_pos x
    rw [Rows.uptoBulkAll, List.length_cons]
    omega
/-- what a datum weighs, and (in the second form) how much it holds -/
def Fitd (P : Program) (U : Prop) (t : TypeId) (d : DataW H) : Prop := (∀ n ∈ d.weights P t, n ≤ reachBytes) ∧ (U → Rows.uptoBulk d ≤ 1048576)
variable {U : Prop}
theorem Fitd.elem {t e : TypeId} {elems spare : List (DataW H)} {d : DataW H} (h : Fitd P U t (.slice elems spare)) (ht : P.underlying t = some (.slice e)) (hd : d ∈ elems) : Fitd P U e d := by
  refine ⟨fun n hn => h.1 n (weight_elem ht hd hn), fun u => ?_⟩
  have := h.2 u
  rw [Rows.uptoBulk] at this
  have := bulk_mem hd
  omega
theorem Fitd.len {t e : TypeId} {elems spare : List (DataW H)} (h : Fitd P U t (.slice elems spare)) (ht : P.underlying t = some (.slice e)) : elems.length * P.bytesOf e ≤ reachBytes ∧ (U → elems.length ≤ 1048576) := by
  refine ⟨Nat.le_trans (Nat.mul_le_mul_right _ (Nat.le_add_right _ _)) (h.1 _ (weight_len ht)), fun u => ?_⟩
  have := h.2 u
  rw [Rows.uptoBulk] at this
  have := bulk_len elems
  omega
theorem Fitd.part {e : TypeId} {fs : Array Field} {parts : List (DataW H)} {j : Nat} {f : Field} {d : DataW H} (h : Fitd P U e (.agg parts)) (he : P.underlying e = some (.struct fs)) (hj : fs[j]? = some f) (hp : parts[j]? = some d) : Fitd P U f.type d := by
  refine ⟨fun n hn => h.1 n (weight_in he hj hp hn), fun u => ?_⟩
  have := h.2 u
  rw [Rows.uptoBulk] at this
  have := bulk_mem (List.mem_of_getElem? hp)
  omega
theorem Fitd.text {t : TypeId} {s : ByteArray} (h : Fitd P U t (DataW.lit (H := H) (.string s.data.toList))) : s.size ≤ 140737488351232 ∧ (U → s.size ≤ 1048576) := by
  have h1 := h.1 _ weight_string
  have hr : reachBytes ≤ 140737488351232 := by decide
  rw [← Lib.size_eq] at h1
  refine ⟨by omega, fun u => ?_⟩
  have := h.2 u
  rw [Rows.uptoBulk, ← Lib.size_eq] at this
  omega
variable {enc : TypeId × Value → H} {w : World}
/-- these cells are read as one of this type -/
def Rd (enc : TypeId × Value → H) (P : Program) (U : Prop) (w : World) (t : TypeId) (cs : List Value) : Prop := ∃ (n : Nat) (y : DataW H × List MemPlace), DataW.trod enc P w 0 (fun _ => true) true n t cs = some y ∧ Fitd P U t y.1
theorem rd_int {k : IntKind} {t : TypeId} {cs : List Value} (ht : P.underlying t = some (.int k)) (h : Rd enc P U w t cs) : ∃ z, cs = [.int k z] ∧ (Lit.int k z).wf = true := by
  obtain ⟨n, y, h, _⟩ := h
  obtain ⟨z, h1, _, h3⟩ := DataW.trod_int ht h
  exact ⟨z, h1, h3⟩
theorem rd_text {t : TypeId} {cs : List Value} (ht : P.underlying t = some .string) (h : Rd enc P U w t cs) : ∃ s : ByteArray, cs = [.string s] ∧ s.size ≤ 140737488351232 ∧ (U → s.size ≤ 1048576) := by
  obtain ⟨n, y, h, hf⟩ := h
  obtain ⟨s, h1, h2, _⟩ := DataW.trod_string ht h
  rw [h2] at hf
  have := Fitd.text hf
  exact ⟨s, h1, this.1, this.2⟩
theorem rd_struct {t : TypeId} {fs : Array Field} {cs : List Value} (ht : P.underlying t = some (.struct fs)) (h : Rd enc P U w t cs) :
    cs.length = P.cellsOf t ∧ ∀ (i : Nat) (f : Field) (T : TypeId) (o m : Nat), fs[i]? = some f → f.type = T → f.offset = o → P.cellsOf T = m → Rd enc P U w T ((cs.drop o).take m) := by
  obtain ⟨n, y, h, hf⟩ := h
  obtain ⟨xs, n', _, hx, hlen, hxl, hat⟩ := DataW.trod_struct ht h
  subst hx
  refine ⟨hlen, fun i f T o m hi hT ho hm => ?_⟩
  subst hT ho hm
  have hj : i < fs.size := (Array.getElem?_eq_some_iff.1 hi).1
  have hys : xs[i]? = some (xs[i]'(by omega)) := List.getElem?_eq_getElem (by omega)
  exact ⟨n', _, (hat i f hi).trans hys, hf.part ht hi (by rw [List.getElem?_map, hys]; rfl)⟩
/-- a slice of structs, opened -/
theorem rd_rows {α : Type} {f : α → Array Value} {s b : Nat} {Q : α → Prop} {t e : TypeId} (ht : P.underlying t = some (.slice e)) (hC : P.cellsOf e = s) (hs0 : 0 < s) (hb : P.bytesOf e = b) (hz : ∀ z, (f z).size = s)
    (hel : ∀ cs, Rd enc P U w e cs → ∃ z, cs = (f z).toList ∧ Q z)
    {cs : List Value} (h : Rd enc P U w t cs) : ∃ A c l, cs = [.slice A (List.length l) c] ∧ Rows f s w w.heap.size A l ∧ (∀ x ∈ l, Q x) ∧ l.length * b ≤ 140737488351232 ∧ (U → l.length ≤ 1048576) ∧ l.length ≤ c := by
  obtain ⟨fuel, y, h, hf⟩ := h
  have hr47 : reachBytes ≤ 140737488351232 := by decide
  rcases open_slice ht h with ⟨hv, _⟩ | ⟨a, len, cap, m, n, D, Pl, hv, _, hle, hm, hmm, hx, hfl⟩
  · exact ⟨none, 0, [], hv, .inl rfl, (fun x hx => by cases hx), (by simp), (fun _ => by simp), by simp⟩
  · subst hx
    simp only [if_true] at hmm
    subst hmm
    obtain ⟨l1, l2⟩ := hf.len ht
    rw [hb, List.length_map, List.length_range] at l1
    rw [List.length_map, List.length_range] at l2
    have hall : ∀ i, i < len → ∃ z : α, (∀ j, j < s → w.cell? (a.add (i * s + j)) = (f z)[j]?) ∧ Q z := by
      intro i hi
      obtain ⟨cs', hc, ht'⟩ := hfl i (by omega)
      rw [hC] at hc
      obtain ⟨_, hcl, hat⟩ := World.cells?_some hc
      obtain ⟨z, h1, h2⟩ := hel cs' ⟨n, _, ht', hf.elem ht (List.mem_map.2 ⟨i, List.mem_range.2 hi, rfl⟩)⟩
      refine ⟨z, fun j hj => ?_, h2⟩
      rw [← Go.Deep.add_add, hat j hj, h1, Array.getElem?_toList]
    obtain ⟨l, hl, hq⟩ := list_of _ len hall
    refine ⟨some a, m, l, by rw [hl]; exact hv, ?_, fun x hx => ?_, by rw [hl]; omega, fun u => by rw [hl]; exact l2 u, by omega⟩
    · rcases Nat.eq_zero_or_pos len with h0 | h0
      · exact .inl (List.eq_nil_of_length_eq_zero (by omega))
      · obtain ⟨z0, hz0⟩ : ∃ z, l[0]? = some z := ⟨l[0], List.getElem?_eq_getElem (by omega)⟩
        have hc0 := (hq 0 z0 hz0).1 0 hs0
        obtain ⟨u0, hu0⟩ : ∃ u, (f z0)[0]? = some u := ⟨(f z0)[0]'(by rw [hz]; exact hs0), Array.getElem?_eq_getElem _⟩
        rw [hu0] at hc0
        obtain ⟨g, o, spot⟩ := a
        have hspot : spot = none := by simpa [Addr.add] using World.cell?_spot hc0
        subst hspot
        refine .inr ⟨g, o, rfl, ?_, fun i x hx j u hu => ?_⟩
        · rw [add_plain] at hc0
          exact World.block_lt_of_cell? w ⟨g, _, none⟩ hc0
        · have hj : j < s := by rw [← hz x]; exact (Array.getElem?_eq_some_iff.1 hu).1
          have := (hq i x hx).1 j hj
          rw [add_plain, hu] at this
          rw [Nat.add_assoc]
          exact this
    · obtain ⟨i, hi⟩ := List.mem_iff_getElem?.1 hx
      exact (hq i x hi).2
theorem rd_arg {t : TypeId} {v : Value} {d : DataW H} {p : List MemPlace} (h : DataW.Trod enc P w 0 (fun _ => true) true t v d p) (hf : Fitd P U t d) : Rd enc P U w t v.cells.toList := by
  obtain ⟨fuel, h⟩ := h
  exact ⟨fuel, _, h, hf⟩
end
end Go.Proofs.YtnflbnchkcigiaaDoor.OG
