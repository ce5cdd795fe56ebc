/- The arguments opened: one conversion of a value, a slice of such. -/
import Derived.Test.YtijgcfnjbfaelaaDoorProg
import Derived.Test.YtijgcfnjbfaelaaDoorConvAllLaw
import Derived.Test.YtijgcfnjbfaelaaDoorStructs
import Derived.Test.YtijgcfnjbfaelaaDoorBytOpen
namespace Go.Proofs.YtijgcfnjbfaelaaDoor
open Go.Joins Go.ChangeShapes Go.WideShapes Go.Deep Go.RowKit

section
variable {H : Type} {P : Program}
/-- what weighs in a part weighs in the whole -/
theorem weight_in {e : TypeId} {fs : Array Field} {parts : List (DataW H)} {j n : Nat} {f : Field} {d : DataW H} (he : P.underlying e = some (.struct fs))
    (hj : fs[j]? = some f) (hp : parts[j]? = some d) (hn : n ∈ d.weights P f.type) : n ∈ (DataW.agg parts).weights P e := by
  simp only [DataW.weights, he]
  refine DataW.weights_mem_each (j := j) (t := f.type) (d := d) ?_ hp _ hn
  rw [List.getElem?_map, Array.getElem?_toList, hj]
  rfl
theorem weight_elem {t e : TypeId} {elems spare : List (DataW H)} {d : DataW H} {n : Nat} (ht : P.underlying t = some (.slice e)) (hd : d ∈ elems) (hn : n ∈ d.weights P e) : n ∈ (DataW.slice elems spare).weights P t := by
  simp only [DataW.weights, ht, List.mem_cons, List.mem_append]
  exact .inr (.inl (weights_all hd hn))
end
theorem list2 {α : Type} {l : List α} (h : l.length = 2) : ∃ a b, l = [a, b] := by
  match l, h with
  | [a, b], _ => exact ⟨a, b, rfl⟩
theorem list3 {α : Type} {l : List α} (h : l.length = 3) : ∃ a b c, l = [a, b, c] := by
  match l, h with
  | [a, b, c], _ => exact ⟨a, b, c, rfl⟩
theorem list4 {α : Type} {l : List α} (h : l.length = 4) : ∃ a b c d, l = [a, b, c, d] := by
  match l, h with
  | [a, b, c, d], _ => exact ⟨a, b, c, d, rfl⟩

def opC (f : Opn) : Array Value := #[.int .i64 f.n, .int .i64 f.v.k, .int .u64 f.v.n, .string f.v.s]
theorem cellsI : Tryd.prog.cellsOf 3 = 1 := by kernel_rfl
theorem cellsU : Tryd.prog.cellsOf 22 = 1 := by kernel_rfl
theorem cellsS : Tryd.prog.cellsOf 9 = 1 := by kernel_rfl
theorem cellsV : Tryd.prog.cellsOf 24 = 3 := by kernel_rfl
theorem cellsO : Tryd.prog.cellsOf 26 = 4 := by kernel_rfl

section
variable {H : Type} {enc : TypeId × Value → H} {w : World}
theorem part_at {P : Program} {fs : Array Field} {xs : List (DataW H × List MemPlace)} {n : Nat} {cs : List Value}
    (hf : ∀ (i : Nat) (f : Field), fs[i]? = some f → DataW.trod enc P w 0 (fun _ => true) true n f.type ((cs.drop f.offset).take (P.cellsOf f.type)) = xs[i]?)
    (i : Nat) (T : TypeId) (o m : Nat) (f : Field) (h : fs[i]? = some f) (hT : f.type = T) (ho : f.offset = o) (hm : P.cellsOf T = m) :
    DataW.trod enc P w 0 (fun _ => true) true n T ((cs.drop o).take m) = xs[i]? := by
  subst hT ho hm
  exact hf i f h
set_option maxRecDepth 100000 in
theorem op_cells {fuel : Nat} {cs : List Value} {y : DataW H × List MemPlace} (h : DataW.trod enc Tryd.prog w 0 (fun _ => true) true fuel 26 cs = some y) (hw : ∀ n ∈ y.1.weights Tryd.prog 26, n ≤ reachBytes) :
    ∃ f : Opn, cs = (opC f).toList ∧ Fit64 f.v ∧ f.v.s.size ≤ 140737488355328 := by
  obtain ⟨xs, n, _, hx, hlen, hxl, hf⟩ := DataW.trod_struct Tryd.underlying26 h
  rw [cellsO] at hlen
  obtain ⟨a, b, c, d, rfl⟩ := list4 hlen
  obtain ⟨x0, x1, rfl⟩ := list2 (hxl.trans rfl)
  have h0 : DataW.trod enc Tryd.prog w 0 (fun _ => true) true n 3 [a] = some x0 := part_at hf 0 3 0 1 _ rfl rfl rfl cellsI
  have h1 : DataW.trod enc Tryd.prog w 0 (fun _ => true) true n 24 [b, c, d] = some x1 := part_at hf 1 24 1 3 _ rfl rfl rfl cellsV
  obtain ⟨t, q0, _, _⟩ := DataW.trod_int Tryd.underlying3 h0
  obtain ⟨ys, n', _, hy, _, hyl, hg⟩ := DataW.trod_struct Tryd.underlying24 h1
  obtain ⟨y0, y1, y2, rfl⟩ := list3 (hyl.trans rfl)
  have g0 : DataW.trod enc Tryd.prog w 0 (fun _ => true) true n' 3 [b] = some y0 := part_at hg 0 3 0 1 _ rfl rfl rfl cellsI
  have g1 : DataW.trod enc Tryd.prog w 0 (fun _ => true) true n' 22 [c] = some y1 := part_at hg 1 22 1 1 _ rfl rfl rfl cellsU
  have g2 : DataW.trod enc Tryd.prog w 0 (fun _ => true) true n' 9 [d] = some y2 := part_at hg 2 9 2 1 _ rfl rfl rfl cellsS
  obtain ⟨k, q1, _, _⟩ := DataW.trod_int Tryd.underlying3 g0
  obtain ⟨m, q2, _, wf⟩ := DataW.trod_int Tryd.underlying22 g1
  obtain ⟨s, q3, e3, _⟩ := DataW.trod_string Tryd.underlying9 g2
  simp only [List.cons.injEq, and_true] at q0 q1 q2 q3
  subst q0 q1 q2 q3
  have hs : s.data.toList.length ≤ reachBytes := by
    refine hw _ ?_
    rw [hx]
    refine weight_in (j := 1) Tryd.underlying26 rfl rfl ?_
    rw [hy]
    refine weight_in (j := 2) Tryd.underlying24 rfl rfl ?_
    rw [e3]
    exact weight_string
  have hr47 : reachBytes ≤ 140737488351232 := by decide
  rw [← Lib.size_eq] at hs
  exact ⟨⟨t, ⟨k, m, s⟩⟩, rfl, bounds_u64 wf, by show s.size ≤ _; omega⟩

set_option maxRecDepth 100000 in
theorem open_op {base : Nat} {v : Value} {d : DataW H} {p : List MemPlace} (hval : Value.okWide Tryd.prog w .any base 26 v)
    (h : DataW.Trod enc Tryd.prog w 0 (fun _ => true) true 26 v d p) (hw : ∀ n ∈ d.weights Tryd.prog 26, n ≤ reachBytes) : ∃ f : Opn, v = .agg (opC f) ∧ Fit64 f.v ∧ f.v.s.size ≤ 140737488355328 := by
  obtain ⟨cs, rfl, _⟩ := okWide_struct Tryd.underlying26 hval
  obtain ⟨fuel, hf⟩ := h
  obtain ⟨f, h1, h2, h3⟩ := op_cells hf hw
  refine ⟨f, ?_, h2, h3⟩
  have : cs = opC f := Array.toList_inj.1 h1
  rw [this]

set_option maxRecDepth 100000 in
theorem open_ops {base : Nat} {v : Value} {d : DataW H} {p : List MemPlace} (hval : Value.okWide Tryd.prog w .any base 36 v)
    (h : DataW.Trod enc Tryd.prog w 0 (fun _ => true) true 36 v d p) (hw : ∀ n ∈ d.weights Tryd.prog 36, n ≤ reachBytes) :
    ∃ A c l, v = .slice A (List.length l) c ∧ ORow w w.heap.size A l ∧ GoodO l ∧ l.length ≤ 140737488355328 ∧ l.length ≤ c := by
  obtain ⟨a1, len1, cap1, rfl⟩ := okWide_slice Tryd.underlying36 hval
  obtain ⟨fuel, hf⟩ := h
  rcases open_slice Tryd.underlying36 hf with ⟨hcs, _⟩ | ⟨a, len, cap, m, n, D, Pl, hcs, _, hle, hm, hmm, hx, hfl⟩
  · simp [Value.cells] at hcs
    obtain ⟨rfl, rfl, rfl⟩ := hcs
    exact ⟨none, 0, [], rfl, ORow.nil, fun f hf => by simp at hf, by simp, by simp⟩
  · simp [Value.cells] at hcs
    obtain ⟨rfl, rfl, rfl⟩ := hcs
    simp only [Prod.mk.injEq] at hx
    obtain ⟨rfl, _⟩ := hx
    simp only [if_true] at hmm
    subst hmm
    have hB : Tryd.prog.bytesOf 26 = 40 := by kernel_rfl
    have hwl := hw _ (weight_len Tryd.underlying36)
    rw [hB] at hwl
    simp only [List.length_map, List.length_range] at hwl
    have hr47 : reachBytes ≤ 140737488351232 := by decide
    have hall : ∀ i, i < len1 → ∃ f : Opn, (∃ g o, some a = some ⟨g, o, none⟩ ∧ g < w.heap.size ∧ OCell w g (o + i * 4) f) ∧ Fit64 f.v ∧ f.v.s.size ≤ 140737488355328 := by
      intro i hi
      obtain ⟨cs', hc, ht'⟩ := hfl i (by omega)
      rw [cellsO] at hc
      obtain ⟨_, hcl, hat⟩ := World.cells?_some hc
      obtain ⟨f, h1, h2, h3⟩ := op_cells ht' fun n hn => hw n (weight_elem Tryd.underlying36 (List.mem_map.2 ⟨i, List.mem_range.2 hi, rfl⟩) hn)
      subst h1
      refine ⟨f, ?_, h2, h3⟩
      have q : ∀ j, j < 4 → w.cell? (a.add (i * 4 + j)) = (opC f)[j]? := fun j hj => by
        rw [← Go.Deep.add_add, hat j hj, Array.getElem?_toList]
      obtain ⟨g, o, spot⟩ := a
      obtain ⟨cs0, hc0, ht0⟩ := hfl 0 (by omega)
      rw [cellsO] at hc0
      obtain ⟨_, _, hat0⟩ := World.cells?_some hc0
      obtain ⟨f0, h10, _⟩ := op_cells ht0 fun n hn => hw n (weight_elem Tryd.underlying36 (List.mem_map.2 ⟨0, List.mem_range.2 (by omega), rfl⟩) hn)
      subst h10
      have hspot : spot = none := by simpa [Addr.add] using World.cell?_spot ((hat0 0 (by omega)).trans (show _ = some (.int .i64 f0.n) from rfl))
      subst hspot
      have q' : ∀ j, j < 4 → w.cell? ⟨g, o + i * 4 + j, none⟩ = (opC f)[j]? := fun j hj => by rw [← q j hj, add_plain, Nat.add_assoc]
      exact ⟨g, o, rfl, World.block_lt_of_cell? w ⟨g, _, none⟩ (q' 0 (by omega)), q' 0 (by omega), q' 1 (by omega), q' 2 (by omega), q' 3 (by omega)⟩
    obtain ⟨l, hl, hq⟩ := list_of _ len1 hall
    refine ⟨some a, m, l, by rw [hl], ?_, fun f hf => ?_, by omega, by omega⟩
    · rcases Nat.eq_zero_or_pos len1 with h0 | h0
      · exact .inl (List.eq_nil_of_length_eq_zero (by omega))
      · obtain ⟨f0, hf0⟩ : ∃ f, l[0]? = some f := ⟨l[0], List.getElem?_eq_getElem (by omega)⟩
        obtain ⟨⟨g, o, e, hg, _⟩, _⟩ := hq 0 f0 hf0
        obtain rfl := Option.some.inj e
        refine .inr ⟨g, o, rfl, hg, fun i f hf => ?_⟩
        obtain ⟨⟨g', o', e', _, hc⟩, _⟩ := hq i f hf
        injection e' with e'
        injection e' with e1 e2 _
        subst e1 e2
        exact hc
    · obtain ⟨i, hi⟩ := List.mem_iff_getElem?.1 hf
      exact (hq i f hi).2
end
end Go.Proofs.YtijgcfnjbfaelaaDoor
