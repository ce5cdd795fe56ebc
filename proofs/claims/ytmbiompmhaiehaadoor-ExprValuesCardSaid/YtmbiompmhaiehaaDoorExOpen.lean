/- The arguments opened: fields, structs, nodes (as print's PrOpen, without trees). No walk here. -/
import Derived.Test.YtmbiompmhaiehaaDoorExRoot
import Derived.Test.YtmbiompmhaiehaaDoorStructs
import Derived.Test.YtmbiompmhaiehaaDoorRows
namespace Go.Proofs.YtmbiompmhaiehaaDoor
open Go.Joins Go.ChangeShapes Go.WideShapes Go.Deep Go.RowKit

section
variable {H : Type} {P : Program}
theorem weight_in {e : TypeId} {fs : Array Field} {parts : List (DataW H)} {j n : Nat} {f : Field} {d : DataW H} (he : P.underlying e = some (.struct fs))
    (hj : fs[j]? = some f) (hp : parts[j]? = some d) (hn : n ∈ d.weights P f.type) : n ∈ (DataW.agg parts).weights P e := by
  simp only [DataW.weights, he]
  refine DataW.weights_mem_each (j := j) (t := f.type) (d := d) ?_ hp _ hn
  rw [List.getElem?_map, Array.getElem?_toList, hj]
  rfl
theorem weight_elem {t e : TypeId} {elems spare : List (DataW H)} {d : DataW H} {n : Nat} (ht : P.underlying t = some (.slice e)) (hd : d ∈ elems) (hn : n ∈ d.weights P e) : n ∈ (DataW.slice elems spare).weights P t := by
  simp only [DataW.weights, ht, List.mem_cons, List.mem_append]
  exact .inr (.inl (weights_all hd hn))
theorem bulk_pos (d : DataW H) : 1 ≤ Rows.uptoBulk d := by
  unfold Rows.uptoBulk
  split <;> omega
theorem bulk_mem : ∀ {l : List (DataW H)} {d : DataW H}, d ∈ l → Rows.uptoBulk d ≤ Rows.uptoBulkAll l
  | x :: l, d, h => by
    rw [Rows.uptoBulkAll]
    rcases List.mem_cons.1 h with rfl | h
    · omega
    · have := bulk_mem h
      omega
theorem bulk_len : ∀ (l : List (DataW H)), l.length ≤ Rows.uptoBulkAll l
  | [] => Nat.zero_le _
  | x :: l => by
    have := bulk_len l
    have := bulk_pos x
    rw [Rows.uptoBulkAll, List.length_cons]
    omega
/-- what a datum weighs, and (in the second form) how much it holds -/
def Fitd (P : Program) (U : Prop) (t : TypeId) (d : DataW H) : Prop := (∀ n ∈ d.weights P t, n ≤ reachBytes) ∧ (U → Rows.uptoBulk d ≤ 1048576)
variable {U : Prop}
theorem Fitd.elem {t e : TypeId} {elems spare : List (DataW H)} {d : DataW H} (h : Fitd P U t (.slice elems spare)) (ht : P.underlying t = some (.slice e)) (hd : d ∈ elems) : Fitd P U e d := by
  refine ⟨fun n hn => h.1 n (weight_elem ht hd hn), fun u => ?_⟩
  have := h.2 u
  rw [Rows.uptoBulk] at this
  have := bulk_mem hd
  omega
theorem Fitd.len {t e : TypeId} {elems spare : List (DataW H)} (h : Fitd P U t (.slice elems spare)) (ht : P.underlying t = some (.slice e)) : elems.length * P.bytesOf e ≤ reachBytes ∧ (U → elems.length ≤ 1048576) := by
  refine ⟨Nat.le_trans (Nat.mul_le_mul_right _ (Nat.le_add_right _ _)) (h.1 _ (weight_len ht)), fun u => ?_⟩
  have := h.2 u
  rw [Rows.uptoBulk] at this
  have := bulk_len elems
  omega
theorem Fitd.part {e : TypeId} {fs : Array Field} {parts : List (DataW H)} {j : Nat} {f : Field} {d : DataW H} (h : Fitd P U e (.agg parts)) (he : P.underlying e = some (.struct fs)) (hj : fs[j]? = some f) (hp : parts[j]? = some d) : Fitd P U f.type d := by
  refine ⟨fun n hn => h.1 n (weight_in he hj hp hn), fun u => ?_⟩
  have := h.2 u
  rw [Rows.uptoBulk] at this
  have := bulk_mem (List.mem_of_getElem? hp)
  omega
theorem Fitd.text {t : TypeId} {s : ByteArray} (h : Fitd P U t (DataW.lit (H := H) (.string s.data.toList))) : s.size ≤ 140737488351232 ∧ (U → s.size ≤ 1048576) := by
  have h1 := h.1 _ weight_string
  have hr : reachBytes ≤ 140737488351232 := by decide
  rw [← Lib.size_eq] at h1
  refine ⟨by omega, fun u => ?_⟩
  have := h.2 u
  rw [Rows.uptoBulk, ← Lib.size_eq] at this
  omega
variable {enc : TypeId × Value → H} {w : World}
/-- one field of a struct, opened -/
def Fld (enc : TypeId × Value → H) (P : Program) (U : Prop) (w : World) (t : TypeId) (v : Value) : Prop := ∃ (n : Nat) (y : DataW H × List MemPlace), DataW.trod enc P w 0 (fun _ => true) true n t [v] = some y ∧ Fitd P U t y.1
theorem fld_int {k : IntKind} {t : TypeId} {v : Value} (ht : P.underlying t = some (.int k)) (h : Fld enc P U w t v) : ∃ z, v = .int k z ∧ (Lit.int k z).wf = true := by
  obtain ⟨n, y, h, _⟩ := h
  obtain ⟨z, h1, _, h3⟩ := DataW.trod_int ht h
  simp only [List.cons.injEq, and_true] at h1
  exact ⟨z, h1, h3⟩
theorem fld_text {t : TypeId} {v : Value} (ht : P.underlying t = some .string) (h : Fld enc P U w t v) : ∃ s : List UInt8, v = .string (str s) ∧ s.length ≤ 140737488351232 ∧ (U → s.length ≤ 1048576) := by
  obtain ⟨n, y, h, hf⟩ := h
  obtain ⟨s, h1, h2, _⟩ := DataW.trod_string ht h
  simp only [List.cons.injEq, and_true] at h1
  rw [h2] at hf
  have := Fitd.text hf
  exact ⟨ls s, by rw [str_ls]; exact h1, by rw [ls_size]; exact this.1, by rw [ls_size]; exact this.2⟩
/-- a slice of structs of one-cell fields, opened -/
theorem open_rows {α : Type} {f : α → Array Value} {s b : Nat} {Q : α → Prop} {t e : TypeId} {fs : Array Field} (ht : P.underlying t = some (.slice e)) (he : P.underlying e = some (.struct fs)) (hone : oneCellFields P fs = true) (hC : P.cellsOf e = fs.size) (hs : fs.size = s) (hs0 : 0 < s) (hb : P.bytesOf e = b) (hz : ∀ z, (f z).size = s)
    (hel : ∀ (v : Nat → Value), (∀ (j : Nat) (g : Field), fs[j]? = some g → Fld enc P U w g.type (v j)) → ∃ z, (∀ j, j < s → (f z)[j]? = some (v j)) ∧ Q z)
    {v : Value} (h : Fld enc P U w t v) : ∃ A c l, v = .slice A (List.length l) c ∧ Rows f s w w.heap.size A l ∧ (∀ x ∈ l, Q x) ∧ l.length * b ≤ 140737488351232 ∧ (U → l.length ≤ 1048576) := by
  obtain ⟨n, y, h, hf⟩ := h
  have hr47 : reachBytes ≤ 140737488351232 := by decide
  rcases open_slice_fields ht he hone hC h with ⟨hv, _⟩ | ⟨a, len, cap, m, D, Pl, hv, _, hle, hm, hmm, rfl, hfl⟩
  · simp only [List.cons.injEq, and_true] at hv
    exact ⟨none, 0, [], hv, .inl rfl, (fun x hx => by cases hx), (by simp), fun _ => by simp⟩
  · simp only [List.cons.injEq, and_true] at hv
    simp only [if_true] at hmm
    subst hmm
    obtain ⟨l1, l2⟩ := hf.len ht
    rw [hb, List.length_map, List.length_range] at l1
    rw [List.length_map, List.length_range] at l2
    have hall : ∀ i, i < len → ∃ z : α, (∀ j, j < s → w.cell? (a.add (i * s + j)) = (f z)[j]?) ∧ Q z := by
      intro i hi
      obtain ⟨ys, k, hD, _, hyl, hat⟩ := hfl i (by omega)
      have hfi : Fitd P U e (DataW.agg (ys.map (·.1))) := by
        have := hf.elem ht (List.mem_map.2 ⟨i, List.mem_range.2 hi, rfl⟩)
        rwa [hD] at this
      obtain ⟨z, h1, h2⟩ := hel (fun j => (w.cell? (a.add (i * s + j))).getD (.bool false)) (fun j g hg => by
        obtain ⟨u, yy, hc, hy, htr⟩ := hat j g hg
        rw [hs] at hc
        refine ⟨k, yy, ?_, hfi.part he hg (by rw [List.getElem?_map, hy]; rfl)⟩
        rw [hc]
        exact htr)
      refine ⟨z, fun j hj => ?_, h2⟩
      rw [h1 j hj]
      obtain ⟨u, _, hc, _, _⟩ := hat j (fs[j]'(by omega)) (Array.getElem?_eq_getElem _)
      rw [hs] at hc
      rw [hc]
      rfl
    obtain ⟨l, hl, hq⟩ := list_of _ len hall
    refine ⟨some a, m, l, by rw [hl]; exact hv, ?_, fun x hx => ?_, by rw [hl]; omega, fun u => by rw [hl]; exact l2 u⟩
    · rcases Nat.eq_zero_or_pos len with h0 | h0
      · exact .inl (List.eq_nil_of_length_eq_zero (by omega))
      · obtain ⟨z0, hz0⟩ : ∃ z, l[0]? = some z := ⟨l[0], List.getElem?_eq_getElem (by omega)⟩
        have hc0 := (hq 0 z0 hz0).1 0 hs0
        obtain ⟨u0, hu0⟩ : ∃ u, (f z0)[0]? = some u := ⟨(f z0)[0]'(by rw [hz]; exact hs0), Array.getElem?_eq_getElem _⟩
        rw [hu0] at hc0
        obtain ⟨g, o, spot⟩ := a
        have hspot : spot = none := by simpa [Addr.add] using World.cell?_spot hc0
        subst hspot
        refine .inr ⟨g, o, rfl, ?_, fun i x hx j u hu => ?_⟩
        · rw [add_plain] at hc0
          exact World.block_lt_of_cell? w ⟨g, _, none⟩ hc0
        · have hj : j < s := by rw [← hz x]; exact (Array.getElem?_eq_some_iff.1 hu).1
          have := (hq i x hx).1 j hj
          rw [add_plain, hu] at this
          rw [Nat.add_assoc]
          exact this
    · obtain ⟨i, hi⟩ := List.mem_iff_getElem?.1 hx
      exact (hq i x hi).2
end

section
variable {H : Type} {enc : TypeId × Value → H} {w : World} {U : Prop}
/-- nodes that fit -/
structure Nfit (U : Prop) (y : Rn) : Prop where
  n : y.n ≤ 9223372036854775807
  num : y.num < 18446744073709551616
  t : y.t.length ≤ 140737488351232
  small : U → y.t.length ≤ 1048576
theorem open_nodes {v : Value} (h : Fld enc Tryd.prog U w 22 v) : ∃ A c N, v = .slice A (List.length N) c ∧ RN w w.heap.size A N ∧ Few N ∧ (U → N.length ≤ 1048576 ∧ ∀ y ∈ N, y.t.length ≤ 1048576) := by
  obtain ⟨A, c, N, h1, h2, h3, h4, h5⟩ := open_rows (f := rnC) (s := 5) (b := 48) (Q := Nfit U) (e := 27) Tryd.underlying22 Tryd.underlying27 (by kernel_rfl) (by kernel_rfl) rfl (by decide) (by kernel_rfl) (fun _ => rfl) (fun v hv => by
    obtain ⟨op, e0, _⟩ := fld_int Tryd.underlying3 (hv 0 _ rfl)
    obtain ⟨n, e1, q1⟩ := fld_int Tryd.underlying3 (hv 1 _ rfl)
    obtain ⟨u, e2, q2⟩ := fld_int Tryd.underlying25 (hv 2 _ rfl)
    obtain ⟨t, e3, q3, q4⟩ := fld_text Tryd.underlying9 (hv 3 _ rfl)
    obtain ⟨a, e4, _⟩ := fld_int Tryd.underlying3 (hv 4 _ rfl)
    have b1 := bounds_i64 q1
    have b2 := bounds_u64 q2
    obtain ⟨u, rfl⟩ : ∃ x : Nat, u = (x : Int) := ⟨u.toNat, by omega⟩
    refine ⟨⟨op, n, u, t, a⟩, fun j hj => ?_, ⟨b1.2, by show u < _; omega, q3, q4⟩⟩
    match j, hj with
    | 0, _ => rw [e0]; rfl
    | 1, _ => rw [e1]; rfl
    | 2, _ => rw [e2]; rfl
    | 3, _ => rw [e3]; rfl
    | 4, _ => rw [e4]; rfl) h
  exact ⟨A, c, N, h1, h2, ⟨by omega, fun x hx => (h3 x hx).n, fun y hy => ⟨(h3 y hy).num, by have := (h3 y hy).t; omega⟩⟩, fun u => ⟨h5 u, fun y hy => (h3 y hy).small u⟩⟩
set_option maxRecDepth 100000 in
/-- a struct that came in as an argument: its fields -/
theorem open_struct {t : TypeId} {fs : Array Field} {base : Nat} {v : Value} {d : DataW H} {p : List MemPlace} (ht : Tryd.prog.underlying t = some (.struct fs)) (hone : oneCellFields Tryd.prog fs = true) (hC : Tryd.prog.cellsOf t = fs.size) (hval : Value.okWide Tryd.prog w .any base t v)
    (h : DataW.Trod enc Tryd.prog w 0 (fun _ => true) true t v d p) (hf : Fitd Tryd.prog U t d) : ∃ cs : Array Value, v = .agg cs ∧ cs.size = fs.size ∧ ∀ (j : Nat) (g : Field), fs[j]? = some g → ∃ u, cs[j]? = some u ∧ Fld enc Tryd.prog U w g.type u := by
  obtain ⟨cs, rfl, hsz⟩ := okWide_struct ht hval
  obtain ⟨fuel, h⟩ := h
  obtain ⟨xs, n, _, hx, hlen, hxl, hat⟩ := DataW.trod_struct ht h
  simp only [Prod.mk.injEq] at hx
  obtain ⟨rfl, _⟩ := hx
  refine ⟨cs, rfl, by rw [hsz, hC], fun j g hg => ?_⟩
  have hj : j < fs.size := (Array.getElem?_eq_some_iff.1 hg).1
  obtain ⟨ho, hk⟩ := hone_of hone j g hg
  have h1 := hat j g hg
  have hcl : j < cs.size := by rw [hsz, hC]; exact hj
  rw [ho, hk] at h1
  have e : ((Value.agg cs).cells.toList.drop j).take 1 = [cs[j]] := by
    have hlt : j < cs.toList.length := by rw [Array.length_toList]; exact hcl
    show (cs.toList.drop j).take 1 = _
    rw [List.drop_eq_getElem_cons hlt, Array.getElem_toList]
    rfl
  rw [e] at h1
  have hys : xs[j]? = some (xs[j]'(by omega)) := List.getElem?_eq_getElem (by omega)
  refine ⟨cs[j], Array.getElem?_eq_getElem hcl, n, xs[j]'(by omega), h1.trans hys, hf.part ht hg (by rw [List.getElem?_map, hys]; rfl)⟩
theorem open_arg {t : TypeId} {v : Value} {d : DataW H} {p : List MemPlace} (hc : v.cells.toList = [v]) (h : DataW.Trod enc Tryd.prog w 0 (fun _ => true) true t v d p) (hf : Fitd Tryd.prog U t d) : Fld enc Tryd.prog U w t v := by
  obtain ⟨fuel, h⟩ := h
  rw [hc] at h
  exact ⟨fuel, _, h, hf⟩
theorem array3 {cs : Array Value} {a b c : Value} (h : cs.size = 3) (h0 : cs[0]? = some a) (h1 : cs[1]? = some b) (h2 : cs[2]? = some c) : cs = #[a, b, c] := by
  apply Array.ext'
  match hq : cs.toList with
  | [x, y, z] =>
    rw [← Array.getElem?_toList, hq] at h0 h1 h2
    cases h0
    cases h1
    cases h2
    rfl
  | [] | [_] | [_, _] | _ :: _ :: _ :: _ :: _ =>
    have := congrArg List.length hq
    rw [Array.length_toList, h] at this
    simp at this
theorem array1 {cs : Array Value} {a : Value} (h : cs.size = 1) (h0 : cs[0]? = some a) : cs = #[a] := by
  apply Array.ext'
  match hq : cs.toList with
  | [x] =>
    rw [← Array.getElem?_toList, hq] at h0
    cases h0
    rfl
  | [] | _ :: _ :: _ =>
    have := congrArg List.length hq
    rw [Array.length_toList, h] at this
    simp at this
end
end Go.Proofs.YtmbiompmhaiehaaDoor
