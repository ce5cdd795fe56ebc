/- The arguments opened: a value, a slice of values, an entry, four numbers. -/
import Derived.Test.YtcodamhoanfanaaDoorKindOrder
import Derived.Test.YtcodamhoanfanaaDoorStructs
namespace Go.Proofs.YtcodamhoanfanaaDoor
open Go.Joins Go.ChangeShapes Go.WideShapes Go.Deep Go.RowKit

section
variable {H : Type} {enc : TypeId × Value → H} {w : World}
theorem open_val {base : Nat} {v : Value} {d : DataW H} {p : List MemPlace} (hval : Value.okWide Tryd.prog w .any base 30 v)
    (h : DataW.Trod enc Tryd.prog w 0 (fun _ => true) true 30 v d p) (hw : ∀ n ∈ d.weights Tryd.prog 30, n ≤ reachBytes) : ∃ x : Val, v = vv x ∧ Fits x ∧ x.s.size ≤ 140737488355328 := by
  obtain ⟨v0, v1, v2, y0, y1, y2, n, rfl, rfl, _, t0, t1, t2⟩ := open_agg3 Tryd.underlying30 (by kernel_rfl) (by kernel_rfl) hval h
  obtain ⟨k, q0, _, _⟩ := DataW.trod_int Tryd.underlying3 t0
  obtain ⟨m, q1, _, wf⟩ := DataW.trod_int Tryd.underlying28 t1
  obtain ⟨s, q2, e2, _⟩ := DataW.trod_string Tryd.underlying9 t2
  simp only [List.cons.injEq, and_true] at q0 q1 q2
  subst q0 q1 q2
  have hs : s.data.toList.length ≤ reachBytes := hw _ (weight_agg (j := 2) Tryd.underlying30 rfl (by rw [e2]; rfl))
  have hr47 : reachBytes ≤ 140737488351232 := by decide
  rw [← Lib.size_eq] at hs
  exact ⟨⟨k, m, s⟩, rfl, bounds_u64 wf, by show s.size ≤ _; omega⟩

/-- at the address A stand these values, below block B -/
def VRow (w : World) (B : Nat) (A : Option Addr) (l : List Val) : Prop :=
  ∀ (i : Nat) (r : Val), l[i]? = some r → ∃ g o, A = some ⟨g, o, none⟩ ∧ g < B ∧ w.cell? ⟨g, o + i * 3, none⟩ = some (.int .i64 r.k) ∧ w.cell? ⟨g, o + i * 3 + 1, none⟩ = some (.int .u64 r.n) ∧ w.cell? ⟨g, o + i * 3 + 2, none⟩ = some (.string r.s) ∧ Fits r ∧ r.s.size ≤ 140737488355328
theorem open_vals {base : Nat} {v : Value} {d : DataW H} {p : List MemPlace} (hval : Value.okWide Tryd.prog w .any base 26 v)
    (h : DataW.Trod enc Tryd.prog w 0 (fun _ => true) true 26 v d p) (hw : ∀ n ∈ d.weights Tryd.prog 26, n ≤ reachBytes) :
    ∃ A c l, v = .slice A (List.length l) c ∧ VRow w w.heap.size A l ∧ l.length ≤ 140737488355328 := by
  obtain ⟨a1, len1, cap1, rfl⟩ := okWide_slice Tryd.underlying26 hval
  obtain ⟨fuel, hf⟩ := h
  rcases open_slice_fields Tryd.underlying26 Tryd.underlying30 (by kernel_rfl) (by kernel_rfl) hf with ⟨hcs, _⟩ | ⟨a, len, cap, m, D, Pl, hcs, _, hle, hm, hmm, hx, hfl⟩
  · simp [Value.cells] at hcs
    obtain ⟨rfl, rfl, rfl⟩ := hcs
    exact ⟨none, 0, [], rfl, fun i r hr => by simp at hr, by simp⟩
  · simp [Value.cells] at hcs
    obtain ⟨rfl, rfl, rfl⟩ := hcs
    simp only [Prod.mk.injEq] at hx
    obtain ⟨rfl, _⟩ := hx
    simp only [if_true] at hmm
    subst hmm
    have hB : Tryd.prog.bytesOf 30 = 32 := by kernel_rfl
    have hwl := hw _ (weight_len Tryd.underlying26)
    rw [hB] at hwl
    simp only [List.length_map, List.length_range] at hwl
    have hr47 : reachBytes ≤ 140737488351232 := by decide
    have hall : ∀ i, i < len1 → ∃ r : Val, ∃ g o, some a = some ⟨g, o, none⟩ ∧ g < w.heap.size ∧ w.cell? ⟨g, o + i * 3, none⟩ = some (.int .i64 r.k) ∧ w.cell? ⟨g, o + i * 3 + 1, none⟩ = some (.int .u64 r.n) ∧ w.cell? ⟨g, o + i * 3 + 2, none⟩ = some (.string r.s) ∧ Fits r ∧ r.s.size ≤ 140737488355328 := by
      intro i hi
      obtain ⟨ys, k, hD, _, _, hfld⟩ := hfl i (by omega)
      obtain ⟨v0, y0, c0, _, t0⟩ := hfld 0 _ rfl
      obtain ⟨v1, y1, c1, _, t1⟩ := hfld 1 _ rfl
      obtain ⟨v2, y2, c2, e2, t2⟩ := hfld 2 _ rfl
      obtain ⟨n0, q0, _, _⟩ := DataW.trod_int Tryd.underlying3 t0
      obtain ⟨n1, q1, _, wf⟩ := DataW.trod_int Tryd.underlying28 t1
      obtain ⟨s, q2, hy2, _⟩ := DataW.trod_string Tryd.underlying9 t2
      simp only [List.cons.injEq, and_true] at q0 q1 q2
      subst q0 q1 q2
      have hsz : s.data.toList.length ≤ reachBytes := by
        refine hw _ (weight_field (elems := (List.range len1).map D) (parts := ys.map (·.1)) (j := 2) Tryd.underlying26 Tryd.underlying30 ?_ rfl ?_)
        · rw [← hD]
          exact List.mem_map.2 ⟨i, List.mem_range.2 hi, rfl⟩
        · rw [List.getElem?_map, e2, hy2]
          rfl
      rw [← Lib.size_eq] at hsz
      obtain ⟨g, o, spot⟩ := a
      obtain ⟨_, _, _, _, _, hfld0⟩ := hfl 0 (by omega)
      obtain ⟨_, _, c00, _, _⟩ := hfld0 0 _ rfl
      have hspot : spot = none := by simpa [Addr.add] using World.cell?_spot c00
      subst hspot
      have a0 : w.cell? ⟨g, o + i * 3, none⟩ = some (.int .i64 n0) := by rw [show o + i * 3 = o + (i * 3 + 0) from rfl, ← add_plain]; exact c0
      have a1 : w.cell? ⟨g, o + (i * 3 + 1), none⟩ = some (.int .u64 n1) := by rw [← add_plain]; exact c1
      have a2 : w.cell? ⟨g, o + (i * 3 + 2), none⟩ = some (.string s) := by rw [← add_plain]; exact c2
      exact ⟨⟨n0, n1, s⟩, g, o, rfl, World.block_lt_of_cell? w ⟨g, _, none⟩ a0, a0, a1, a2, bounds_u64 wf, by show s.size ≤ _; omega⟩
    obtain ⟨l, hl, hq⟩ := list_of _ len1 hall
    exact ⟨some a, m, l, by rw [hl], hq, by omega⟩

theorem open_four {base : Nat} {v : Value} {d : DataW H} {p : List MemPlace} (hval : Value.okWide Tryd.prog w .any base 44 v)
    (h : DataW.Trod enc Tryd.prog w 0 (fun _ => true) true 44 v d p) : ∃ x y u n : Int, v = .agg #[.int .i64 x, .int .i64 y, .int .u64 u, .int .u64 n] ∧ (-9223372036854775808 ≤ x ∧ x ≤ 9223372036854775807) ∧ (-9223372036854775808 ≤ y ∧ y ≤ 9223372036854775807) ∧ (0 ≤ u ∧ u ≤ 18446744073709551615) ∧ (0 ≤ n ∧ n ≤ 18446744073709551615) := by
  obtain ⟨v0, v1, v2, v3, y0, y1, y2, y3, n, rfl, _, _, t0, t1, t2, t3⟩ := open_agg4 Tryd.underlying44 (by kernel_rfl) (by kernel_rfl) hval h
  obtain ⟨a, q0, _, w0⟩ := DataW.trod_int Tryd.underlying2 t0
  obtain ⟨b, q1, _, w1⟩ := DataW.trod_int Tryd.underlying2 t1
  obtain ⟨c, q2, _, w2⟩ := DataW.trod_int Tryd.underlying28 t2
  obtain ⟨e, q3, _, w3⟩ := DataW.trod_int Tryd.underlying28 t3
  simp only [List.cons.injEq, and_true] at q0 q1 q2 q3
  subst q0 q1 q2 q3
  exact ⟨a, b, c, e, rfl, bounds_i64 w0, bounds_i64 w1, bounds_u64 w2, bounds_u64 w3⟩

theorem open_entry {base : Nat} {v : Value} {d : DataW H} {p : List MemPlace} (hval : Value.okWide Tryd.prog w .any base 34 v)
    (h : DataW.Trod enc Tryd.prog w 0 (fun _ => true) true 34 v d p) : ∃ (f n : Int) (s : ByteArray) (z : Int), v = .agg #[.int .i64 f, .int .i64 n, .string s, .int .i64 z] := by
  obtain ⟨v0, v1, v2, v3, y0, y1, y2, y3, n, rfl, _, _, t0, t1, t2, t3⟩ := open_agg4 Tryd.underlying34 (by kernel_rfl) (by kernel_rfl) hval h
  obtain ⟨a, q0, _, _⟩ := DataW.trod_int Tryd.underlying3 t0
  obtain ⟨b, q1, _, _⟩ := DataW.trod_int Tryd.underlying3 t1
  obtain ⟨s, q2, _, _⟩ := DataW.trod_string Tryd.underlying9 t2
  obtain ⟨e, q3, _, _⟩ := DataW.trod_int Tryd.underlying3 t3
  simp only [List.cons.injEq, and_true] at q0 q1 q2 q3
  subst q0 q1 q2 q3
  exact ⟨a, b, s, e, rfl⟩
end
end Go.Proofs.YtcodamhoanfanaaDoor
