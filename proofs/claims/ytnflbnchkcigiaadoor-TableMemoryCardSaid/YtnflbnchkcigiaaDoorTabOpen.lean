/- The arguments opened: columns, fields, histories. -/
import Derived.Test.YtnflbnchkcigiaaDoorOpenG
import Derived.Test.YtnflbnchkcigiaaDoorTabLook
namespace Go.Proofs.YtnflbnchkcigiaaDoor
open Go.Joins Go.ChangeShapes Go.WideShapes Go.Deep Go.RowKit OG

theorem tlist1 {α : Type} {l : List α} (h : l.length = 1) : ∃ a, l = [a] := by
  match l, h with
  | [a], _ => exact ⟨a, rfl⟩
theorem tlist2 {α : Type} {l : List α} (h : l.length = 2) : ∃ a b, l = [a, b] := by
  match l, h with
  | [a, b], _ => exact ⟨a, b, rfl⟩
theorem tlist3 {α : Type} {l : List α} (h : l.length = 3) : ∃ a b c, l = [a, b, c] := by
  match l, h with
  | [a, b, c], _ => exact ⟨a, b, c, rfl⟩
theorem tlist4 {α : Type} {l : List α} (h : l.length = 4) : ∃ a b c d, l = [a, b, c, d] := by
  match l, h with
  | [a, b, c, d], _ => exact ⟨a, b, c, d, rfl⟩
theorem tlist9 {α : Type} {l : List α} (h : l.length = 9) : ∃ a b c d e f g i j, l = [a, b, c, d, e, f, g, i, j] := by
  match l, h with
  | [a, b, c, d, e, f, g, i, j], _ => exact ⟨a, b, c, d, e, f, g, i, j, rfl⟩
theorem tcI : Tryd.prog.cellsOf 3 = 1 := by kernel_rfl
theorem tcU : Tryd.prog.cellsOf 49 = 1 := by kernel_rfl
theorem tcS : Tryd.prog.cellsOf 9 = 1 := by kernel_rfl
theorem tcV : Tryd.prog.cellsOf 51 = 3 := by kernel_rfl
theorem tcF : Tryd.prog.cellsOf 53 = 4 := by kernel_rfl
theorem tcC : Tryd.prog.cellsOf 35 = 3 := by kernel_rfl
theorem tcStep : Tryd.prog.cellsOf 91 = 9 := by kernel_rfl
theorem tcVer : Tryd.prog.cellsOf 45 = 2 := by kernel_rfl
theorem tcTy : Tryd.prog.cellsOf 48 = 2 := by kernel_rfl
theorem tcHist : Tryd.prog.cellsOf 24 = 1 := by kernel_rfl
theorem tcSs : Tryd.prog.cellsOf 43 = 1 := by kernel_rfl
theorem tcCs : Tryd.prog.cellsOf 29 = 1 := by kernel_rfl
theorem tcVs : Tryd.prog.cellsOf 46 = 1 := by kernel_rfl
theorem tcTs : Tryd.prog.cellsOf 22 = 1 := by kernel_rfl
section
variable {H : Type} {enc : TypeId × Value → H} {w : World} {U : Prop}
theorem rd_value {cs : List Value} (h : Rd enc Tryd.prog U w 51 cs) : ∃ v : Val, cs = [.int .i64 v.k, .int .u64 v.n, .string v.s] ∧ Fit v ∧ v.s.size ≤ 140737488351232 := by
  obtain ⟨hl, hat⟩ := rd_struct Tryd.underlying51 h
  rw [tcV] at hl
  obtain ⟨a, b, c, rfl⟩ := tlist3 hl
  obtain ⟨k, q0, _⟩ := rd_int Tryd.underlying3 (hat 0 _ 3 0 1 rfl rfl rfl tcI)
  obtain ⟨n, q1, wf⟩ := rd_int Tryd.underlying49 (hat 1 _ 49 1 1 rfl rfl rfl tcU)
  obtain ⟨s, q2, s1, _⟩ := rd_text Tryd.underlying9 (hat 2 _ 9 2 1 rfl rfl rfl tcS)
  simp only [List.drop_zero, List.take_succ_cons, List.take_zero, List.drop_succ_cons, List.cons.injEq, and_true] at q0 q1 q2
  subst q0 q1 q2
  exact ⟨⟨k, n, s⟩, rfl, bounds_u64 wf, s1⟩
theorem rd_field {cs : List Value} (h : Rd enc Tryd.prog U w 53 cs) : ∃ f : Fd, cs = (ffC f).toList ∧ Fit f.v ∧ f.v.s.size ≤ 140737488351232 := by
  obtain ⟨hl, hat⟩ := rd_struct Tryd.underlying53 h
  rw [tcF] at hl
  obtain ⟨a, b, c, d, rfl⟩ := tlist4 hl
  obtain ⟨t, q0, _⟩ := rd_int Tryd.underlying3 (hat 0 _ 3 0 1 rfl rfl rfl tcI)
  obtain ⟨v, q1, f1, f2⟩ := rd_value (hat 1 _ 51 1 3 rfl rfl rfl tcV)
  simp only [List.drop_zero, List.take_succ_cons, List.take_zero, List.drop_succ_cons, List.cons.injEq, and_true] at q0 q1
  obtain ⟨rfl, rfl, rfl⟩ := q1
  subst q0
  exact ⟨⟨t, v⟩, rfl, f1, f2⟩
theorem rd_col {cs : List Value} (h : Rd enc Tryd.prog U w 35 cs) : ∃ x : Co, cs = (coC x).toList ∧ x.n.size ≤ 140737488351232 := by
  obtain ⟨hl, hat⟩ := rd_struct Tryd.underlying35 h
  rw [tcC] at hl
  obtain ⟨a, b, c, rfl⟩ := tlist3 hl
  obtain ⟨s, q0, s1, _⟩ := rd_text Tryd.underlying9 (hat 0 _ 9 0 1 rfl rfl rfl tcS)
  obtain ⟨t, q1, _⟩ := rd_int Tryd.underlying3 (hat 1 _ 3 1 1 rfl rfl rfl tcI)
  obtain ⟨k, q2, _⟩ := rd_int Tryd.underlying3 (hat 2 _ 3 2 1 rfl rfl rfl tcI)
  simp only [List.drop_zero, List.take_succ_cons, List.take_zero, List.drop_succ_cons, List.cons.injEq, and_true] at q0 q1 q2
  subst q0 q1 q2
  exact ⟨⟨s, t, k⟩, rfl, s1⟩
theorem rd_step {cs : List Value} (h : Rd enc Tryd.prog U w 91 cs) : ∃ x : Sp, cs = (spC x).toList ∧ True := by
  obtain ⟨hl, hat⟩ := rd_struct Tryd.underlying91 h
  rw [tcStep] at hl
  obtain ⟨a, b, c, d, e, f, g, i, j, rfl⟩ := tlist9 hl
  obtain ⟨k, q0, _⟩ := rd_int Tryd.underlying3 (hat 0 _ 3 0 1 rfl rfl rfl tcI)
  obtain ⟨a1, q1, _⟩ := rd_int Tryd.underlying3 (hat 1 _ 3 1 1 rfl rfl rfl tcI)
  obtain ⟨a2, q2, _⟩ := rd_int Tryd.underlying3 (hat 2 _ 3 2 1 rfl rfl rfl tcI)
  obtain ⟨a3, q3, _⟩ := rd_int Tryd.underlying3 (hat 3 _ 3 3 1 rfl rfl rfl tcI)
  obtain ⟨s, q4, _, _⟩ := rd_text Tryd.underlying9 (hat 4 _ 9 4 1 rfl rfl rfl tcS)
  obtain ⟨a5, q5, _⟩ := rd_int Tryd.underlying3 (hat 5 _ 3 5 1 rfl rfl rfl tcI)
  obtain ⟨v, q6, _, _⟩ := rd_value (hat 6 _ 51 6 3 rfl rfl rfl tcV)
  simp only [List.drop_zero, List.take_succ_cons, List.take_zero, List.drop_succ_cons, List.cons.injEq, and_true] at q0 q1 q2 q3 q4 q5 q6
  obtain ⟨rfl, rfl, rfl⟩ := q6
  subst q0 q1 q2 q3 q4 q5
  exact ⟨⟨k, a1, a2, a3, s, a5, v⟩, rfl, trivial⟩
theorem rd_cols {cs : List Value} (h : Rd enc Tryd.prog U w 29 cs) : ∃ A c l, cs = [.slice A (List.length l) c] ∧ CoR w w.heap.size A l ∧ Cfit l ∧ l.length ≤ c := by
  obtain ⟨A, c, l, h1, h2, h3, h4, _, h6⟩ := rd_rows (f := coC) (s := 3) (b := 32) (Q := fun x => x.n.size ≤ 140737488351232) Tryd.underlying29 tcC (by decide) (by kernel_rfl) (fun _ => rfl) (fun _ => rd_col) h
  exact ⟨A, c, l, h1, h2, ⟨h3, h4⟩, h6⟩
theorem rd_steps {cs : List Value} (h : Rd enc Tryd.prog U w 43 cs) : ∃ A c l, cs = [.slice A (List.length l) c] ∧ SpR w w.heap.size A l ∧ l.length ≤ 140737488355328 := by
  obtain ⟨A, c, l, h1, h2, _, h4, _⟩ := rd_rows (f := spC) (s := 9) (b := 88) (Q := fun _ => True) Tryd.underlying43 tcStep (by decide) (by kernel_rfl) (fun _ => rfl) (fun _ => rd_step) h
  exact ⟨A, c, l, h1, h2, by omega⟩
theorem rd_version {cs : List Value} (h : Rd enc Tryd.prog U w 45 cs) : ∃ x : Vm, cs = (vmC x).toList ∧ (VmAt w w.heap.size x ∧ Cfit x.co) := by
  obtain ⟨hl, hat⟩ := rd_struct Tryd.underlying45 h
  rw [tcVer] at hl
  obtain ⟨a, b, rfl⟩ := tlist2 hl
  obtain ⟨A, c, l, q0, l1, l2⟩ := rd_steps (hat 0 _ 43 0 1 rfl rfl rfl tcSs)
  obtain ⟨A', c', l', q1, m1, m2, m3⟩ := rd_cols (hat 1 _ 29 1 1 rfl rfl rfl tcCs)
  simp only [List.drop_zero, List.take_succ_cons, List.take_zero, List.drop_succ_cons, List.cons.injEq, and_true] at q0 q1
  subst q0 q1
  exact ⟨⟨l, A, c, l', A', c'⟩, rfl, ⟨l1, m1, l2, by have := m2.b; show l'.length ≤ _; omega, m3⟩, m2⟩
theorem rd_versions {cs : List Value} (h : Rd enc Tryd.prog U w 46 cs) : ∃ A c l, cs = [.slice A (List.length l) c] ∧ Rows vmC 2 w w.heap.size A l ∧ (∀ x ∈ l, VmAt w w.heap.size x ∧ Cfit x.co) ∧ l.length ≤ 140737488355328 ∧ l.length ≤ c := by
  obtain ⟨A, c, l, h1, h2, h3, h4, _, h6⟩ := rd_rows (f := vmC) (s := 2) (b := 48) (Q := fun x => VmAt w w.heap.size x ∧ Cfit x.co) Tryd.underlying46 tcVer (by decide) (by kernel_rfl) (fun _ => rfl) (fun _ => rd_version) h
  exact ⟨A, c, l, h1, h2, h3, by omega, h6⟩
theorem rd_type {cs : List Value} (h : Rd enc Tryd.prog U w 48 cs) : ∃ x : Tm, cs = (tmC x).toList ∧ (TmAt w w.heap.size x ∧ x.n.size ≤ 140737488351232 ∧ ∀ m ∈ x.vs, Cfit m.co) := by
  obtain ⟨hl, hat⟩ := rd_struct Tryd.underlying48 h
  rw [tcTy] at hl
  obtain ⟨a, b, rfl⟩ := tlist2 hl
  obtain ⟨s, q0, s1, _⟩ := rd_text Tryd.underlying9 (hat 0 _ 9 0 1 rfl rfl rfl tcS)
  obtain ⟨A', c', l', q1, m1, m2, m3, m4⟩ := rd_versions (hat 1 _ 46 1 1 rfl rfl rfl tcVs)
  simp only [List.drop_zero, List.take_succ_cons, List.take_zero, List.drop_succ_cons, List.cons.injEq, and_true] at q0 q1
  subst q0 q1
  exact ⟨⟨s, l', A', c'⟩, rfl, ⟨m1, fun x hx => (m2 x hx).1, m3, m4⟩, s1, fun m hm => (m2 m hm).2⟩
theorem rd_hist {cs : List Value} (h : Rd enc Tryd.prog U w 24 cs) : ∃ A c l, cs = [.slice A (List.length l) c] ∧ HsAt w w.heap.size A l ∧ Hfit l ∧ l.length ≤ c := by
  obtain ⟨hl, hat⟩ := rd_struct Tryd.underlying24 h
  rw [tcHist] at hl
  obtain ⟨a, rfl⟩ := tlist1 hl
  have h0 := hat 0 _ 22 0 1 rfl rfl rfl tcTs
  obtain ⟨A, c, l, h1, h2, h3, h4, _, h6⟩ := rd_rows (f := tmC) (s := 2) (b := 40) (Q := fun x => TmAt w w.heap.size x ∧ x.n.size ≤ 140737488351232 ∧ ∀ m ∈ x.vs, Cfit m.co) Tryd.underlying22 tcTy (by decide) (by kernel_rfl) (fun _ => rfl) (fun _ => rd_type) h0
  exact ⟨A, c, l, h1, ⟨h2, fun x hx => (h3 x hx).1, by omega⟩, fun x hx => (h3 x hx).2, h6⟩
theorem rd_flds {cs : List Value} (h : Rd enc Tryd.prog U w 39 cs) : ∃ A c l, cs = [.slice A (List.length l) c] ∧ FRow w w.heap.size A l ∧ Good l ∧ l.length * 40 ≤ 140737488351232 ∧ l.length ≤ c := by
  obtain ⟨A, c, l, h1, h2, h3, h4, _, h6⟩ := rd_rows (f := ffC) (s := 4) (b := 40) (Q := fun x => Fit x.v ∧ x.v.s.size ≤ 140737488351232) Tryd.underlying39 tcF (by decide) (by kernel_rfl) (fun _ => rfl) (fun _ => rd_field) h
  refine ⟨A, c, l, h1, ?_, fun f hf => ⟨(h3 f hf).1, by have := (h3 f hf).2; omega⟩, h4, h6⟩
  rcases h2 with h2 | ⟨b, o, rfl, hb, hc⟩
  · exact .inl h2
  · exact .inr ⟨b, o, rfl, hb, fun i f hf => ⟨hc i f hf 0 _ rfl, hc i f hf 1 _ rfl, hc i f hf 2 _ rfl, hc i f hf 3 _ rfl⟩⟩
/-! arguments -/
variable {base : Nat} {v : Value} {d : DataW H} {p : List MemPlace}
set_option maxRecDepth 100000 in
theorem targ_slice {t e : TypeId} (ht : Tryd.prog.underlying t = some (.slice e)) (hval : Value.okWide Tryd.prog w .any base t v) {A : Option Addr} {n c : Nat} (h : v.cells.toList = [.slice A n c]) : v = .slice A n c := by
  obtain ⟨a1, len1, cap1, rfl⟩ := okWide_slice ht hval
  simpa [Value.cells] using h
set_option maxRecDepth 100000 in
theorem targ_struct {t : TypeId} {fs : Array Field} (ht : Tryd.prog.underlying t = some (.struct fs)) (hval : Value.okWide Tryd.prog w .any base t v) {cs : Array Value} (h : v.cells.toList = cs.toList) : v = .agg cs := by
  obtain ⟨cs', rfl, _⟩ := okWide_struct ht hval
  rw [Array.toList_inj.1 (show cs'.toList = cs.toList from h)]
set_option maxRecDepth 100000 in
theorem fitF {P : Program} {t : TypeId} {d : DataW H} (h : ∀ n ∈ d.weights P t, n ≤ reachBytes) : Fitd P False t d := ⟨h, fun u => u.elim⟩
set_option maxRecDepth 100000 in
theorem arg_cols (hval : Value.okWide Tryd.prog w .any base 29 v) (h : DataW.Trod enc Tryd.prog w 0 (fun _ => true) true 29 v d p) (hw : ∀ n ∈ d.weights Tryd.prog 29, n ≤ reachBytes) :
    ∃ A c l, v = .slice A (List.length l) c ∧ CoR w w.heap.size A l ∧ Cfit l ∧ l.length ≤ c := by
  obtain ⟨A, c, l, h1, h2⟩ := rd_cols (rd_arg h (fitF hw))
  exact ⟨A, c, l, targ_slice Tryd.underlying29 hval h1, h2⟩
set_option maxRecDepth 100000 in
theorem arg_flds (hval : Value.okWide Tryd.prog w .any base 39 v) (h : DataW.Trod enc Tryd.prog w 0 (fun _ => true) true 39 v d p) (hw : ∀ n ∈ d.weights Tryd.prog 39, n ≤ reachBytes) :
    ∃ A c l, v = .slice A (List.length l) c ∧ FRow w w.heap.size A l ∧ Good l ∧ l.length * 40 ≤ 140737488351232 ∧ l.length ≤ c := by
  obtain ⟨A, c, l, h1, h2⟩ := rd_flds (rd_arg h (fitF hw))
  exact ⟨A, c, l, targ_slice Tryd.underlying39 hval h1, h2⟩
set_option maxRecDepth 100000 in
theorem arg_hist (hval : Value.okWide Tryd.prog w .any base 24 v) (h : DataW.Trod enc Tryd.prog w 0 (fun _ => true) true 24 v d p) (hw : ∀ n ∈ d.weights Tryd.prog 24, n ≤ reachBytes) :
    ∃ A c l, v = .agg #[.slice A (List.length l) c] ∧ HsAt w w.heap.size A l ∧ Hfit l ∧ l.length ≤ c := by
  obtain ⟨A, c, l, h1, h2⟩ := rd_hist (rd_arg h (fitF hw))
  exact ⟨A, c, l, targ_struct Tryd.underlying24 hval h1, h2⟩
set_option maxRecDepth 100000 in
theorem arg_look (hval : Value.okWide Tryd.prog w .any base 26 v) (h : DataW.Trod enc Tryd.prog w 0 (fun _ => true) true 26 v d p) (hw : ∀ n ∈ d.weights Tryd.prog 26, n ≤ reachBytes) :
    ∃ A c l n t u, v = .agg #[.slice A (List.length l) c, .string n, .int .i64 t, .int .i64 u] ∧ HsAt w w.heap.size A l ∧ Hfit l ∧ l.length ≤ c ∧ n.size ≤ 140737488351232 := by
  have h0 := rd_arg h (fitF hw)
  obtain ⟨hl, hat⟩ := rd_struct Tryd.underlying26 h0
  rw [show Tryd.prog.cellsOf 26 = 4 by kernel_rfl] at hl
  obtain ⟨a, b, c, e, hv⟩ := tlist4 hl
  rw [hv] at hat
  obtain ⟨A, cc, l, q0, r0⟩ := rd_hist (hat 0 _ 24 0 1 rfl rfl rfl tcHist)
  obtain ⟨s, q1, s1, _⟩ := rd_text Tryd.underlying9 (hat 1 _ 9 1 1 rfl rfl rfl tcS)
  obtain ⟨t, q2, _⟩ := rd_int Tryd.underlying3 (hat 2 _ 3 2 1 rfl rfl rfl tcI)
  obtain ⟨u, q3, _⟩ := rd_int Tryd.underlying3 (hat 3 _ 3 3 1 rfl rfl rfl tcI)
  simp only [List.drop_zero, List.take_succ_cons, List.take_zero, List.drop_succ_cons, List.cons.injEq, and_true] at q0 q1 q2 q3
  subst q0 q1 q2 q3
  exact ⟨A, cc, l, s, t, u, targ_struct Tryd.underlying26 hval hv, r0.1, r0.2.1, r0.2.2, s1⟩
set_option maxRecDepth 100000 in
theorem arg_cut (hval : Value.okWide Tryd.prog w .any base 64 v) (h : DataW.Trod enc Tryd.prog w 0 (fun _ => true) true 64 v d p) (hw : ∀ n ∈ d.weights Tryd.prog 64, n ≤ reachBytes) :
    ∃ A c l t u, v = .agg #[.slice A (List.length l) c, .int .i64 t, .int .i64 u] ∧ HsAt w w.heap.size A l ∧ Hfit l ∧ l.length ≤ c ∧ (-9223372036854775808 ≤ t ∧ t ≤ 9223372036854775807) ∧ (-9223372036854775808 ≤ u ∧ u ≤ 9223372036854775807) := by
  have h0 := rd_arg h (fitF hw)
  obtain ⟨hl, hat⟩ := rd_struct Tryd.underlying64 h0
  rw [show Tryd.prog.cellsOf 64 = 3 by kernel_rfl] at hl
  obtain ⟨a, b, c, hv⟩ := tlist3 hl
  rw [hv] at hat
  obtain ⟨A, cc, l, q0, r0⟩ := rd_hist (hat 0 _ 24 0 1 rfl rfl rfl tcHist)
  obtain ⟨t, q2, w2⟩ := rd_int Tryd.underlying3 (hat 1 _ 3 1 1 rfl rfl rfl tcI)
  obtain ⟨u, q3, w3⟩ := rd_int Tryd.underlying3 (hat 2 _ 3 2 1 rfl rfl rfl tcI)
  simp only [List.drop_zero, List.take_succ_cons, List.take_zero, List.drop_succ_cons, List.cons.injEq, and_true] at q0 q2 q3
  subst q0 q2 q3
  exact ⟨A, cc, l, t, u, targ_struct Tryd.underlying64 hval hv, r0.1, r0.2.1, r0.2.2, bounds_i64 w2, bounds_i64 w3⟩
end
end Go.Proofs.YtnflbnchkcigiaaDoor
