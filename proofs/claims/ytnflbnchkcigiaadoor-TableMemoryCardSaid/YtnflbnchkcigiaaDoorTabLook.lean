/- The walks of copyAll, Columns, Column, Find. -/
import Derived.Test.YtnflbnchkcigiaaDoorTabCopy
import Derived.Test.YtnflbnchkcigiaaDoorTabEqL
namespace Go.Proofs.YtnflbnchkcigiaaDoor
open Go.RowKit

/-- make of columns -/
theorem run_mkCo (n : Nat) (hn : n * 32 ≤ 140737488355328) (W : World) : (Instr.makeSlice 29 (.int .i64 (n : Int)) (.int .i64 (n : Int))).run Tryd.prog W =
    .ok (.slice (some ⟨W.heap.size, 0, none⟩) n n) (W.alloc (.cells (flatR coC (List.replicate n zCo)).toArray 35)) :=
  run_mk_rows zCo coC_size (by decide) Tryd.underlying29 infoCo n n (Nat.le_refl _) hn (by omega) W
/-- k columns are laid -/
def laid (a : List Co) (k : Nat) : List Co := a.take k ++ List.replicate (a.length - k) zCo
theorem laid_len (a : List Co) {k : Nat} (hk : k ≤ a.length) : (laid a k).length = a.length := by unfold laid; rw [List.length_append, List.length_take, List.length_replicate]; omega
theorem laid_all (a : List Co) : laid a a.length = a := by unfold laid; rw [List.take_length, Nat.sub_self]; simp
theorem laid_set {a : List Co} {k : Nat} {x : Co} (hx : a[k]? = some x) : (laid a k).set k x = laid a (k + 1) := by
  have hk : k < a.length := (List.getElem?_eq_some_iff.1 hx).1
  unfold laid
  rw [show a.length - k = (a.length - (k + 1)) + 1 by omega, List.replicate_succ, List.set_append_right _ _ (by rw [List.length_take]; omega), List.length_take, Nat.min_eq_left (by omega), Nat.sub_self, List.set_cons_zero, List.take_add_one, hx]
  simp

set_option maxRecDepth 100000 in
set_option maxHeartbeats 2000000 in
theorem copyAll_any {w : World} {A : Option Addr} {a : List Co} (c : Nat) (ha : CoR w w.heap.size A a) (hn : ∀ x ∈ a, x.n.size ≤ 140737488355328) (hl : a.length * 32 ≤ 140737488355328) :
    Calls Tryd.prog 28 #[.slice A a.length c] w fun e w' => e = .returned (.slice (some ⟨w.heap.size, 0, none⟩) a.length a.length) ∧ RB coC 35 w' w.heap.size a ∧ Below w.heap.size w w' := by
  have hmk := run_mkCo a.length hl
  obtain ⟨n, hL⟩ : ∃ n, n = a.length := ⟨_, rfl⟩
  have h0 : RB coC 35 (w.alloc (.cells (flatR coC (List.replicate a.length zCo)).toArray 35)) w.heap.size (laid a 0) := CB.new w _ _
  have hB0 : Below w.heap.size w (w.alloc (.cells (flatR coC (List.replicate a.length zCo)).toArray 35)) := (Below.refl _ _).alloc (Nat.le_refl _) _
  rw [← hL] at hmk h0 hB0 ⊢
  have HA := Lib.hid ha
  have HN := Lib.hid hn
  have HL := Lib.hid hL
  have hl2 : n ≤ 140737488355328 := by omega
  have H0 := Lib.hid (And.intro h0 hB0)
  clear ha hn h0 hB0 hl hL
  go_enter Tryd.func28, Tryd.ntmps28
  go_wp2
  generalize hW : w.alloc (.cells (flatR coC (List.replicate n zCo)).toArray 35) = W0 at *
  clear hW
  go_loopw [11] (fun i wr => ∃ k : Nat, i = .int .i64 k ∧ k ≤ n ∧ Hid (RB coC 35 wr w.heap.size (laid a k)) ∧ Hid (Below w.heap.size w wr)) (fun i _ => n - (intOf i).toNat)
  case atStart => exact ⟨0, rfl, Nat.zero_le _, H0.out.1, H0.out.2⟩
  case round =>
    obtain ⟨k, rfl, hk, HR, HB⟩ := hrel
    by_cases hlt : k < n
    · have hltz : (k : Int) < (n : Int) := by omega
      have k0 : (0 : Int) ≤ (k : Int) := by omega
      obtain ⟨x, hx⟩ : ∃ x, a[k]? = some x := ⟨a[k]'(by have := HL.out; omega), List.getElem?_eq_getElem _⟩
      obtain ⟨ga, oa, rfl, hga, a0, a1, a2⟩ := CoR.cells (HA.out.below HB.out) hx
      have hr1 := HR.out.below ((Below.refl wr.heap.size wr).alloc (Nat.le_refl _) (.cells (coC x) 35))
      have hB1 : Below w.heap.size w (wr.alloc (.cells (coC x) 35)) := HB.out.alloc HB.out.size _
      have cc := copyOf_any (wr.alloc (.cells (coC x) 35)) x (HN.out x (List.mem_of_getElem? hx))
      have hset := laid_set hx
      have hlen : k < (laid a k).length := by have := HL.out; rw [laid_len a (by omega)]; omega
      have HX := Lib.hid (And.intro hset hlen)
      have H1 := Lib.hid (And.intro hr1 hB1)
      clear hset hlen hx hr1 hB1
      obtain ⟨xn, xt, xk⟩ := x
      unfold coC at cc H1
      dsimp only at cc a0 a1 a2 H1
      go_wp2_with (first
        | (go_at_call 29; refine cc.mono ?_; rintro e w1 ⟨rfl, hb1⟩; have h2 : RB coC 35 w1 w.heap.size (laid a k) := RB.below H1.out.1 hb1; have hB2 : Below w.heap.size w w1 := H1.out.2.trans (hb1.mono H1.out.2.size))
        | (refine wpList_store_rb (s := 3) rfl (.tmp 20) (.tmp 19) rfl coC_size coC_one sizeCo k _ ⟨xn, xt, xk⟩ rfl rfl rfl h2 HX.out.2 ?_; intro w2 h3 t2; rw [HX.out.1] at h3; have H3 := Lib.hid h3; have HB2 := Lib.hid (hB2.trans (t2.below (Nat.le_refl _)))))
      go_roundw
      case rel => exact ⟨k + 1, by go_num, by omega, H3.out, HB2.out⟩
      case measure => simp [intOf]; omega
    · obtain rfl : k = n := by omega
      have h1 := HR.out
      rw [HL.out, laid_all] at h1
      have H1 := Lib.hid h1
      clear h1
      go_wp2
      go_ret
      exact ⟨rfl, H1.out, HB.out⟩

/-! ### Columns -/
/-- what Columns answers -/
def colsR (l : List Tm) (t v : Int) : List Co × Int :=
  if t < 0 then ([], 131) else match l[t.toNat]? with
    | none => ([], 131)
    | some x => if v < 1 then ([], 132) else match x.vs[(v - 1).toNat]? with
      | none => ([], 132)
      | some m => (m.co, 0)
theorem colsR_neg {l : List Tm} {t v : Int} (h : t < 0) : colsR l t v = ([], 131) := by unfold colsR; rw [if_pos h]
theorem colsR_none {l : List Tm} {T : Nat} {v : Int} (h : l[T]? = none) : colsR l (T : Int) v = ([], 131) := by
  unfold colsR; rw [if_neg (by omega), Int.toNat_natCast, h]
theorem colsR_low {l : List Tm} {T : Nat} {v : Int} {x : Tm} (h : l[T]? = some x) (hv : v < 1) : colsR l (T : Int) v = ([], 132) := by
  unfold colsR; rw [if_neg (by omega), Int.toNat_natCast, h]; dsimp only; rw [if_pos hv]
theorem colsR_high {l : List Tm} {T U : Nat} {x : Tm} (h : l[T]? = some x) (hm : x.vs[U]? = none) : colsR l (T : Int) ((U + 1 : Nat) : Int) = ([], 132) := by
  unfold colsR; rw [if_neg (by omega), Int.toNat_natCast, h]; dsimp only; rw [if_neg (by omega), show (((U + 1 : Nat) : Int) - 1).toNat = U by omega, hm]
theorem colsR_ok {l : List Tm} {T U : Nat} {x : Tm} {m : Vm} (h : l[T]? = some x) (hm : x.vs[U]? = some m) : colsR l (T : Int) ((U + 1 : Nat) : Int) = (m.co, 0) := by
  unfold colsR; rw [if_neg (by omega), Int.toNat_natCast, h]; dsimp only; rw [if_neg (by omega), show (((U + 1 : Nat) : Int) - 1).toNat = U by omega, hm]
/-- texts and lists that fit into memory -/
structure Cfit (l : List Co) : Prop where
  n : ∀ x ∈ l, x.n.size ≤ 140737488351232
  b : l.length * 32 ≤ 140737488351232
def Hfit (l : List Tm) : Prop := ∀ x ∈ l, x.n.size ≤ 140737488351232 ∧ ∀ m ∈ x.vs, Cfit m.co
theorem colsR_fit {l : List Tm} (h : Hfit l) (t v : Int) : Cfit (colsR l t v).1 := by
  have h0 : Cfit [] := ⟨fun x hx => (List.not_mem_nil hx).elim, by simp⟩
  unfold colsR
  split
  · exact h0
  · split
    · exact h0
    · rename_i x hx
      split
      · exact h0
      · split
        · exact h0
        · rename_i m hm
          exact (h x (List.mem_of_getElem? hx)).2 m (List.mem_of_getElem? hm)
theorem Cfit.n' {l : List Co} (h : Cfit l) : ∀ x ∈ l, x.n.size ≤ 140737488355328 := fun x hx => by have := h.n x hx; omega
/-- new columns -/
structure NewC (w w' : World) (A : Option Addr) (c : Nat) (r : List Co) : Prop where
  own : OwnR coC 3 35 w' w.heap.size A c r
  reads : CoR w' w'.heap.size A r
  cap : c = r.length
  old : Below w.heap.size w w'
theorem NewC.none (w w' : World) (hb : Below w.heap.size w w') : NewC w w' none 0 [] := ⟨OwnR.nil, .inl rfl, rfl, hb⟩

set_option maxRecDepth 100000 in
set_option maxHeartbeats 2000000 in
theorem columns_any {w : World} {A : Option Addr} {l : List Tm} (c : Nat) (t v : Int) (h : HsAt w w.heap.size A l) (hf : Hfit l) :
    Calls Tryd.prog 13 #[.agg #[.slice A l.length c], .int .i64 t, .int .i64 v] w fun e w' => ∃ A' c', e = .returned (.tuple #[.slice A' (colsR l t v).1.length c', .int .i64 (colsR l t v).2]) ∧ NewC w w' A' c' (colsR l t v).1 := by
  have hB : Below w.heap.size w (w.alloc (.cells #[.slice A l.length c] 24)) := (Below.refl _ _).alloc (Nat.le_refl _) _
  have HB := Lib.hid hB
  by_cases q1 : t < 0
  · have e : colsR l t v = ([], 131) := by unfold colsR; rw [if_pos q1]
    rw [e]
    clear e hB h hf
    go_enter Tryd.func13, Tryd.ntmps13
    go_wp2
    go_ret2
    exact ⟨none, 0, rfl, NewC.none _ _ HB.out⟩
  obtain ⟨T, rfl⟩ : ∃ T : Nat, t = (T : Int) := ⟨t.toNat, by omega⟩
  have q1d : decide ((T : Int) < 0) = false := decide_eq_false q1
  have hlen := h.len
  by_cases q2 : T < l.length
  case neg =>
    have e1 := colsR_none (v := v) (List.getElem?_eq_none (l := l) (i := T) (by omega))
    have q2z : (l.length : Int) ≤ (T : Int) := by omega
    have q2d : decide ((l.length : Int) ≤ (T : Int)) = true := decide_eq_true q2z
    rw [e1]
    clear e1 hB h hf
    go_enter Tryd.func13, Tryd.ntmps13
    go_wp2
    go_ret2
    exact ⟨none, 0, rfl, NewC.none _ _ HB.out⟩
  obtain ⟨x, hx⟩ : ∃ x, l[T]? = some x := ⟨l[T], List.getElem?_eq_getElem q2⟩
  obtain ⟨g, o, rfl, hg, x0, x1⟩ := Tm.cells (h.row.below hB) hx
  have q2z : ¬ (l.length : Int) ≤ (T : Int) := by omega
  have q2d : decide ((l.length : Int) ≤ (T : Int)) = false := decide_eq_false q2z
  have q2y : (T : Int) < (l.length : Int) := by omega
  have hxa := (h.each x (List.mem_of_getElem? hx)).below hB
  have hxf := (hf x (List.mem_of_getElem? hx)).2
  have hxl := hxa.len
  have HX := Lib.hid (And.intro hxa hxf)
  have HXX := Lib.hid hx
  clear hx hxa hxf h hf
  obtain ⟨xn, xv, xA, xc⟩ := x
  dsimp only at *
  by_cases q3 : v < 1
  · have e1 := colsR_low HXX.out q3
    have q3d : decide (v < 1) = true := decide_eq_true q3
    rw [e1]
    clear e1 hB
    go_enter Tryd.func13, Tryd.ntmps13
    go_wp2
    go_ret2
    exact ⟨none, 0, rfl, NewC.none _ _ HB.out⟩
  obtain ⟨V, rfl⟩ : ∃ V : Nat, v = (V : Int) := ⟨v.toNat, by omega⟩
  obtain ⟨U, rfl⟩ : ∃ U, V = U + 1 := ⟨V - 1, by omega⟩
  have q3d : decide (((U + 1 : Nat) : Int) < 1) = false := decide_eq_false q3
  by_cases q4 : U < xv.length
  case neg =>
    have e1 := colsR_high (U := U) HXX.out (List.getElem?_eq_none (l := xv) (i := U) (by omega))
    have q4z : (xv.length : Int) < ((U + 1 : Nat) : Int) := by omega
    have q4d : decide ((xv.length : Int) < ((U + 1 : Nat) : Int)) = true := decide_eq_true q4z
    rw [e1]
    obtain ⟨Z, hZ⟩ : ∃ Z : Int, ((U + 1 : Nat) : Int) = Z := ⟨_, rfl⟩
    rw [hZ] at q3 q3d q4z q4d ⊢
    clear e1 hB hZ
    go_enter Tryd.func13, Tryd.ntmps13
    go_wp2
    go_ret2
    exact ⟨none, 0, rfl, NewC.none _ _ HB.out⟩
  obtain ⟨m, hm⟩ : ∃ m, xv[U]? = some m := ⟨xv[U], List.getElem?_eq_getElem q4⟩
  have e1 := colsR_ok (U := U) HXX.out hm
  obtain ⟨gv, ov, rfl, hgv, m0, m1⟩ := Vm.cells HX.out.1.row hm
  have hma := (HX.out.1.each m (List.mem_of_getElem? hm))
  have hmf := (HX.out.2 m (List.mem_of_getElem? hm))
  have hl32 : m.co.length * 32 ≤ 140737488355328 := by have := hmf.b; omega
  have cc := copyAll_any (w := w.alloc (.cells #[.slice (some ⟨g, o, none⟩) l.length c] 24)) m.cc ((hma.more hB.size).cr) hmf.n' hl32
  rw [show (w.alloc (.cells #[.slice (some ⟨g, o, none⟩) l.length c] 24)).heap.size = w.heap.size + 1 by simp] at cc
  have q4z : ¬ (xv.length : Int) < ((U + 1 : Nat) : Int) := by omega
  have q4d : decide ((xv.length : Int) < ((U + 1 : Nat) : Int)) = false := decide_eq_false q4z
  rw [e1]
  clear hma hmf hm HX
  obtain ⟨ms, mA, mc, mo, mB, md⟩ := m
  dsimp only at *
  have hsub : ((U + 1 : Nat) : Int) - 1 = (U : Int) := by omega
  have hsubw : IntKind.i64.wrap (((U + 1 : Nat) : Int) - 1) = (U : Int) := by rw [IntKind.wrap_i64]; omega
  have u0 : (0 : Int) ≤ (U : Int) := by omega
  have u1 : (U : Int) < (xv.length : Int) := by omega
  obtain ⟨Z, hZ⟩ : ∃ Z : Int, ((U + 1 : Nat) : Int) = Z := ⟨_, rfl⟩
  rw [hZ] at q3 q3d q4z q4d hsub hsubw ⊢
  clear e1 hZ
  go_enter Tryd.func13, Tryd.ntmps13
  go_wp2_with (go_at_call 28; refine cc.mono ?_; rintro e w1 ⟨rfl, hr1, hb1⟩)
  go_ret2
  refine ⟨_, _, rfl, ?_⟩
  exact ⟨(OwnR.of_rb coC_size hr1 (Nat.le_refl _) (by simp only [maxLen]; omega)).low (Nat.le_succ _), RB.reads coC_size hr1, rfl, HB.out.trans (hb1.mono (Nat.le_succ _))⟩
end Go.Proofs.YtnflbnchkcigiaaDoor
