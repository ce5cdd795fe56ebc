/- The walks of the reference's Find, Columns, Column. -/
import Derived.Test.YtnflbnchkcigiaaDoorTabFind
import Derived.Test.YtnflbnchkcigiaaDoorTaGe
namespace Go.Proofs.YtnflbnchkcigiaaDoor
open Go.RowKit

set_option maxRecDepth 100000 in
set_option maxHeartbeats 2000000 in
theorem rfind_any {w : World} {A : Option Addr} {l : List Tm} (c : Nat) (n : ByteArray) (h : Rows tmC 2 w w.heap.size A l) (hl : l.length ≤ 140737488355328) :
    Calls Tryd.prog 12 #[.agg #[.slice A l.length c], .string n] w fun e w' => e = .returned (.int .i64 (findI n l)) ∧ Below w.heap.size w w' := by
  obtain ⟨Z, hZ⟩ : ∃ Z, findI n l = Z := ⟨_, rfl⟩
  rw [hZ]
  have HZ := Lib.hid hZ
  have hB : Below w.heap.size w (w.alloc (.cells #[.slice A l.length c] 24)) := (Below.refl _ _).alloc (Nat.le_refl _) _
  have p0 : (w.alloc (.cells #[.slice A l.length c] 24)).cell? ⟨w.heap.size, 0, none⟩ = some (.slice A l.length c) := (CB.new w 24 #[.slice A l.length c]).at_ 0
  have HA := Lib.hid (h.below hB)
  have HB := Lib.hid hB
  clear hZ h hB
  go_enter Tryd.func12, Tryd.ntmps12
  go_wp2
  generalize w.alloc (.cells #[.slice A l.length c] 24) = W0 at *
  go_loopw [5] (fun i wr => wr = W0 ∧ ∃ k : Nat, i = .int .i64 k ∧ k ≤ l.length ∧ Hid (findI n l = findN n (l.drop k) k)) (fun i _ => l.length - (intOf i).toNat)
  case atStart => exact ⟨rfl, 0, rfl, Nat.zero_le _, by unfold Hid findI; rw [List.drop_zero]⟩
  case round =>
    obtain ⟨rfl, k, rfl, hk, HI⟩ := hrel
    by_cases hlt : k < l.length
    · have hltz : (k : Int) < (l.length : Int) := by omega
      have k0 : (0 : Int) ≤ (k : Int) := by omega
      obtain ⟨x, hx⟩ : ∃ x, l[k]? = some x := ⟨l[k], List.getElem?_eq_getElem hlt⟩
      obtain ⟨ga, oa, rfl, hga, a0, a1⟩ := Tm.cells HA.out hx
      by_cases q : x.n = n
      · have e1 := ba_eq q
        have HE := Lib.hid (HZ.out.symm.trans (HI.out.trans (findN_yes hx q)))
        clear q hx
        go_wp2
        go_ret
        exact ⟨ret_int HE.out.symm, HB.out⟩
      · have e1 := ba_ne q
        have HE := Lib.hid (HI.out.trans (findN_no hx q))
        clear q hx
        go_wp2
        go_roundw
        case rel => exact ⟨trivial, k + 1, by go_num, by omega, HE.out⟩
        case measure => simp [intOf]; omega
    · obtain rfl : k = l.length := by omega
      have HE := Lib.hid (HZ.out.symm.trans (HI.out.trans findN_end))
      go_wp2
      go_ret
      exact ⟨ret_int HE.out.symm, HB.out⟩

set_option maxRecDepth 100000 in
set_option maxHeartbeats 2000000 in
theorem rcolumn_any {w : World} {A : Option Addr} {a : List Co} (c : Nat) (n : ByteArray) (ha : CoR w w.heap.size A a) (hl : a.length ≤ 140737488355328) :
    Calls Tryd.prog 17 #[.slice A a.length c, .string n] w fun e w' => e = .returned (.tuple #[.agg (coC (colF n a).1), .bool (colF n a).2]) ∧ Below w.heap.size w w' := by
  obtain ⟨X, hX⟩ : ∃ X, (colF n a).1 = X := ⟨_, rfl⟩
  obtain ⟨Y, hY⟩ : ∃ Y, (colF n a).2 = Y := ⟨_, rfl⟩
  rw [hX, hY]
  have HX : Hid (colF n a = (X, Y)) := Prod.ext hX hY
  have h0 : CB (w.alloc (.cells #[.string ⟨#[]⟩, .int .i64 0, .int .i64 0] 35)) w.heap.size 35 #[.string ⟨#[]⟩, .int .i64 0, .int .i64 0] := CB.new w _ _
  have hB0 : Below w.heap.size w (w.alloc (.cells #[.string ⟨#[]⟩, .int .i64 0, .int .i64 0] 35)) := (Below.refl _ _).alloc (Nat.le_refl _) _
  have HA := Lib.hid (ha.below hB0)
  have H0 := Lib.hid (And.intro h0 hB0)
  clear hX hY ha h0 hB0
  go_enter Tryd.func17, Tryd.ntmps17
  go_wp2
  generalize w.alloc (.cells #[.string ⟨#[]⟩, .int .i64 0, .int .i64 0] 35) = W0 at *
  go_loopw [6] (fun i wr => wr = W0 ∧ ∃ k : Nat, i = .int .i64 k ∧ k ≤ a.length ∧ Hid (colF n a = colF n (a.drop k))) (fun i _ => a.length - (intOf i).toNat)
  case atStart => exact ⟨rfl, 0, rfl, Nat.zero_le _, by unfold Hid; rw [List.drop_zero]⟩
  case round =>
    obtain ⟨rfl, k, rfl, hk, HI⟩ := hrel
    by_cases hlt : k < a.length
    · have hltz : (k : Int) < (a.length : Int) := by omega
      have k0 : (0 : Int) ≤ (k : Int) := by omega
      obtain ⟨x, hx⟩ : ∃ x, a[k]? = some x := ⟨a[k], List.getElem?_eq_getElem hlt⟩
      obtain ⟨ga, oa, rfl, hga, a0, a1, a2⟩ := CoR.cells HA.out hx
      by_cases hq : x.n = n
      · have e := HX.out.symm.trans (HI.out.trans (colF_yes hx hq))
        injection e with e1 e2
        have e3 := ba_eq hq
        subst e1 e2
        have h2 := H0.out.1
        clear hq hx
        obtain ⟨xn, xt, xk⟩ := X
        dsimp only at a0 a1 a2 e3
        go_wp2_with (refine wpList_store_cb rfl 35 (.tmp 4) (.tmp 23) rfl w.heap.size _ #[.string xn, .int .i64 xt, .int .i64 xk] rfl rfl h2 rfl (by kernel_rfl) (by kernel_rfl) ?_; intro w2 j2 t2)
        exact bodyPost_ret (results_cbt rfl _ _ _ _ _ rfl rfl j2 Tryd.underlying35 rfl (by kernel_rfl)) rfl ⟨rfl, H0.out.2.trans (t2.below (Nat.le_refl _))⟩
      · have HE := Lib.hid (HI.out.trans (colF_no hx hq))
        have e3 := ba_ne hq
        clear hq hx
        go_wp2
        go_roundw
        case rel => exact ⟨trivial, k + 1, by go_num, by omega, HE.out⟩
        case measure => simp [intOf]; omega
    · obtain rfl : k = a.length := by omega
      have e := HX.out.symm.trans (HI.out.trans colF_end)
      injection e with e1 e2
      subst e1 e2
      have h2 := H0.out.1
      go_wp2_with (refine wpList_store_cb rfl 35 (.tmp 4) (.tmp 24) rfl w.heap.size _ #[.string ⟨#[]⟩, .int .i64 0, .int .i64 0] rfl rfl h2 rfl (by kernel_rfl) (by kernel_rfl) ?_; intro w2 j2 t2)
      exact bodyPost_ret (results_cbt rfl _ _ _ _ _ rfl rfl j2 Tryd.underlying35 rfl (by kernel_rfl)) rfl ⟨rfl, H0.out.2.trans (t2.below (Nat.le_refl _))⟩

/-- new columns, to be read -/
structure NewD (w w' : World) (A : Option Addr) (c : Nat) (r : List Co) : Prop where
  room : r.length ≤ c
  reads : CoR w' w'.heap.size A r
  old : Below w.heap.size w w'
theorem NewD.none (w w' : World) (hb : Below w.heap.size w w') : NewD w w' none 0 [] := ⟨Nat.le_refl _, .inl rfl, hb⟩
set_option maxRecDepth 100000 in
set_option maxHeartbeats 2000000 in
theorem rcolumns_any {w : World} {A : Option Addr} {l : List Tm} (c : Nat) (t v : Int) (h : HsAt w w.heap.size A l) (hf : Hfit l) :
    Calls Tryd.prog 14 #[.agg #[.slice A l.length c], .int .i64 t, .int .i64 v] w fun e w' => ∃ A' c', e = .returned (.tuple #[.slice A' (colsR l t v).1.length c', .int .i64 (colsR l t v).2]) ∧ NewD w w' A' c' (colsR l t v).1 := by
  have hB : Below w.heap.size w (w.alloc (.cells #[.slice A l.length c] 24)) := (Below.refl _ _).alloc (Nat.le_refl _) _
  have HB := Lib.hid hB
  by_cases q1 : t < 0
  · have e : colsR l t v = ([], 131) := by unfold colsR; rw [if_pos q1]
    rw [e]
    clear e hB h hf
    go_enter Tryd.func14, Tryd.ntmps14
    go_wp2
    go_ret2
    exact ⟨none, 0, rfl, NewD.none _ _ HB.out⟩
  obtain ⟨T, rfl⟩ : ∃ T : Nat, t = (T : Int) := ⟨t.toNat, by omega⟩
  have q1d : decide ((T : Int) < 0) = false := decide_eq_false q1
  have hlen := h.len
  by_cases q2 : T < l.length
  case neg =>
    have e1 := colsR_none (v := v) (List.getElem?_eq_none (l := l) (i := T) (by omega))
    have q2z : (l.length : Int) ≤ (T : Int) := by omega
    have q2d : decide ((l.length : Int) ≤ (T : Int)) = true := decide_eq_true q2z
    rw [e1]
    clear e1 hB h hf
    go_enter Tryd.func14, Tryd.ntmps14
    go_wp2
    go_ret2
    exact ⟨none, 0, rfl, NewD.none _ _ HB.out⟩
  obtain ⟨x, hx⟩ : ∃ x, l[T]? = some x := ⟨l[T], List.getElem?_eq_getElem q2⟩
  obtain ⟨g, o, rfl, hg, x0, x1⟩ := Tm.cells (h.row.below hB) hx
  have q2z : ¬ (l.length : Int) ≤ (T : Int) := by omega
  have q2d : decide ((l.length : Int) ≤ (T : Int)) = false := decide_eq_false q2z
  have q2y : (T : Int) < (l.length : Int) := by omega
  have hxa := (h.each x (List.mem_of_getElem? hx)).below hB
  have hxf := (hf x (List.mem_of_getElem? hx)).2
  have hxl := hxa.len
  have HX := Lib.hid (And.intro hxa hxf)
  have HXX := Lib.hid hx
  clear hx hxa hxf h hf
  obtain ⟨xn, xv, xA, xc⟩ := x
  dsimp only at *
  by_cases q3 : v < 1
  · have e1 := colsR_low HXX.out q3
    have q3d : decide (v < 1) = true := decide_eq_true q3
    rw [e1]
    clear e1 hB
    go_enter Tryd.func14, Tryd.ntmps14
    go_wp2
    go_ret2
    exact ⟨none, 0, rfl, NewD.none _ _ HB.out⟩
  obtain ⟨V, rfl⟩ : ∃ V : Nat, v = (V : Int) := ⟨v.toNat, by omega⟩
  obtain ⟨U, rfl⟩ : ∃ U, V = U + 1 := ⟨V - 1, by omega⟩
  have q3d : decide (((U + 1 : Nat) : Int) < 1) = false := decide_eq_false q3
  by_cases q4 : U < xv.length
  case neg =>
    have e1 := colsR_high (U := U) HXX.out (List.getElem?_eq_none (l := xv) (i := U) (by omega))
    have q4z : (xv.length : Int) < ((U + 1 : Nat) : Int) := by omega
    have q4d : decide ((xv.length : Int) < ((U + 1 : Nat) : Int)) = true := decide_eq_true q4z
    rw [e1]
    obtain ⟨Z, hZ⟩ : ∃ Z : Int, ((U + 1 : Nat) : Int) = Z := ⟨_, rfl⟩
    rw [hZ] at q3 q3d q4z q4d ⊢
    clear e1 hB hZ
    go_enter Tryd.func14, Tryd.ntmps14
    go_wp2
    go_ret2
    exact ⟨none, 0, rfl, NewD.none _ _ HB.out⟩
  obtain ⟨m, hm⟩ : ∃ m, xv[U]? = some m := ⟨xv[U], List.getElem?_eq_getElem q4⟩
  have e1 := colsR_ok (U := U) HXX.out hm
  have hB2 : Below w.heap.size w ((w.alloc (.cells #[.slice (some ⟨g, o, none⟩) l.length c] 24)).alloc (.cells #[] 35)) := hB.alloc hB.size _
  have hrow : Rows vmC 2 ((w.alloc (.cells #[.slice (some ⟨g, o, none⟩) l.length c] 24)).alloc (.cells #[] 35)) w.heap.size xA xv := HX.out.1.row.below ((Below.refl _ _).alloc hB.size _)
  have x1' : ((w.alloc (.cells #[.slice (some ⟨g, o, none⟩) l.length c] 24)).alloc (.cells #[] 35)).cell? ⟨g, o + T * 2 + 1, none⟩ = some (.slice xA xv.length xc) := (((Below.refl w.heap.size _).alloc hB.size (.cells #[] 35)).cell (p := ⟨g, o + T * 2 + 1, none⟩) hg).trans x1
  obtain ⟨gv, ov, rfl, hgv, m0, m1⟩ := Vm.cells hrow hm
  have hma := (HX.out.1.each m (List.mem_of_getElem? hm)).below ((Below.refl w.heap.size _).alloc hB.size (.cells #[] 35))
  have hmf := (HX.out.2 m (List.mem_of_getElem? hm))
  have hl32 : m.co.length * 32 ≤ 140737488355328 := by have := hmf.b; omega
  have hown : OwnR coC 3 35 ((w.alloc (.cells #[.slice (some ⟨g, o, none⟩) l.length c] 24)).alloc (.cells #[] 35)) (w.heap.size + 1) (some ⟨w.heap.size + 1, 0, none⟩) 0 [] := by
    have hz : (w.alloc (.cells #[.slice (some ⟨g, o, none⟩) l.length c] 24)).heap.size = w.heap.size + 1 := by simp
    have := OwnR.of_rb (f := coC) (l := []) (B := w.heap.size + 1) coC_size (CB.new (w.alloc (.cells #[.slice (some ⟨g, o, none⟩) l.length c] 24)) 35 #[]) (by omega) (by decide)
    rw [hz] at this
    exact this
  obtain ⟨A', c', w', hr, ho, _, _, hbw⟩ := run_app_rows (cS := m.cc) (TS := 29) coC_size coC_one (by decide) Tryd.underlying29 infoCo rfl hown (hma.more (Nat.le_succ w.heap.size)).cr (by simp only [List.length_nil, Nat.zero_add]; exact hl32) (by simp only [List.length_nil, Nat.zero_add]; omega) (by simp)
  have q4z : ¬ (xv.length : Int) < ((U + 1 : Nat) : Int) := by omega
  have q4d : decide ((xv.length : Int) < ((U + 1 : Nat) : Int)) = false := decide_eq_false q4z
  rw [e1]
  rw [List.nil_append] at hr ho
  have HO := Lib.hid (And.intro (And.intro (OwnR.room ho) (OwnR.reads coC_size ho)) (hB2.trans (hbw.mono (Nat.le_succ _))))
  clear hma hmf hm HX ho hbw hB hB2 hown hrow
  obtain ⟨ms, mA, mc, mo, mB, md⟩ := m
  dsimp only [List.length_nil] at *
  have hsub : ((U + 1 : Nat) : Int) - 1 = (U : Int) := by omega
  have hsubw : IntKind.i64.wrap (((U + 1 : Nat) : Int) - 1) = (U : Int) := by rw [IntKind.wrap_i64]; omega
  have u0 : (0 : Int) ≤ (U : Int) := by omega
  have u1 : (U : Int) < (xv.length : Int) := by omega
  obtain ⟨Z, hZ⟩ : ∃ Z : Int, ((U + 1 : Nat) : Int) = Z := ⟨_, rfl⟩
  rw [hZ] at q3 q3d q4z q4d hsub hsubw ⊢
  clear e1 hZ
  go_enter Tryd.func14, Tryd.ntmps14
  go_wp2_with (at_builtin; refine wpList_append_run rfl (.tmp 34) (.tmp 40) 29 rfl rfl rfl hr ?_)
  go_ret2
  exact ⟨_, _, rfl, HO.out.1.1, HO.out.1.2, HO.out.2⟩
end Go.Proofs.YtnflbnchkcigiaaDoor
