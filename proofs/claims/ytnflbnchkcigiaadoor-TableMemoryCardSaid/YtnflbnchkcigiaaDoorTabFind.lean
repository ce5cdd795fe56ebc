/- The walks of Column and Find. -/
import Derived.Test.YtnflbnchkcigiaaDoorTabLook
namespace Go.Proofs.YtnflbnchkcigiaaDoor
open Go.RowKit

/-- the first column of a name -/
noncomputable def colF (n : ByteArray) : List Co → Co × Bool
  | [] => (zCo, false)
  | x :: r => if same x.n n = true then (x, true) else colF n r
theorem drop_at {α : Type} {a : List α} {k : Nat} {x : α} (hx : a[k]? = some x) : a.drop k = x :: a.drop (k + 1) := by
  obtain ⟨hk, rfl⟩ := List.getElem?_eq_some_iff.1 hx
  exact List.drop_eq_getElem_cons hk
theorem colF_yes {n : ByteArray} {a : List Co} {k : Nat} {x : Co} (hx : a[k]? = some x) (h : x.n = n) : colF n (a.drop k) = (x, true) := by
  rw [drop_at hx, colF, if_pos (same_iff.2 h)]
theorem colF_no {n : ByteArray} {a : List Co} {k : Nat} {x : Co} (hx : a[k]? = some x) (h : x.n ≠ n) : colF n (a.drop k) = colF n (a.drop (k + 1)) := by
  rw [drop_at hx, colF, if_neg (by rw [same_ne h]; decide)]
theorem colF_end {n : ByteArray} {a : List Co} : colF n (a.drop a.length) = (zCo, false) := by rw [List.drop_length]; rfl
/-- the least place of a type of a name -/
noncomputable def findN (n : ByteArray) : List Tm → Nat → Int
  | [], _ => -1
  | x :: r, i => if same x.n n = true then (i : Nat) else findN n r (i + 1)
noncomputable def findI (n : ByteArray) (l : List Tm) : Int := findN n l 0
theorem findN_yes {n : ByteArray} {l : List Tm} {k : Nat} {x : Tm} (hx : l[k]? = some x) (h : x.n = n) : findN n (l.drop k) k = (k : Nat) := by
  rw [drop_at hx, findN, if_pos (same_iff.2 h)]
theorem findN_no {n : ByteArray} {l : List Tm} {k : Nat} {x : Tm} (hx : l[k]? = some x) (h : x.n ≠ n) : findN n (l.drop k) k = findN n (l.drop (k + 1)) (k + 1) := by
  rw [drop_at hx, findN, if_neg (by rw [same_ne h]; decide)]
theorem findN_end {n : ByteArray} {l : List Tm} : findN n (l.drop l.length) l.length = -1 := by rw [List.drop_length]; rfl

set_option maxRecDepth 100000 in
set_option maxHeartbeats 2000000 in
theorem column_any {w : World} {A : Option Addr} {a : List Co} (c : Nat) (n : ByteArray) (ha : CoR w w.heap.size A a) (hn : ∀ x ∈ a, x.n.size ≤ 140737488355328) (hl : a.length ≤ 140737488355328) :
    Calls Tryd.prog 16 #[.slice A a.length c, .string n] w fun e w' => e = .returned (.tuple #[.agg (coC (colF n a).1), .bool (colF n a).2]) ∧ Below w.heap.size w w' := by
  obtain ⟨X, hX⟩ : ∃ X, (colF n a).1 = X := ⟨_, rfl⟩
  obtain ⟨Y, hY⟩ : ∃ Y, (colF n a).2 = Y := ⟨_, rfl⟩
  rw [hX, hY]
  have HX : Hid (colF n a = (X, Y)) := Prod.ext hX hY
  have HA := Lib.hid ha
  have HN := Lib.hid hn
  have h0 : CB (w.alloc (.cells #[.string ⟨#[]⟩, .int .i64 0, .int .i64 0] 35)) w.heap.size 35 #[.string ⟨#[]⟩, .int .i64 0, .int .i64 0] := CB.new w _ _
  have hB0 : Below w.heap.size w (w.alloc (.cells #[.string ⟨#[]⟩, .int .i64 0, .int .i64 0] 35)) := (Below.refl _ _).alloc (Nat.le_refl _) _
  have H0 := Lib.hid (And.intro h0 hB0)
  clear hX hY ha hn h0 hB0
  go_enter Tryd.func16, Tryd.ntmps16
  go_wp2
  generalize w.alloc (.cells #[.string ⟨#[]⟩, .int .i64 0, .int .i64 0] 35) = W0 at *
  go_loopw [10] (fun i wr => ∃ k : Nat, i = .int .i64 k ∧ k ≤ a.length ∧ Hid (colF n a = colF n (a.drop k)) ∧ Hid (CB wr w.heap.size 35 #[.string ⟨#[]⟩, .int .i64 0, .int .i64 0]) ∧ Hid (Below w.heap.size w wr)) (fun i _ => a.length - (intOf i).toNat)
  case atStart => exact ⟨0, rfl, Nat.zero_le _, by unfold Hid; rw [List.drop_zero], H0.out.1, H0.out.2⟩
  case round =>
    obtain ⟨k, rfl, hk, HI, HR, HB⟩ := hrel
    by_cases hlt : k < a.length
    · have hltz : (k : Int) < (a.length : Int) := by omega
      have k0 : (0 : Int) ≤ (k : Int) := by omega
      obtain ⟨x, hx⟩ : ∃ x, a[k]? = some x := ⟨a[k], List.getElem?_eq_getElem hlt⟩
      obtain ⟨ga, oa, rfl, hga, a0, a1, a2⟩ := CoR.cells (HA.out.below HB.out) hx
      have hr1 := HR.out.below ((Below.refl wr.heap.size wr).alloc (Nat.le_refl _) (.cells (coC x) 35))
      have hB1 : Below w.heap.size w (wr.alloc (.cells (coC x) 35)) := HB.out.alloc HB.out.size _
      have cc := copyOf_any (wr.alloc (.cells (coC x) 35)) x (HN.out x (List.mem_of_getElem? hx))
      have H1 := Lib.hid (And.intro hr1 hB1)
      by_cases hq : x.n = n
      · have e := HX.out.symm.trans (HI.out.trans (colF_yes hx hq))
        injection e with e1 e2
        have e3 := ba_eq hq
        subst e1 e2
        have HQ := Lib.hid hq
        clear hq hx hr1 hB1
        obtain ⟨xn, xt, xk⟩ := X
        unfold coC at cc H1
        dsimp only at cc H1 a0 a1 a2 e3
        go_wp2_with (first
          | (go_at_call 29; refine cc.mono ?_; rintro e w1 ⟨rfl, hb1⟩; have h2 := H1.out.1.below hb1; have hB2 : Below w.heap.size w w1 := H1.out.2.trans (hb1.mono H1.out.2.size))
          | (refine wpList_store_cb rfl 35 (.tmp 4) (.tmp 19) rfl w.heap.size _ #[.string xn, .int .i64 xt, .int .i64 xk] rfl rfl h2 rfl (by kernel_rfl) (by kernel_rfl) ?_; intro w2 j2 t2))
        exact bodyPost_ret (results_cbt rfl _ _ _ _ _ rfl rfl j2 Tryd.underlying35 rfl (by kernel_rfl)) rfl ⟨rfl, hB2.trans (t2.below (Nat.le_refl _))⟩
      · have e := HI.out.trans (colF_no hx hq)
        have e3 := ba_ne hq
        have HE := Lib.hid e
        clear e hq hx hr1 hB1 cc
        obtain ⟨xn, xt, xk⟩ := x
        unfold coC at H1
        dsimp only at *
        go_wp2
        go_roundw
        case rel => exact ⟨k + 1, by go_num, by omega, HE.out, H1.out.1, H1.out.2⟩
        case measure => simp [intOf]; omega
    · obtain rfl : k = a.length := by omega
      have e := HX.out.symm.trans (HI.out.trans colF_end)
      injection e with e1 e2
      subst e1 e2
      have h2 := HR.out
      go_wp2_with (refine wpList_store_cb rfl 35 (.tmp 4) (.tmp 21) rfl w.heap.size _ #[.string ⟨#[]⟩, .int .i64 0, .int .i64 0] rfl rfl h2 rfl (by kernel_rfl) (by kernel_rfl) ?_; intro w2 j2 t2)
      exact bodyPost_ret (results_cbt rfl _ _ _ _ _ rfl rfl j2 Tryd.underlying35 rfl (by kernel_rfl)) rfl ⟨rfl, HB.out.trans (t2.below (Nat.le_refl _))⟩

/-! ### Find -/
set_option maxRecDepth 100000 in
set_option maxHeartbeats 1000000 in
theorem named_any {w : World} {p : Nat} {n : ByteArray} (hp : w.cell? ⟨p, 0, none⟩ = some (.string n)) (hlt : p < w.heap.size) (x : Tm) :
    Calls Tryd.prog 27 #[.agg (tmC x), .pointer (some ⟨p, 0, none⟩)] w fun e w' => e = .returned (.bool (same x.n n)) ∧ Below w.heap.size w w' := by
  have hB : Below w.heap.size w (w.alloc (.cells (tmC x) 48)) := (Below.refl _ _).alloc (Nat.le_refl _) _
  have hp1 : (w.alloc (.cells (tmC x) 48)).cell? ⟨p, 0, none⟩ = some (.string n) := ((Below.cells hB).1 p 0 hlt).trans hp
  by_cases q : x.n = n
  · have e := ba_eq q
    rw [same_iff.2 q]
    clear q hp
    obtain ⟨xn, xv, xA, xc⟩ := x
    unfold tmC at *
    dsimp only at *
    go_enter Tryd.func27, Tryd.ntmps27
    go_wp2
    go_ret
    exact ⟨rfl, hB⟩
  · have e := ba_ne q
    rw [same_ne q]
    clear q hp
    obtain ⟨xn, xv, xA, xc⟩ := x
    unfold tmC at *
    dsimp only at *
    go_enter Tryd.func27, Tryd.ntmps27
    go_wp2
    go_ret
    exact ⟨rfl, hB⟩
set_option maxRecDepth 100000 in
set_option maxHeartbeats 2000000 in
theorem indexF_any {w : World} {p : Nat} {n : ByteArray} (hp : w.cell? ⟨p, 0, none⟩ = some (.string n)) (hlt : p < w.heap.size) {A : Option Addr} {l : List Tm} (c : Nat) (h : Rows tmC 2 w w.heap.size A l) (hl : l.length ≤ 140737488355328) :
    Calls Tryd.prog 26 #[.slice A l.length c, .func (.func 27) #[] #[.pointer (some ⟨p, 0, none⟩)]] w fun e w' => e = .returned (.int .i64 (findI n l)) ∧ Below w.heap.size w w' := by
  have hen : ∀ args w, (callFunc 27 args).run Tryd.prog w = .ok (.enter 27 args) w := fun _ _ => rfl
  obtain ⟨Z, hZ⟩ : ∃ Z, findI n l = Z := ⟨_, rfl⟩
  rw [hZ]
  have HZ := Lib.hid hZ
  have HA := Lib.hid h
  have HP := Lib.hid (And.intro hp hlt)
  clear hZ h hp hlt
  go_enter Tryd.func26, Tryd.ntmps26
  go_wp2
  go_loopw [8] (fun i wr => ∃ k : Nat, i = .int .i64 k ∧ k ≤ l.length ∧ Hid (findI n l = findN n (l.drop k) k) ∧ Below w.heap.size w wr) (fun i _ => l.length - (intOf i).toNat)
  case atStart => exact ⟨0, rfl, Nat.zero_le _, by unfold Hid findI; rw [List.drop_zero], Below.refl _ _⟩
  case round =>
    obtain ⟨k, rfl, hk, HI, hB⟩ := hrel
    by_cases hlt : k < l.length
    · have hltz : (k : Int) < (l.length : Int) := by omega
      have k0 : (0 : Int) ≤ (k : Int) := by omega
      obtain ⟨x, hx⟩ : ∃ x, l[k]? = some x := ⟨l[k], List.getElem?_eq_getElem hlt⟩
      obtain ⟨ga, oa, rfl, hga, a0, a1⟩ := Tm.cells (HA.out.below hB) hx
      have cf := named_any (w := wr) (((Below.cells hB).1 p 0 HP.out.2).trans HP.out.1) (Nat.lt_of_lt_of_le HP.out.2 hB.size) x
      by_cases q : x.n = n
      · rw [same_iff.2 q] at cf
        have HE := Lib.hid (HZ.out.symm.trans (HI.out.trans (findN_yes hx q)))
        clear q hx
        obtain ⟨xn, xv, xA, xc⟩ := x
        unfold tmC at *
        dsimp only at *
        go_wp2_with (go_at_fn 27; refine cf.mono ?_; rintro e w1 ⟨rfl, hb1⟩)
        go_ret
        exact ⟨ret_int HE.out.symm, hB.trans (hb1.mono hB.size)⟩
      · rw [same_ne q] at cf
        have HE := Lib.hid (HI.out.trans (findN_no hx q))
        clear q hx
        obtain ⟨xn, xv, xA, xc⟩ := x
        unfold tmC at *
        dsimp only at *
        go_wp2_with (go_at_fn 27; refine cf.mono ?_; rintro e w1 ⟨rfl, hb1⟩)
        go_roundw
        case rel => exact ⟨k + 1, by go_num, by omega, HE.out, hB.trans (hb1.mono hB.size)⟩
        case measure => simp [intOf]; omega
    · obtain rfl : k = l.length := by omega
      have HE := Lib.hid (HZ.out.symm.trans (HI.out.trans findN_end))
      go_wp2
      go_ret
      exact ⟨ret_int HE.out.symm, hB⟩
set_option maxRecDepth 100000 in
set_option maxHeartbeats 1000000 in
theorem find_any {w : World} {A : Option Addr} {l : List Tm} (c : Nat) (n : ByteArray) (h : Rows tmC 2 w w.heap.size A l) (hl : l.length ≤ 140737488355328) :
    Calls Tryd.prog 11 #[.agg #[.slice A l.length c], .string n] w fun e w' => e = .returned (.int .i64 (findI n l)) ∧ Below w.heap.size w w' := by
  have hmf : ∀ (fn : Fn) (first cap : Array Value) (w : World), (Instr.makeFunc fn first cap).run Tryd.prog w = .ok (.func fn first cap) w := fun _ _ _ _ => rfl
  have hB : Below w.heap.size w ((w.alloc (.cells #[.slice A l.length c] 24)).alloc (.cells #[.string n] 9)) := ((Below.refl _ _).alloc (Nat.le_refl _) _).alloc (by simp) _
  have hp : ((w.alloc (.cells #[.slice A l.length c] 24)).alloc (.cells #[.string n] 9)).cell? ⟨w.heap.size + 1, 0, none⟩ = some (.string n) := by
    have := (CB.new (w.alloc (.cells #[.slice A l.length c] 24)) 9 #[.string n]).at_ 0
    rwa [show (w.alloc (.cells #[.slice A l.length c] 24)).heap.size = w.heap.size + 1 by simp] at this
  have cf := indexF_any (p := w.heap.size + 1) hp (by simp) c ((h.below hB).more hB.size) hl
  clear hp h
  go_enter Tryd.func11, Tryd.ntmps11
  go_wp2_with (go_at_call 26; refine cf.mono ?_; rintro e w1 ⟨rfl, hb1⟩)
  go_ret
  exact ⟨rfl, Below.both hB (hb1.mono (by simp))⟩
end Go.Proofs.YtnflbnchkcigiaaDoor
