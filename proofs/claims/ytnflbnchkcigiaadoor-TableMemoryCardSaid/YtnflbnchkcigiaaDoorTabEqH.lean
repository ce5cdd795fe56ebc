/- The walks of Extends and of what it calls. -/
import Derived.Test.YtnflbnchkcigiaaDoorTabEqL
import Derived.Test.YtnflbnchkcigiaaDoorCutR
import Derived.Test.YtnflbnchkcigiaaDoorTree
namespace Go.Proofs.YtnflbnchkcigiaaDoor
open Go.RowKit

/-- two blocks that were just made, in a world that only grew -/
theorem box2 {w w1 : World} {X Y : Array Value} {TX TY : TypeId} (hb : Below ((w.alloc (.cells X TX)).alloc (.cells Y TY)).heap.size ((w.alloc (.cells X TX)).alloc (.cells Y TY)) w1) (j : Nat) :
    w1.cell? ⟨w.heap.size, j, none⟩ = X[j]? ∧ w1.cell? ⟨w.heap.size + 1, j, none⟩ = Y[j]? := by
  have h1 := ((CB.new w TX X).below ((Below.refl _ _).alloc (Nat.le_refl _) (.cells Y TY))).below hb
  have h2 := (CB.new (w.alloc (.cells X TX)) TY Y).below hb
  have e : (w.alloc (.cells X TX)).heap.size = w.heap.size + 1 := by simp
  rw [e] at h2
  exact ⟨h1.at_ j, h2.at_ j⟩

set_option maxRecDepth 100000 in
set_option maxHeartbeats 2000000 in
theorem sameV_any {w : World} {B : Nat} {x y : Vm} (hx : VmAt w B x) (hy : VmAt w B y) (hB : B ≤ w.heap.size) :
    Calls Tryd.prog 49 #[.agg (vmC x), .agg (vmC y)] w fun e w' => e = .returned (.bool (sameV x y)) ∧ Below w.heap.size w w' := by
  have hb : Below w.heap.size w ((w.alloc (.cells (vmC x) 45)).alloc (.cells (vmC y) 45)) := ((Below.refl _ _).alloc (Nat.le_refl _) _).alloc (by simp) _
  have cs := fun {W : World} (q : Below w.heap.size w W) => eqSp_any x.cs y.cs ((hx.more hB).below q).sr ((hy.more hB).below q).sr hx.sl hy.sl
  have cc := fun {W : World} (q : Below w.heap.size w W) => eqCo_any x.cc y.cc ((hx.more hB).below q).cr ((hy.more hB).below q).cr hx.cl hy.cl
  unfold sameV
  obtain ⟨S, hS⟩ : ∃ S, same x.st y.st = S := ⟨_, rfl⟩
  obtain ⟨C, hC⟩ : ∃ C, same x.co y.co = C := ⟨_, rfl⟩
  rw [hS, hC]
  simp only [hS] at cs
  simp only [hC] at cc
  clear hS hC hx hy
  obtain ⟨xs, xA, xc, xo, xB, xd⟩ := x
  obtain ⟨ys, yA, yc, yo, yB, yd⟩ := y
  unfold vmC at *
  dsimp only at *
  cases S with
  | true =>
    go_enter Tryd.func49, Tryd.ntmps49
    go_wp2_with (first
      | (go_at_call 65; refine (cs hb).mono ?_; rintro e w1 ⟨rfl, hb1⟩; have d0 : w1.cell? ⟨w.heap.size, 1, none⟩ = some (.slice xB xo.length xd) := (box2 hb1 1).1; have d1 : w1.cell? ⟨w.heap.size + 1, 1, none⟩ = some (.slice yB yo.length yd) := (box2 hb1 1).2; have hb2 : Below w.heap.size w w1 := Below.both hb (hb1.mono (by simp)))
      | (go_at_call 66; refine (cc hb2).mono ?_; rintro e w2 ⟨rfl, hb3⟩))
    go_ret
    exact ⟨ret_bool (Bool.true_and C).symm, Below.both hb2 hb3⟩
  | false =>
    go_enter Tryd.func49, Tryd.ntmps49
    go_wp2_with (go_at_call 65; refine (cs hb).mono ?_; rintro e w1 ⟨rfl, hb1⟩; have d0 : w1.cell? ⟨w.heap.size, 1, none⟩ = some (.slice xB xo.length xd) := (box2 hb1 1).1; have d1 : w1.cell? ⟨w.heap.size + 1, 1, none⟩ = some (.slice yB yo.length yd) := (box2 hb1 1).2; have hb2 : Below w.heap.size w w1 := Below.both hb (hb1.mono (by simp)))
    go_ret
    exact ⟨rfl, hb2⟩

set_option maxRecDepth 100000 in
set_option maxHeartbeats 2000000 in
theorem eqVV_any {w : World} {A A' : Option Addr} {a b : List Vm} (c c' m : Nat) (hm : b.length = m) (ha : Rows vmC 2 w w.heap.size A a) (hb : Rows vmC 2 w w.heap.size A' b) (ea : ∀ x ∈ a, VmAt w w.heap.size x) (eb : ∀ x ∈ b, VmAt w w.heap.size x) (hl : a.length ≤ 140737488355328) (_hl' : m ≤ 140737488355328) :
    Calls Tryd.prog 64 #[.slice A a.length c, .slice A' m c', .func (.func 49) #[] #[]] w fun e w' => e = .returned (.bool (eqL sameV a b)) ∧ Below w.heap.size w w' := by
  have hen : ∀ args w, (callFunc 49 args).run Tryd.prog w = .ok (.enter 49 args) w := fun _ _ => rfl
  obtain ⟨S, hS⟩ : ∃ S, eqL sameV a b = S := ⟨_, rfl⟩
  rw [hS]
  have HS := Lib.hid hS
  have HA := Lib.hid ha
  have HB := Lib.hid hb
  have EA := Lib.hid ea
  have EB := Lib.hid eb
  have HM := Lib.hid hm
  clear hS ha hb ea eb
  by_cases hlen : a.length = m
  · have hlb : ((a.length : Int) != (m : Int)) = false := by rw [hlen]; simp
    have HL := Lib.hid hlen
    clear hlen hm
    go_enter Tryd.func64, Tryd.ntmps64
    go_wp2
    go_loopw [17] (fun i wr => ∃ k : Nat, i = .int .i64 k ∧ k ≤ a.length ∧ Hid (UpL sameV a b k) ∧ Below w.heap.size w wr) (fun i _ => a.length - (intOf i).toNat)
    case atStart => exact ⟨0, rfl, Nat.zero_le _, UpL.zero, Below.refl _ _⟩
    case round =>
      obtain ⟨k, rfl, hk, HT, hB⟩ := hrel
      by_cases hlt : k < a.length
      · have hltb : k < b.length := by have := HL.out; have := HM.out; omega
        have hltz : (k : Int) < (a.length : Int) := by omega
        have hltz2 : (k : Int) < (m : Int) := by have := HM.out; omega
        have k0 : (0 : Int) ≤ (k : Int) := by omega
        obtain ⟨x, hx⟩ : ∃ x, a[k]? = some x := ⟨a[k], List.getElem?_eq_getElem hlt⟩
        obtain ⟨y, hy⟩ : ∃ y, b[k]? = some y := ⟨b[k], List.getElem?_eq_getElem hltb⟩
        obtain ⟨ga, oa, rfl, hga, a0, a1⟩ := Vm.cells (HA.out.below hB) hx
        have hB1 : Below w.heap.size w (wr.alloc (.cells (vmC x) 45)) := hB.alloc hB.size _
        obtain ⟨gb, ob, rfl, hgb, b0, b1⟩ := Vm.cells (HB.out.below hB1) hy
        have hB2 : Below w.heap.size w ((wr.alloc (.cells (vmC x) 45)).alloc (.cells (vmC y) 45)) := hB1.alloc hB1.size _
        have HX := Lib.hid hx
        have HY := Lib.hid hy
        have cf := sameV_any (((EA.out x (List.mem_of_getElem? hx)).below hB2)) (((EB.out y (List.mem_of_getElem? hy)).below hB2)) hB2.size
        clear hx hy hltb
        cases hp : sameV x y with
        | true =>
          rw [hp] at cf
          have HN := Lib.hid (HT.out.next HX.out HY.out hp)
          clear hp HX HY
          obtain ⟨x1, x2, x3, x4, x5, x6⟩ := x
          obtain ⟨y1, y2, y3, y4, y5, y6⟩ := y
          unfold vmC at *
          dsimp only at *
          go_wp2_with (go_at_fn 49; refine cf.mono ?_; rintro e w1 ⟨rfl, hb1⟩)
          go_roundw
          case rel => exact ⟨k + 1, by go_num, by omega, HN.out, hB2.trans (hb1.mono hB2.size)⟩
          case measure => simp [intOf]; omega
        | false =>
          rw [hp] at cf
          have HN := Lib.hid ((eqL_at HX.out HY.out hp).symm.trans HS.out)
          clear hp HX HY
          obtain ⟨x1, x2, x3, x4, x5, x6⟩ := x
          obtain ⟨y1, y2, y3, y4, y5, y6⟩ := y
          unfold vmC at *
          dsimp only at *
          go_wp2_with (go_at_fn 49; refine cf.mono ?_; rintro e w1 ⟨rfl, hb1⟩)
          go_ret
          exact ⟨ret_bool HN.out, hB2.trans (hb1.mono hB2.size)⟩
      · obtain rfl : k = a.length := by omega
        have HN := Lib.hid ((UpL.all HT.out (HL.out.trans HM.out.symm)).symm.trans HS.out)
        go_wp2
        go_ret
        exact ⟨ret_bool HN.out, hB⟩
  · have hlb : ((a.length : Int) != (m : Int)) = true := by simp; omega
    have HN := Lib.hid ((eqL_len (by omega)).symm.trans HS.out)
    clear hlen hm
    go_enter Tryd.func64, Tryd.ntmps64
    go_wp2
    go_ret
    exact ⟨ret_bool HN.out, Below.refl _ _⟩

theorem infoVm : (Tryd.prog.info? 45).map (·.size) = some 2 := by kernel_rfl
set_option maxRecDepth 100000 in
set_option maxHeartbeats 2000000 in
theorem begVV_any {w : World} {A A' : Option Addr} {a b : List Vm} (c c' : Nat) (ha : Rows vmC 2 w w.heap.size A a) (hb : Rows vmC 2 w w.heap.size A' b) (ea : ∀ x ∈ a, VmAt w w.heap.size x) (eb : ∀ x ∈ b, VmAt w w.heap.size x) (hl : a.length ≤ 140737488355328) (_hl' : b.length ≤ 140737488355328) (hc : b.length ≤ c') :
    Calls Tryd.prog 48 #[.slice A a.length c, .slice A' b.length c', .func (.func 49) #[] #[]] w fun e w' => e = .returned (.bool (begL sameV a b)) ∧ Below w.heap.size w w' := by
  by_cases hlen : a.length ≤ b.length
  · have hcut := CR.run_h (P := Tryd.prog) (s := 2) Tryd.underlying46 infoVm A' b.length c' a.length (by omega)
    have ce := eqVV_any c c' a.length (by rw [List.length_take]; omega) ha (hb.take a.length) ea (fun x hx => eb x (List.mem_of_mem_take hx)) hl hl
    have hle : decide ((a.length : Int) ≤ (b.length : Int)) = true := decide_eq_true (by omega)
    have hlez : (a.length : Int) ≤ (b.length : Int) := by omega
    obtain ⟨S, hS⟩ : ∃ S, eqL sameV a (b.take a.length) = S := ⟨_, rfl⟩
    unfold begL
    rw [hS, decide_eq_true hlen, Bool.true_and]
    rw [hS] at ce
    clear hS ha hb ea eb
    go_enter Tryd.func48, Tryd.ntmps48
    go_wp2_with (go_at_call 64; refine ce.mono ?_; rintro e w1 ⟨rfl, hb1⟩)
    go_ret
    exact ⟨rfl, hb1⟩
  · have hle : ¬ (a.length : Int) ≤ (b.length : Int) := by omega
    have hld : decide ((a.length : Int) ≤ (b.length : Int)) = false := decide_eq_false hle
    unfold begL
    rw [decide_eq_false hlen, Bool.false_and]
    clear ha hb ea eb hlen
    go_enter Tryd.func48, Tryd.ntmps48
    go_wp2
    go_ret
    exact ⟨rfl, Below.refl _ _⟩

set_option maxRecDepth 100000 in
set_option maxHeartbeats 2000000 in
theorem begT_any {w : World} {B : Nat} {x y : Tm} (hx : TmAt w B x) (hy : TmAt w B y) (hB : B ≤ w.heap.size) :
    Calls Tryd.prog 36 #[.agg (tmC x), .agg (tmC y)] w fun e w' => e = .returned (.bool (begT x y)) ∧ Below w.heap.size w w' := by
  have hb : Below w.heap.size w ((w.alloc (.cells (tmC x) 48)).alloc (.cells (tmC y) 48)) := ((Below.refl _ _).alloc (Nat.le_refl _) _).alloc (by simp) _
  have kx := (hx.more (Nat.le_trans hB hb.size)).below (w' := (w.alloc (.cells (tmC x) 48)).alloc (.cells (tmC y) 48))
  have hx1 := ((hx.below (hb.mono hB)).more (Nat.le_trans hB hb.size))
  have hy1 := ((hy.below (hb.mono hB)).more (Nat.le_trans hB hb.size))
  have cv := begVV_any x.c y.c hx1.row hy1.row hx1.each hy1.each hx.len hy.len hy.cap
  unfold begT
  obtain ⟨C, hC⟩ : ∃ C, begL sameV x.vs y.vs = C := ⟨_, rfl⟩
  rw [hC] at cv ⊢
  clear hC hx hy hx1 hy1 kx
  obtain ⟨xn, xv, xA, xc⟩ := x
  obtain ⟨yn, yv, yA, yc⟩ := y
  unfold tmC at *
  dsimp only at *
  by_cases q : xn = yn
  · have e1 := ba_eq q
    rw [q, same_self, Bool.true_and]
    subst q
    go_enter Tryd.func36, Tryd.ntmps36
    go_wp2_with (go_at_call 48; refine cv.mono ?_; rintro e w1 ⟨rfl, hb1⟩)
    go_ret
    exact ⟨rfl, Below.both hb (hb1.mono (by simp))⟩
  · have e1 := ba_ne q
    rw [same_ne q, Bool.false_and]
    go_enter Tryd.func36, Tryd.ntmps36
    go_wp2
    go_ret
    exact ⟨rfl, hb⟩

set_option maxRecDepth 100000 in
set_option maxHeartbeats 2000000 in
theorem eqTT_any {w : World} {A A' : Option Addr} {a b : List Tm} (c c' m : Nat) (hm : b.length = m) (ha : Rows tmC 2 w w.heap.size A a) (hb : Rows tmC 2 w w.heap.size A' b) (ea : ∀ x ∈ a, TmAt w w.heap.size x) (eb : ∀ x ∈ b, TmAt w w.heap.size x) (hl : a.length ≤ 140737488355328) (_hl' : m ≤ 140737488355328) :
    Calls Tryd.prog 47 #[.slice A a.length c, .slice A' m c', .func (.func 36) #[] #[]] w fun e w' => e = .returned (.bool (eqL begT a b)) ∧ Below w.heap.size w w' := by
  have hen : ∀ args w, (callFunc 36 args).run Tryd.prog w = .ok (.enter 36 args) w := fun _ _ => rfl
  obtain ⟨S, hS⟩ : ∃ S, eqL begT a b = S := ⟨_, rfl⟩
  rw [hS]
  have HS := Lib.hid hS
  have HA := Lib.hid ha
  have HB := Lib.hid hb
  have EA := Lib.hid ea
  have EB := Lib.hid eb
  have HM := Lib.hid hm
  clear hS ha hb ea eb
  by_cases hlen : a.length = m
  · have hlb : ((a.length : Int) != (m : Int)) = false := by rw [hlen]; simp
    have HL := Lib.hid hlen
    clear hlen hm
    go_enter Tryd.func47, Tryd.ntmps47
    go_wp2
    go_loopw [17] (fun i wr => ∃ k : Nat, i = .int .i64 k ∧ k ≤ a.length ∧ Hid (UpL begT a b k) ∧ Below w.heap.size w wr) (fun i _ => a.length - (intOf i).toNat)
    case atStart => exact ⟨0, rfl, Nat.zero_le _, UpL.zero, Below.refl _ _⟩
    case round =>
      obtain ⟨k, rfl, hk, HT, hB⟩ := hrel
      by_cases hlt : k < a.length
      · have hltb : k < b.length := by have := HL.out; have := HM.out; omega
        have hltz : (k : Int) < (a.length : Int) := by omega
        have hltz2 : (k : Int) < (m : Int) := by have := HM.out; omega
        have k0 : (0 : Int) ≤ (k : Int) := by omega
        obtain ⟨x, hx⟩ : ∃ x, a[k]? = some x := ⟨a[k], List.getElem?_eq_getElem hlt⟩
        obtain ⟨y, hy⟩ : ∃ y, b[k]? = some y := ⟨b[k], List.getElem?_eq_getElem hltb⟩
        obtain ⟨ga, oa, rfl, hga, a0, a1⟩ := Tm.cells (HA.out.below hB) hx
        have hB1 : Below w.heap.size w (wr.alloc (.cells (tmC x) 48)) := hB.alloc hB.size _
        obtain ⟨gb, ob, rfl, hgb, b0, b1⟩ := Tm.cells (HB.out.below hB1) hy
        have hB2 : Below w.heap.size w ((wr.alloc (.cells (tmC x) 48)).alloc (.cells (tmC y) 48)) := hB1.alloc hB1.size _
        have HX := Lib.hid hx
        have HY := Lib.hid hy
        have cf := begT_any (((EA.out x (List.mem_of_getElem? hx)).below hB2)) (((EB.out y (List.mem_of_getElem? hy)).below hB2)) hB2.size
        clear hx hy hltb
        cases hp : begT x y with
        | true =>
          rw [hp] at cf
          have HN := Lib.hid (HT.out.next HX.out HY.out hp)
          clear hp HX HY
          obtain ⟨x1, x2, x3, x4⟩ := x
          obtain ⟨y1, y2, y3, y4⟩ := y
          unfold tmC at *
          dsimp only at *
          go_wp2_with (go_at_fn 36; refine cf.mono ?_; rintro e w1 ⟨rfl, hb1⟩)
          go_roundw
          case rel => exact ⟨k + 1, by go_num, by omega, HN.out, hB2.trans (hb1.mono hB2.size)⟩
          case measure => simp [intOf]; omega
        | false =>
          rw [hp] at cf
          have HN := Lib.hid ((eqL_at HX.out HY.out hp).symm.trans HS.out)
          clear hp HX HY
          obtain ⟨x1, x2, x3, x4⟩ := x
          obtain ⟨y1, y2, y3, y4⟩ := y
          unfold tmC at *
          dsimp only at *
          go_wp2_with (go_at_fn 36; refine cf.mono ?_; rintro e w1 ⟨rfl, hb1⟩)
          go_ret
          exact ⟨ret_bool HN.out, hB2.trans (hb1.mono hB2.size)⟩
      · obtain rfl : k = a.length := by omega
        have HN := Lib.hid ((UpL.all HT.out (HL.out.trans HM.out.symm)).symm.trans HS.out)
        go_wp2
        go_ret
        exact ⟨ret_bool HN.out, hB⟩
  · have hlb : ((a.length : Int) != (m : Int)) = true := by simp; omega
    have HN := Lib.hid ((eqL_len (by omega)).symm.trans HS.out)
    clear hlen hm
    go_enter Tryd.func47, Tryd.ntmps47
    go_wp2
    go_ret
    exact ⟨ret_bool HN.out, Below.refl _ _⟩

theorem infoTm : (Tryd.prog.info? 48).map (·.size) = some 2 := by kernel_rfl
set_option maxRecDepth 100000 in
set_option maxHeartbeats 2000000 in
theorem begTT_any {w : World} {A A' : Option Addr} {a b : List Tm} (c c' : Nat) (ha : Rows tmC 2 w w.heap.size A a) (hb : Rows tmC 2 w w.heap.size A' b) (ea : ∀ x ∈ a, TmAt w w.heap.size x) (eb : ∀ x ∈ b, TmAt w w.heap.size x) (hl : a.length ≤ 140737488355328) (_hl' : b.length ≤ 140737488355328) (hc : b.length ≤ c') :
    Calls Tryd.prog 35 #[.slice A a.length c, .slice A' b.length c', .func (.func 36) #[] #[]] w fun e w' => e = .returned (.bool (begL begT a b)) ∧ Below w.heap.size w w' := by
  by_cases hlen : a.length ≤ b.length
  · have hcut := CR.run_h (P := Tryd.prog) (s := 2) Tryd.underlying22 infoTm A' b.length c' a.length (by omega)
    have ce := eqTT_any c c' a.length (by rw [List.length_take]; omega) ha (hb.take a.length) ea (fun x hx => eb x (List.mem_of_mem_take hx)) hl hl
    have hle : decide ((a.length : Int) ≤ (b.length : Int)) = true := decide_eq_true (by omega)
    have hlez : (a.length : Int) ≤ (b.length : Int) := by omega
    obtain ⟨S, hS⟩ : ∃ S, eqL begT a (b.take a.length) = S := ⟨_, rfl⟩
    unfold begL
    rw [hS, decide_eq_true hlen, Bool.true_and]
    rw [hS] at ce
    clear hS ha hb ea eb
    go_enter Tryd.func35, Tryd.ntmps35
    go_wp2_with (go_at_call 47; refine ce.mono ?_; rintro e w1 ⟨rfl, hb1⟩)
    go_ret
    exact ⟨rfl, hb1⟩
  · have hle : ¬ (a.length : Int) ≤ (b.length : Int) := by omega
    have hld : decide ((a.length : Int) ≤ (b.length : Int)) = false := decide_eq_false hle
    unfold begL
    rw [decide_eq_false hlen, Bool.false_and]
    clear ha hb ea eb hlen
    go_enter Tryd.func35, Tryd.ntmps35
    go_wp2
    go_ret
    exact ⟨rfl, Below.refl _ _⟩

set_option maxRecDepth 100000 in
set_option maxHeartbeats 2000000 in
/-- Extends of any two histories -/
theorem ext_any {w : World} {A A' : Option Addr} {a b : List Tm} (c c' : Nat) (ha : HsAt w w.heap.size A a) (hb : HsAt w w.heap.size A' b) (hc : b.length ≤ c') :
    Calls Tryd.prog 20 #[.agg #[.slice A a.length c], .agg #[.slice A' b.length c']] w fun e w' => e = .returned (.bool (extH a b)) ∧ Below w.heap.size w w' := by
  have hB : Below w.heap.size w ((w.alloc (.cells #[.slice A a.length c] 24)).alloc (.cells #[.slice A' b.length c'] 24)) := ((Below.refl _ _).alloc (Nat.le_refl _) _).alloc (by simp) _
  have ha1 := ha.then_ hB
  have hb1 := hb.then_ hB
  have cv := begTT_any c c' ha1.row hb1.row ha1.each hb1.each ha.len hb.len hc
  unfold extH
  obtain ⟨C, hC⟩ : ∃ C, begL begT a b = C := ⟨_, rfl⟩
  rw [hC] at cv ⊢
  clear hC ha hb ha1 hb1
  go_enter Tryd.func20, Tryd.ntmps20
  go_wp2_with (go_at_call 35; refine cv.mono ?_; rintro e w1 ⟨rfl, hb1⟩)
  go_ret
  exact ⟨rfl, Below.both hB (hb1.mono (by simp))⟩
end Go.Proofs.YtnflbnchkcigiaaDoor
