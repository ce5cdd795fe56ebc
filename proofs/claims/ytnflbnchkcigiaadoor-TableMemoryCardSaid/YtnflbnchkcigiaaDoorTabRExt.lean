/- The walk of the reference's Extends. -/
import Derived.Test.YtnflbnchkcigiaaDoorTabEqH
import Derived.Test.YtnflbnchkcigiaaDoorTabEqR
import Derived.Test.YtnflbnchkcigiaaDoorTlvRCheck
namespace Go.Proofs.YtnflbnchkcigiaaDoor
open Go.RowKit

theorem begL_len {α : Type} {p : α → α → Bool} {a b : List α} (h : ¬ a.length ≤ b.length) : begL p a b = false := by unfold begL; rw [decide_eq_false h]; rfl
theorem begL_at {α : Type} {p : α → α → Bool} {a b : List α} {k : Nat} {x y : α} (hx : a[k]? = some x) (hy : b[k]? = some y) (h : p x y = false) : begL p a b = false := by
  cases hb : begL p a b with
  | false => rfl
  | true =>
    have := (begL_iff.1 hb).2 k x y hx hy
    rw [h] at this
    cases this
theorem begL_all {α : Type} {p : α → α → Bool} {a b : List α} (hl : a.length ≤ b.length) (h : UpL p a b a.length) : begL p a b = true :=
  begL_iff.2 ⟨hl, fun k x y hx hy => h k x y (List.getElem?_eq_some_iff.1 hx).1 hx hy⟩
theorem begT_name {x y : Tm} (h : x.n ≠ y.n) : begT x y = false := by unfold begT; rw [same_ne h]; rfl
theorem begT_vs {x y : Tm} (h : begL sameV x.vs y.vs = false) : begT x y = false := by unfold begT; rw [h, Bool.and_false]
theorem begT_yes {x y : Tm} (h : x.n = y.n) (hv : begL sameV x.vs y.vs = true) : begT x y = true := by unfold begT; rw [h, same_self, hv]; rfl
theorem sameV_st {x y : Vm} (h : same x.st y.st = false) : sameV x y = false := by unfold sameV; rw [h]; rfl
theorem sameV_co {x y : Vm} (h : same x.co y.co = false) : sameV x y = false := by unfold sameV; rw [h, Bool.and_false]
theorem sameV_yes {x y : Vm} (h : same x.st y.st = true) (hc : same x.co y.co = true) : sameV x y = true := by unfold sameV; rw [h, hc]; rfl

set_option maxRecDepth 100000 in
set_option maxHeartbeats 8000000 in
theorem rext_any {w : World} {A A' : Option Addr} {a b : List Tm} (c c' : Nat) (ha : HsAt w w.heap.size A a) (hb : HsAt w w.heap.size A' b) :
    Calls Tryd.prog 21 #[.agg #[.slice A a.length c], .agg #[.slice A' b.length c']] w fun e w' => e = .returned (.bool (extH a b)) ∧ Below w.heap.size w w' := by
  obtain ⟨E, hE⟩ : ∃ E, extH a b = E := ⟨_, rfl⟩
  rw [hE]
  have HE := Lib.hid hE
  have hB : Below w.heap.size w ((w.alloc (.cells #[.slice A a.length c] 24)).alloc (.cells #[.slice A' b.length c'] 24)) := ((Below.refl _ _).alloc (Nat.le_refl _) _).alloc (by simp) _
  have bx := box2 (w := w) (X := #[.slice A a.length c]) (Y := #[.slice A' b.length c']) (TX := 24) (TY := 24) (Below.refl _ _) 0
  have p0 : ((w.alloc (.cells #[.slice A a.length c] 24)).alloc (.cells #[.slice A' b.length c'] 24)).cell? ⟨w.heap.size, 0, none⟩ = some (.slice A a.length c) := bx.1
  have p1 : ((w.alloc (.cells #[.slice A a.length c] 24)).alloc (.cells #[.slice A' b.length c'] 24)).cell? ⟨w.heap.size + 1, 0, none⟩ = some (.slice A' b.length c') := bx.2
  have hsz : w.heap.size + 1 < ((w.alloc (.cells #[.slice A a.length c] 24)).alloc (.cells #[.slice A' b.length c'] 24)).heap.size := by simp
  have hla := ha.len
  have hlb := hb.len
  have HA := Lib.hid (ha.below hB)
  have HB := Lib.hid (hb.below hB)
  clear hE ha hb bx
  by_cases hlen : a.length ≤ b.length
  case neg =>
    have hlz : (b.length : Int) < (a.length : Int) := by omega
    have hld : decide ((b.length : Int) < (a.length : Int)) = true := decide_eq_true hlz
    have HN := Lib.hid (HE.out.symm.trans (begL_len hlen))
    clear hlen
    go_enter Tryd.func21, Tryd.ntmps21
    go_wp2
    go_ret
    exact ⟨ret_bool HN.out.symm, hB⟩
  have hlz : ¬ (b.length : Int) < (a.length : Int) := by omega
  have hld : decide ((b.length : Int) < (a.length : Int)) = false := decide_eq_false hlz
  have HL := Lib.hid hlen
  have HBW := Lib.hid hB
  have P0 := Lib.hid (And.intro p0 (And.intro p1 hsz))
  clear hlen hB hsz
  go_enter Tryd.func21, Tryd.ntmps21
  go_wp2
  generalize (w.alloc (.cells #[.slice A a.length c] 24)).alloc (.cells #[.slice A' b.length c'] 24) = W0 at *
  clear p0 p1
  go_loopw [5] (fun i wr => ∃ k : Nat, i = .int .i64 k ∧ k ≤ a.length ∧ Hid (UpL begT a b k) ∧ Hid (Below W0.heap.size W0 wr)) (fun i _ => a.length - (intOf i).toNat)
  case atStart => exact ⟨0, rfl, Nat.zero_le _, UpL.zero, Below.refl _ _⟩
  case round =>
    obtain ⟨k, rfl, hk, HT, HW⟩ := hrel
    have hwz := HW.out.size
    have hp0 : wr.cell? ⟨w.heap.size, 0, none⟩ = some (.slice A a.length c) := ((Below.cells HW.out).1 _ _ (by have := P0.out.2.2; omega)).trans P0.out.1
    have hp1 : wr.cell? ⟨w.heap.size + 1, 0, none⟩ = some (.slice A' b.length c') := ((Below.cells HW.out).1 _ _ (by have := P0.out.2.2; omega)).trans P0.out.2.1
    have hlow : w.heap.size + 1 < wr.heap.size := by have := P0.out.2.2; omega
    have hbw : Below w.heap.size W0 wr := HW.out.mono HBW.out.size
    by_cases hlt : k < a.length
    case neg =>
      obtain rfl : k = a.length := by omega
      have HN := Lib.hid (HE.out.symm.trans (begL_all HL.out HT.out))
      go_wp2
      go_ret
      exact ⟨ret_bool HN.out.symm, HBW.out.trans hbw⟩
    have hltb : k < b.length := by have := HL.out; omega
    have hltz : (k : Int) < (a.length : Int) := by omega
    have hltz2 : (k : Int) < (b.length : Int) := by omega
    have k0 : (0 : Int) ≤ (k : Int) := by omega
    obtain ⟨x, hx⟩ : ∃ x, a[k]? = some x := ⟨a[k], List.getElem?_eq_getElem hlt⟩
    obtain ⟨y, hy⟩ : ∃ y, b[k]? = some y := ⟨b[k], List.getElem?_eq_getElem hltb⟩
    have hax := (HA.out.each x (List.mem_of_getElem? hx)).below hbw
    have hby := (HB.out.each y (List.mem_of_getElem? hy)).below hbw
    obtain ⟨ga, oa, rfl, hga, a0, a1⟩ := Tm.cells (HA.out.row.below hbw) hx
    obtain ⟨gb, ob, rfl, hgb, b0, b1⟩ := Tm.cells (HB.out.row.below hbw) hy
    have hold : ∀ d j, d < wr.heap.size → (wr.alloc (.cells (tmC x) 48)).cell? ⟨d, j, none⟩ = wr.cell? ⟨d, j, none⟩ := fun d j hd => (Below.cells ((Below.refl wr.heap.size wr).alloc (Nat.le_refl _) (.cells (tmC x) 48))).1 d j hd
    have b0' := (hold gb (ob + k * 2) (by omega)).trans b0
    have b1' := (hold gb (ob + k * 2 + 1) (by omega)).trans b1
    have hp1' := (hold (w.heap.size + 1) 0 (by omega)).trans hp1
    have hB2 : Below wr.heap.size wr ((wr.alloc (.cells (tmC x) 48)).alloc (.cells (tmC y) 48)) := ((Below.refl _ _).alloc (Nat.le_refl _) _).alloc (by simp) _
    have bx := fun j => box2 (w := wr) (X := tmC x) (Y := tmC y) (TX := 48) (TY := 48) (Below.refl _ _) j
    have hsz2 : wr.heap.size + 1 < ((wr.alloc (.cells (tmC x) 48)).alloc (.cells (tmC y) 48)).heap.size := by simp
    have c00 : ((wr.alloc (.cells (tmC x) 48)).alloc (.cells (tmC y) 48)).cell? ⟨wr.heap.size, 0, none⟩ = some (.string x.n) := (bx 0).1
    have c01 : ((wr.alloc (.cells (tmC x) 48)).alloc (.cells (tmC y) 48)).cell? ⟨wr.heap.size, 1, none⟩ = some (.slice x.A x.vs.length x.c) := (bx 1).1
    have c10 : ((wr.alloc (.cells (tmC x) 48)).alloc (.cells (tmC y) 48)).cell? ⟨wr.heap.size + 1, 0, none⟩ = some (.string y.n) := (bx 0).2
    have c11 : ((wr.alloc (.cells (tmC x) 48)).alloc (.cells (tmC y) 48)).cell? ⟨wr.heap.size + 1, 1, none⟩ = some (.slice y.A y.vs.length y.c) := (bx 1).2
    have hxl := hax.len
    have hyl := hby.len
    have hend : Below w.heap.size w ((wr.alloc (.cells (tmC x) 48)).alloc (.cells (tmC y) 48)) := (HBW.out.trans hbw).trans (hB2.mono (by omega))
    have HX := Lib.hid hx
    have HY := Lib.hid hy
    have HAX := Lib.hid (hax.below (hB2.mono (by omega)))
    have HBY := Lib.hid (hby.below (hB2.mono (by omega)))
    have HEND := Lib.hid hend
    have H2 := Lib.hid (HW.out.trans (hB2.mono hwz))
    have HC := Lib.hid (And.intro c01 (And.intro c11 hsz2))
    have hq1 : w.heap.size ≤ wr.heap.size := by omega
    clear hx hy hax hby hold bx hB2 hend hsz2
    obtain ⟨xn, xv, xA, xc⟩ := x
    obtain ⟨yn, yv, yA, yc⟩ := y
    unfold tmC at *
    dsimp only at *
    by_cases q1 : xn = yn
    case neg =>
      have e1 := ba_ne q1
      have e2 : (xn.toList != yn.toList) = true := by rw [bne, e1]; rfl
      have HN := Lib.hid (HE.out.symm.trans (begL_at HX.out HY.out (begT_name q1)))
      clear q1
      go_wp2
      go_ret
      exact ⟨ret_bool HN.out.symm, HEND.out⟩
    have e1 := ba_eq q1
    have e2 : (xn.toList != yn.toList) = false := by rw [bne, e1]; rfl
    have Q1 := Lib.hid q1
    clear q1
    by_cases q2 : xv.length ≤ yv.length
    case neg =>
      have q2z : (yv.length : Int) < (xv.length : Int) := by omega
      have q2d : decide ((yv.length : Int) < (xv.length : Int)) = true := decide_eq_true q2z
      have HN := Lib.hid (HE.out.symm.trans (begL_at HX.out HY.out (begT_vs (begL_len q2))))
      clear q2
      go_wp2
      go_ret
      exact ⟨ret_bool HN.out.symm, HEND.out⟩
    have q2z : ¬ (yv.length : Int) < (xv.length : Int) := by omega
    have q2d : decide ((yv.length : Int) < (xv.length : Int)) = false := decide_eq_false q2z
    have Q2 := Lib.hid q2
    clear q2
    go_wp2
    generalize (wr.alloc (.cells #[.string xn, .slice xA xv.length xc] 48)).alloc (.cells #[.string yn, .slice yA yv.length yc] 48) = W2 at *
    obtain ⟨wo, hwo⟩ : ∃ wo : World, wo = wr := ⟨_, rfl⟩
    subst hwo
    go_loopw [8] (fun i wz => ∃ j : Nat, i = .int .i64 j ∧ j ≤ xv.length ∧ Hid (UpL sameV xv yv j) ∧ Hid (Below W2.heap.size W2 wz)) (fun i _ => xv.length - (intOf i).toNat)
    case atStart => exact ⟨0, rfl, Nat.zero_le _, UpL.zero, Below.refl _ _⟩
    case round =>
      obtain ⟨j, rfl, hj, HV, HZ⟩ := hrel
      have hz := HZ.out.size
      have hw2 := HC.out.2.2
      have hw3 : w.heap.size ≤ W2.heap.size := HEND.out.size
      have d01 : wr.cell? ⟨wo.heap.size, 1, none⟩ = some (.slice xA xv.length xc) := ((Below.cells HZ.out).1 _ _ (by omega)).trans HC.out.1
      have d11 : wr.cell? ⟨wo.heap.size + 1, 1, none⟩ = some (.slice yA yv.length yc) := ((Below.cells HZ.out).1 _ _ (by omega)).trans HC.out.2.1
      by_cases hjt : j < xv.length
      case neg =>
        obtain rfl : j = xv.length := by omega
        have HN := Lib.hid (HT.out.next HX.out HY.out (begT_yes Q1.out (begL_all Q2.out HV.out)))
        go_wp2
        go_roundw
        case rel => exact ⟨k + 1, by go_num, by omega, HN.out, H2.out.trans (HZ.out.mono H2.out.size)⟩
        case measure => simp [intOf]; omega
      have hjb : j < yv.length := by have := Q2.out; omega
      have jz : (j : Int) < (xv.length : Int) := by omega
      have jz2 : (j : Int) < (yv.length : Int) := by omega
      have j0 : (0 : Int) ≤ (j : Int) := by omega
      obtain ⟨m, hm⟩ : ∃ m, xv[j]? = some m := ⟨xv[j], List.getElem?_eq_getElem hjt⟩
      obtain ⟨n, hn⟩ : ∃ n, yv[j]? = some n := ⟨yv[j], List.getElem?_eq_getElem hjb⟩
      have hbl : Below w.heap.size W2 wr := HZ.out.mono hw3
      obtain ⟨gm, om, rfl, hgm, m0, m1⟩ := Vm.cells (HAX.out.row.below hbl) hm
      obtain ⟨gn, on, rfl, hgn, n0, n1⟩ := Vm.cells (HBY.out.row.below hbl) hn
      have hma := (HAX.out.each m (List.mem_of_getElem? hm)).below hbl
      have hna := (HBY.out.each n (List.mem_of_getElem? hn)).below hbl
      have HM := Lib.hid hm
      have HN := Lib.hid hn
      have HMA := Lib.hid hma
      have HNA := Lib.hid hna
      have dd01 := cell_regrown d01
      have dd11 := cell_regrown d11
      have mm0 := cell_regrown m0
      have mm1 := cell_regrown m1
      have nn0 := cell_regrown n0
      have nn1 := cell_regrown n1
      have cS := fun (d : Nat) (os : Array Obj) => Calls.regrown_of (rsteps_any m.cs n.cs (hma.sr.below ((below_regrown wr d os).mono (by omega))) (hna.sr.below ((below_regrown wr d os).mono (by omega))) hma.sl hna.sl)
      have cC := fun (d : Nat) (os : Array Obj) => Calls.regrown_of (rcols_any m.cc n.cc (hma.cr.below ((below_regrown wr d os).mono (by omega))) (hna.cr.below ((below_regrown wr d os).mono (by omega))) hma.cl hna.cl)
      obtain ⟨ms, mA, mc, mo, mB, md⟩ := m
      obtain ⟨ns, nA, nc, no, nB, nd⟩ := n
      dsimp only at *
      clear hma hna hm hn
      cases hS : same ms ns with
      | false =>
          simp only [hS] at cS
          have HQ := Lib.hid (HE.out.symm.trans (begL_at HX.out HY.out (begT_vs (begL_at HM.out HN.out (sameV_st hS)))))
          clear hS
          go_wp2
          refine wp_region_quiet_below (by kernel_rfl) (by kernel_rfl) ?_
          repeat (go_big_quiet_step (first | (go_at_call 37; exact cS _ _) | (go_at_call 38; exact cC _ _)))
          refine wpQuiet_nil ?_
          intro _ hw'
          obtain ⟨⟨dq, osq⟩, hw''⟩ := hw'
          subst hw''
          go_wp2
          go_ret
          exact ⟨ret_bool HQ.out.symm, HEND.out.trans (hbl.trans ((below_regrown wr dq osq).mono (by omega)))⟩
      | true =>
          simp only [hS] at cS
          cases hC : same mo no with
          | false =>
            simp only [hC] at cC
            have HQ := Lib.hid (HE.out.symm.trans (begL_at HX.out HY.out (begT_vs (begL_at HM.out HN.out (sameV_co hC)))))
            clear hS hC
            go_wp2
            refine wp_region_quiet_below (by kernel_rfl) (by kernel_rfl) ?_
            repeat (go_big_quiet_step (first | (go_at_call 37; exact cS _ _) | (go_at_call 38; exact cC _ _)))
            refine wpQuiet_nil ?_
            intro _ hw'
            obtain ⟨⟨dq, osq⟩, hw''⟩ := hw'
            subst hw''
            go_wp2
            go_ret
            exact ⟨ret_bool HQ.out.symm, HEND.out.trans (hbl.trans ((below_regrown wr dq osq).mono (by omega)))⟩
          | true =>
            simp only [hC] at cC
            have HQ := Lib.hid (HV.out.next HM.out HN.out (sameV_yes hS hC))
            clear hS hC
            go_wp2
            refine wp_region_quiet_below (by kernel_rfl) (by kernel_rfl) ?_
            repeat (go_big_quiet_step (first | (go_at_call 37; exact cS _ _) | (go_at_call 38; exact cC _ _)))
            refine wpQuiet_nil ?_
            intro _ hw'
            obtain ⟨⟨dq, osq⟩, hw''⟩ := hw'
            subst hw''
            go_wp2
            go_roundw
            case rel => exact ⟨j + 1, by go_num, by omega, HQ.out, HZ.out.trans ((below_regrown wr dq osq).mono hz)⟩
            case measure => simp [intOf]; omega
end Go.Proofs.YtnflbnchkcigiaaDoor
