/- The walk of TableCounts. -/
import Derived.Test.YtnflbnchkcigiaaDoorTabLaw1
namespace Go.Proofs.YtnflbnchkcigiaaDoor
open Go.RowKit

/-- what findI tells -/
theorem findN_tells {n : ByteArray} : ∀ (l : List Tm) (k : Nat), (∃ j x, findN n l k = ((k + j : Nat) : Int) ∧ l[j]? = some x ∧ x.n = n ∧ ∀ i y, i < j → l[i]? = some y → y.n ≠ n) ∨ (findN n l k = -1 ∧ ∀ x ∈ l, x.n ≠ n)
  | [], k => .inr ⟨rfl, fun x hx => (List.not_mem_nil hx).elim⟩
  | x :: r, k => by
    by_cases h : x.n = n
    · exact .inl ⟨0, x, by rw [findN, if_pos (same_iff.2 h)]; rfl, rfl, h, fun i y hi => absurd hi (Nat.not_lt_zero _)⟩
    · have e : findN n (x :: r) k = findN n r (k + 1) := by rw [findN, if_neg (by rw [same_ne h]; decide)]
      rcases findN_tells r (k + 1) with ⟨j, y, h1, h2, h3, h4⟩ | ⟨h1, h2⟩
      · refine .inl ⟨j + 1, y, by rw [e, h1]; congr 1; omega, by rw [List.getElem?_cons_succ]; exact h2, h3, fun i z hi hz => ?_⟩
        cases i with
        | zero =>
          rw [List.getElem?_cons_zero] at hz
          cases hz
          exact h
        | succ i =>
          rw [List.getElem?_cons_succ] at hz
          exact h4 i z (by omega) hz
      · refine .inr ⟨by rw [e, h1], fun y hy => ?_⟩
        rcases List.mem_cons.1 hy with rfl | hy
        · exact h
        · exact h2 y hy
theorem findI_there {l : List Tm} {T : Nat} {x : Tm} (hx : l[T]? = some x) : ∃ (j : Nat) (y : Tm), findI x.n l = (j : Int) ∧ j ≤ T ∧ l[j]? = some y ∧ y.n = x.n ∧ ∀ i z, i < j → l[i]? = some z → z.n ≠ x.n := by
  rcases findN_tells (n := x.n) l 0 with ⟨j, y, h1, h2, h3, h4⟩ | ⟨_, h2⟩
  · refine ⟨j, y, by unfold findI; rw [h1, Nat.zero_add], ?_, h2, h3, h4⟩
    rcases Nat.lt_or_ge T j with h | h
    · exact absurd rfl (h4 T x h hx)
    · exact h
  · exact absurd rfl (h2 x (List.mem_of_getElem? hx))
theorem colsR_err {l : List Tm} {T : Nat} {v : Int} {x : Tm} (hx : l[T]? = some x) : (colsR l (T : Int) v).2 = if 1 ≤ v ∧ v ≤ (x.vs.length : Int) then 0 else 132 := by
  by_cases h1 : v < 1
  · rw [colsR_low hx h1, if_neg (by omega)]
  · obtain ⟨U, rfl⟩ : ∃ U : Nat, v = ((U + 1 : Nat) : Int) := ⟨(v - 1).toNat, by omega⟩
    rcases Nat.lt_or_ge U x.vs.length with h | h
    · rw [colsR_ok hx (List.getElem?_eq_getElem h), if_pos (by omega)]
    · rw [colsR_high hx (List.getElem?_eq_none h), if_neg (by omega)]

set_option maxRecDepth 100000 in
set_option maxHeartbeats 4000000 in
theorem countslaw_any {w : World} (h : KSt w w) {A : Option Addr} {l : List Tm} (c : Nat) (t v : Int) (ha : HsAt w w.heap.size A l) (hf : Hfit l) :
    Calls Tryd.prog 7 #[.agg #[.slice A l.length c], .int .i64 t, .int .i64 v] w (Yes w) := by
  have hB : Below w.heap.size w (w.alloc (.cells #[.slice A l.length c] 24)) := (Below.refl _ _).alloc (Nat.le_refl _) _
  have k := CB.new w 24 #[.slice A l.length c]
  have c1 := awake_any (h.then_ hB)
  have hln := ha.len
  go_enter Tryd.func7, Tryd.ntmps7
  go_wp2_with fail
  refine c1.mono ?_
  rintro e w1 ⟨rfl, hb1⟩
  have k1 := k.below hb1
  have hB1 : Below w.heap.size w w1 := Below.both hB hb1
  have HA := Lib.hid (ha.then_ hB1)
  have B1 := Lib.hid hB1
  have K1 := Lib.hid k1
  have HF := Lib.hid hf
  have p0 : w1.cell? ⟨w.heap.size, 0, none⟩ = some (.slice A l.length c) := k1.at_ 0
  have C2 := columns_any c t v HA.out hf
  obtain ⟨R, hR⟩ : ∃ R, (colsR l t v).1 = R := ⟨_, rfl⟩
  obtain ⟨E, hE⟩ : ∃ E, (colsR l t v).2 = E := ⟨_, rfl⟩
  rw [hR, hE] at C2
  have HE := Lib.hid hE
  clear c1 hb1 hB hB1 ha h k k1 hf hR hE
  go_wp2_with fail
  refine C2.mono ?_
  rintro e w2 ⟨A2, c2, rfl, n2⟩
  clear C2 p0
  have k2 := K1.out.below n2.old
  have p0 : w2.cell? ⟨w.heap.size, 0, none⟩ = some (.slice A l.length c) := k2.at_ 0
  have A2h := Lib.hid (HA.out.then_ n2.old)
  have B2 := Lib.hid (B1.out.trans (n2.old.mono B1.out.size))
  have K2 := Lib.hid k2
  clear n2 k2 HA B1 K1
  by_cases q1 : t < 0
  · have q1d : decide (t < 0) = true := decide_eq_true q1
    have e1 := HE.out
    rw [colsR_neg q1] at e1
    dsimp only at e1
    subst e1
    clear HE
    go_wp2
    go_ret
    exact ⟨rfl, B2.out⟩
  obtain ⟨T, rfl⟩ : ∃ T : Nat, t = (T : Int) := ⟨t.toNat, by omega⟩
  have q1d : decide ((T : Int) < 0) = false := decide_eq_false q1
  by_cases q2 : T < l.length
  case neg =>
    have q2z : (l.length : Int) ≤ (T : Int) := by omega
    have q2d : decide ((l.length : Int) ≤ (T : Int)) = true := decide_eq_true q2z
    have e1 := HE.out
    rw [colsR_none (List.getElem?_eq_none (by omega))] at e1
    dsimp only at e1
    subst e1
    clear HE
    go_wp2
    go_ret
    exact ⟨rfl, B2.out⟩
  obtain ⟨x, hx⟩ : ∃ x, l[T]? = some x := ⟨l[T], List.getElem?_eq_getElem q2⟩
  have q2z : ¬ (l.length : Int) ≤ (T : Int) := by omega
  have q2d : decide ((l.length : Int) ≤ (T : Int)) = false := decide_eq_false q2z
  have q2y : (T : Int) < (l.length : Int) := by omega
  have T0 : (0 : Int) ≤ (T : Int) := by omega
  obtain ⟨g, o, rfl, hg, x0, x1⟩ := Tm.cells A2h.out.row hx
  have hxl := (A2h.out.each x (List.mem_of_getElem? hx)).len
  have e1 := HE.out
  rw [colsR_err hx] at e1
  obtain ⟨j, y, f1, f2, f3, f4, f5⟩ := findI_there hx
  have hjl : j < l.length := by omega
  have hal : Below w2.heap.size w2 (w2.alloc (.cells (tmC x) 48)) := (Below.refl _ _).alloc (Nat.le_refl _) _
  have A3 := Lib.hid (A2h.out.then_ hal)
  have B3 := Lib.hid (B2.out.trans (hal.mono B2.out.size))
  have k3 := K2.out.below hal
  have t3 := CB.new w2 48 (tmC x)
  have C4 := find_any c x.n A3.out.row A3.out.len
  rw [f1] at C4
  have p0' : (w2.alloc (.cells (tmC x) 48)).cell? ⟨w.heap.size, 0, none⟩ = some (.slice (some ⟨g, o, none⟩) l.length c) := k3.at_ 0
  have K3 := Lib.hid (And.intro k3 t3)
  have HJ := Lib.hid (And.intro f3 (And.intro f4 f5))
  have E1 := Lib.hid e1
  clear hx f1 f3 f4 f5 e1 HE hal k3 t3 K2 B2 A2h
  obtain ⟨xn, xv, xA, xc⟩ := x
  unfold tmC at *
  dsimp only at *
  by_cases q3 : v < 1
  · have q3d : decide (1 ≤ v) = false := decide_eq_false (by omega)
    have q3z : ¬ 1 ≤ v := by omega
    have e1 := E1.out
    rw [if_neg (by omega)] at e1
    subst e1
    go_wp2_with fail
    refine C4.mono ?_
    rintro e w4 ⟨rfl, hb4⟩
    clear C4
    have k4 := K3.out.1.below hb4
    have t4 := K3.out.2.below hb4
    have A4 := Lib.hid (A3.out.then_ hb4)
    have B4 := Lib.hid (B3.out.trans (hb4.mono B3.out.size))
    obtain ⟨_, _, hA4, _, y0, _⟩ := Tm.cells A4.out.row HJ.out.1
    injection hA4 with hA4
    injection hA4 with e1 e2
    subst e1 e2
    rw [HJ.out.2.1] at y0
    have p0 : w4.cell? ⟨w.heap.size, 0, none⟩ = some (.slice (some ⟨g, o, none⟩) l.length c) := k4.at_ 0
    have t0 : w4.cell? ⟨w2.heap.size, 0, none⟩ = some (.string xn) := t4.at_ 0
    have j0 : decide ((j : Int) < 0) = false := decide_eq_false (by omega)
    have j1 : decide ((T : Int) < (j : Int)) = false := decide_eq_false (by omega)
    have j1n : decide (T < j) = false := decide_eq_false (by omega)
    have j1m : ¬ T < j := by omega
    have j2 : (0 : Int) ≤ (j : Int) := by omega
    have j3 : (j : Int) < (l.length : Int) := by omega
    have nn : (xn.toList != xn.toList) = false := bne_self_eq_false _
    clear hb4 k4 t4 A3 B3 K3 p0' x0 x1
    go_wp2
    go_quiet (fail)
    go_wp2
    go_loopw [11] (fun i wr => ∃ k : Nat, i = .int .i64 k ∧ k ≤ j ∧ ∃ d, wr = w4.drewN d) (fun i _ => j - (intOf i).toNat)
    case atStart => exact ⟨0, rfl, Nat.zero_le _, _, rfl⟩
    case round =>
      obtain ⟨k, rfl, hk, d, rfl⟩ := hrel
      by_cases hlt : k < j
      · obtain ⟨z, hz⟩ : ∃ z, l[k]? = some z := ⟨l[k], List.getElem?_eq_getElem (by omega)⟩
        obtain ⟨_, _, hA4, _, z0, _⟩ := Tm.cells A4.out.row hz
        injection hA4 with hA4
        injection hA4 with e1 e2
        subst e1 e2
        have zn : (z.n.toList == xn.toList) = false := ba_ne (HJ.out.2.2 k z hlt hz)
        have z0' : (w4.drewN d).cell? ⟨g, o + k * 2, none⟩ = some (.string z.n) := z0
        have p0' : (w4.drewN d).cell? ⟨w.heap.size, 0, none⟩ = some (.slice (some ⟨g, o, none⟩) l.length c) := p0
        have t0' : (w4.drewN d).cell? ⟨w2.heap.size, 0, none⟩ = some (.string xn) := t0
        have k0 : (0 : Int) ≤ (k : Int) := by omega
        have k1 : (k : Int) < (l.length : Int) := by omega
        have k2 : (k : Int) < (j : Int) := by omega
        clear hz y0
        go_wp2
        go_quiet (fail)
        go_wp2
        go_roundw
        case rel => exact ⟨k + 1, by go_num, by omega, _, rfl⟩
        case measure => simp [intOf]; omega
      · obtain rfl : k = j := by omega
        clear y0
        go_wp2
        go_ret
        exact ⟨rfl, Below.thenN B4.out _⟩
  have q3d : decide (1 ≤ v) = true := decide_eq_true (by omega)
  have q3z : 1 ≤ v := by omega
  by_cases q4 : v ≤ (xv.length : Int)
  · have q4d : decide (v ≤ (xv.length : Int)) = true := decide_eq_true q4
    have e1 := E1.out
    rw [if_pos ⟨by omega, by omega⟩] at e1
    subst e1
    go_wp2_with fail
    refine C4.mono ?_
    rintro e w4 ⟨rfl, hb4⟩
    clear C4
    have k4 := K3.out.1.below hb4
    have t4 := K3.out.2.below hb4
    have A4 := Lib.hid (A3.out.then_ hb4)
    have B4 := Lib.hid (B3.out.trans (hb4.mono B3.out.size))
    obtain ⟨_, _, hA4, _, y0, _⟩ := Tm.cells A4.out.row HJ.out.1
    injection hA4 with hA4
    injection hA4 with e1 e2
    subst e1 e2
    rw [HJ.out.2.1] at y0
    have p0 : w4.cell? ⟨w.heap.size, 0, none⟩ = some (.slice (some ⟨g, o, none⟩) l.length c) := k4.at_ 0
    have t0 : w4.cell? ⟨w2.heap.size, 0, none⟩ = some (.string xn) := t4.at_ 0
    have j0 : decide ((j : Int) < 0) = false := decide_eq_false (by omega)
    have j1 : decide ((T : Int) < (j : Int)) = false := decide_eq_false (by omega)
    have j1n : decide (T < j) = false := decide_eq_false (by omega)
    have j1m : ¬ T < j := by omega
    have j2 : (0 : Int) ≤ (j : Int) := by omega
    have j3 : (j : Int) < (l.length : Int) := by omega
    have nn : (xn.toList != xn.toList) = false := bne_self_eq_false _
    clear hb4 k4 t4 A3 B3 K3 p0' x0 x1
    go_wp2
    go_quiet (fail)
    go_wp2
    go_loopw [11] (fun i wr => ∃ k : Nat, i = .int .i64 k ∧ k ≤ j ∧ ∃ d, wr = w4.drewN d) (fun i _ => j - (intOf i).toNat)
    case atStart => exact ⟨0, rfl, Nat.zero_le _, _, rfl⟩
    case round =>
      obtain ⟨k, rfl, hk, d, rfl⟩ := hrel
      by_cases hlt : k < j
      · obtain ⟨z, hz⟩ : ∃ z, l[k]? = some z := ⟨l[k], List.getElem?_eq_getElem (by omega)⟩
        obtain ⟨_, _, hA4, _, z0, _⟩ := Tm.cells A4.out.row hz
        injection hA4 with hA4
        injection hA4 with e1 e2
        subst e1 e2
        have zn : (z.n.toList == xn.toList) = false := ba_ne (HJ.out.2.2 k z hlt hz)
        have z0' : (w4.drewN d).cell? ⟨g, o + k * 2, none⟩ = some (.string z.n) := z0
        have p0' : (w4.drewN d).cell? ⟨w.heap.size, 0, none⟩ = some (.slice (some ⟨g, o, none⟩) l.length c) := p0
        have t0' : (w4.drewN d).cell? ⟨w2.heap.size, 0, none⟩ = some (.string xn) := t0
        have k0 : (0 : Int) ≤ (k : Int) := by omega
        have k1 : (k : Int) < (l.length : Int) := by omega
        have k2 : (k : Int) < (j : Int) := by omega
        clear hz y0
        go_wp2
        go_quiet (fail)
        go_wp2
        go_roundw
        case rel => exact ⟨k + 1, by go_num, by omega, _, rfl⟩
        case measure => simp [intOf]; omega
      · obtain rfl : k = j := by omega
        clear y0
        go_wp2
        go_ret
        exact ⟨rfl, Below.thenN B4.out _⟩
  · have q4d : decide (v ≤ (xv.length : Int)) = false := decide_eq_false q4
    have e1 := E1.out
    rw [if_neg (by omega)] at e1
    subst e1
    go_wp2_with fail
    refine C4.mono ?_
    rintro e w4 ⟨rfl, hb4⟩
    clear C4
    have k4 := K3.out.1.below hb4
    have t4 := K3.out.2.below hb4
    have A4 := Lib.hid (A3.out.then_ hb4)
    have B4 := Lib.hid (B3.out.trans (hb4.mono B3.out.size))
    obtain ⟨_, _, hA4, _, y0, _⟩ := Tm.cells A4.out.row HJ.out.1
    injection hA4 with hA4
    injection hA4 with e1 e2
    subst e1 e2
    rw [HJ.out.2.1] at y0
    have p0 : w4.cell? ⟨w.heap.size, 0, none⟩ = some (.slice (some ⟨g, o, none⟩) l.length c) := k4.at_ 0
    have t0 : w4.cell? ⟨w2.heap.size, 0, none⟩ = some (.string xn) := t4.at_ 0
    have j0 : decide ((j : Int) < 0) = false := decide_eq_false (by omega)
    have j1 : decide ((T : Int) < (j : Int)) = false := decide_eq_false (by omega)
    have j1n : decide (T < j) = false := decide_eq_false (by omega)
    have j1m : ¬ T < j := by omega
    have j2 : (0 : Int) ≤ (j : Int) := by omega
    have j3 : (j : Int) < (l.length : Int) := by omega
    have nn : (xn.toList != xn.toList) = false := bne_self_eq_false _
    clear hb4 k4 t4 A3 B3 K3 p0' x0 x1
    go_wp2
    go_quiet (fail)
    go_wp2
    go_loopw [11] (fun i wr => ∃ k : Nat, i = .int .i64 k ∧ k ≤ j ∧ ∃ d, wr = w4.drewN d) (fun i _ => j - (intOf i).toNat)
    case atStart => exact ⟨0, rfl, Nat.zero_le _, _, rfl⟩
    case round =>
      obtain ⟨k, rfl, hk, d, rfl⟩ := hrel
      by_cases hlt : k < j
      · obtain ⟨z, hz⟩ : ∃ z, l[k]? = some z := ⟨l[k], List.getElem?_eq_getElem (by omega)⟩
        obtain ⟨_, _, hA4, _, z0, _⟩ := Tm.cells A4.out.row hz
        injection hA4 with hA4
        injection hA4 with e1 e2
        subst e1 e2
        have zn : (z.n.toList == xn.toList) = false := ba_ne (HJ.out.2.2 k z hlt hz)
        have z0' : (w4.drewN d).cell? ⟨g, o + k * 2, none⟩ = some (.string z.n) := z0
        have p0' : (w4.drewN d).cell? ⟨w.heap.size, 0, none⟩ = some (.slice (some ⟨g, o, none⟩) l.length c) := p0
        have t0' : (w4.drewN d).cell? ⟨w2.heap.size, 0, none⟩ = some (.string xn) := t0
        have k0 : (0 : Int) ≤ (k : Int) := by omega
        have k1 : (k : Int) < (l.length : Int) := by omega
        have k2 : (k : Int) < (j : Int) := by omega
        clear hz y0
        go_wp2
        go_quiet (fail)
        go_wp2
        go_roundw
        case rel => exact ⟨k + 1, by go_num, by omega, _, rfl⟩
        case measure => simp [intOf]; omega
      · obtain rfl : k = j := by omega
        clear y0
        go_wp2
        go_ret
        exact ⟨rfl, Below.thenN B4.out _⟩
end Go.Proofs.YtnflbnchkcigiaaDoor
