/- The walk of TableLooks. -/
import Derived.Test.YtnflbnchkcigiaaDoorTabLaw1
namespace Go.Proofs.YtnflbnchkcigiaaDoor
open Go.RowKit

theorem Cfit.len {l : List Co} (h : Cfit l) : l.length ≤ 140737488355328 := by have := h.b; omega
set_option maxRecDepth 100000 in
set_option maxHeartbeats 4000000 in
theorem lookslaw_any {w : World} (h : KSt w w) {A : Option Addr} {l : List Tm} (c : Nat) (n : ByteArray) (t v : Int) (ha : HsAt w w.heap.size A l) (hf : Hfit l) :
    Calls Tryd.prog 3 #[.agg #[.slice A l.length c, .string n, .int .i64 t, .int .i64 v]] w (Yes w) := by
  have hB : Below w.heap.size w (w.alloc (.cells #[.slice A l.length c, .string n, .int .i64 t, .int .i64 v] 26)) := (Below.refl _ _).alloc (Nat.le_refl _) _
  have k := CB.new w 26 #[.slice A l.length c, .string n, .int .i64 t, .int .i64 v]
  have c1 := awake_any (h.then_ hB)
  go_enter Tryd.func3, Tryd.ntmps3
  go_wp2_with fail
  refine c1.mono ?_
  rintro e w1 ⟨rfl, hb1⟩
  have k1 := k.below hb1
  have hB1 : Below w.heap.size w w1 := Below.both hB hb1
  have HA := Lib.hid (ha.then_ hB1)
  have B1 := Lib.hid hB1
  have K1 := Lib.hid k1
  have HF := Lib.hid hf
  have p0 : w1.cell? ⟨w.heap.size, 0, none⟩ = some (.slice A l.length c) := k1.at_ 0
  have p1 : w1.cell? ⟨w.heap.size, 1, none⟩ = some (.string n) := k1.at_ 1
  clear c1 hb1 hB hB1 ha h k k1 hf
  go_wp2
  have q0 := cell_regrown p0
  have q1 := cell_regrown p1
  clear p0 p1
  have e1 := fun (d : Nat) (os : Array Obj) => Calls.regrown_of (find_any c n (HA.out.then_ (below_regrown w1 d os)).row HA.out.len)
  have e2 := fun (d : Nat) (os : Array Obj) => Calls.regrown_of (rfind_any c n (HA.out.then_ (below_regrown w1 d os)).row HA.out.len)
  generalize findI n l = Z at e1 e2
  have zz : (Z != Z) = false := bne_self_eq_false Z
  refine wp_region_quiet_below (by kernel_rfl) (by kernel_rfl) ?_
  repeat (go_big_quiet_step (first
    | (go_at_call 12; exact e2 _ _)
    | (go_at_call 11; exact e1 _ _)))
  refine wpQuiet_nil ?_
  intro _ hw'
  obtain ⟨⟨dq, osq⟩, hw''⟩ := hw'
  subst hw''
  dsimp only
  have hb2 := below_regrown w1 dq osq
  have k2 := K1.out.below hb2
  have B2 := Lib.hid (B1.out.trans (hb2.mono B1.out.size))
  have A2 := Lib.hid (HA.out.then_ hb2)
  generalize Go.Sort.grow (Go.redrawn w1 dq) osq = w2 at *
  have p0 : w2.cell? ⟨w.heap.size, 0, none⟩ = some (.slice A l.length c) := k2.at_ 0
  have p2 : w2.cell? ⟨w.heap.size, 2, none⟩ = some (.int .i64 t) := k2.at_ 2
  have p3 : w2.cell? ⟨w.heap.size, 3, none⟩ = some (.int .i64 v) := k2.at_ 3
  have K2 := Lib.hid k2
  have C3 := columns_any c t v A2.out HF.out
  have hcf := colsR_fit HF.out t v
  have C4 := fun {W : World} (q : HsAt W W.heap.size A l) => rcolumns_any c t v q HF.out
  obtain ⟨R, hR⟩ : ∃ R, (colsR l t v).1 = R := ⟨_, rfl⟩
  obtain ⟨E, hE⟩ : ∃ E, (colsR l t v).2 = E := ⟨_, rfl⟩
  rw [hR] at hcf
  simp only [hR, hE] at C3 C4
  have HCF := Lib.hid hcf
  clear hR hE e1 e2 q0 q1 hb2 k2 HA B1 K1 hcf
  go_wp2_with fail
  refine C3.mono ?_
  rintro e w3 ⟨A3, c3, rfl, n3⟩
  clear C3 p0 p2 p3
  have k3 := K2.out.below n3.old
  have p0 : w3.cell? ⟨w.heap.size, 0, none⟩ = some (.slice A l.length c) := k3.at_ 0
  have p2 : w3.cell? ⟨w.heap.size, 2, none⟩ = some (.int .i64 t) := k3.at_ 2
  have p3 : w3.cell? ⟨w.heap.size, 3, none⟩ = some (.int .i64 v) := k3.at_ 3
  have K3 := Lib.hid k3
  have B3 := Lib.hid (B2.out.trans (n3.old.mono B2.out.size))
  have A3h := Lib.hid (A2.out.then_ n3.old)
  have R3 := Lib.hid n3.reads
  clear n3 k3 K2 B2 A2
  go_wp2_with fail
  refine (C4 A3h.out).mono ?_
  rintro e w4 ⟨A4, c4, rfl, n4⟩
  clear C4 p0 p2 p3
  have k4 := K3.out.below n4.old
  have p1 : w4.cell? ⟨w.heap.size, 1, none⟩ = some (.string n) := k4.at_ 1
  have K4 := Lib.hid k4
  have B4 := Lib.hid (B3.out.trans (n4.old.mono B3.out.size))
  have R4 := Lib.hid (And.intro (CoR.then_ R3.out n4.old) n4.reads)
  clear n4 k4 K3 B3 A3h R3
  have ee : (E != E) = false := bne_self_eq_false E
  have C5 := lsame_any (w := w4) c3 c4 R4.out.1 R4.out.2 HCF.out.len HCF.out.len
  rw [same_self] at C5
  go_wp2_with fail
  refine C5.mono ?_
  rintro e w5 ⟨rfl, hb5⟩
  clear C5 p1
  have k5 := K4.out.below hb5
  have p1 : w5.cell? ⟨w.heap.size, 1, none⟩ = some (.string n) := k5.at_ 1
  have K5 := Lib.hid k5
  have B5 := Lib.hid (B4.out.trans (hb5.mono B4.out.size))
  have R5 := Lib.hid (CoR.then_ R4.out.2 hb5)
  clear hb5 k5 K4 B4 R4
  have C6 := column_any (w := w5) c4 n R5.out HCF.out.n' HCF.out.len
  have C7 := fun {W : World} (q : CoR W W.heap.size A4 R) => rcolumn_any c4 n q HCF.out.len
  obtain ⟨X, hX⟩ : ∃ X, (colF n R).1 = X := ⟨_, rfl⟩
  obtain ⟨Y, hY⟩ : ∃ Y, (colF n R).2 = Y := ⟨_, rfl⟩
  simp only [hX, hY] at C6 C7
  clear hX hY
  obtain ⟨xn, xt, xk⟩ := X
  unfold coC at C6 C7
  dsimp only at C6 C7
  go_wp2_with fail
  refine C6.mono ?_
  rintro e w6 ⟨rfl, hb6⟩
  clear C6 p1
  have hb6' : Below w5.heap.size w5 (w6.alloc (.cells #[.string xn, .int .i64 xt, .int .i64 xk] 35)) := hb6.alloc hb6.size _
  have k6 := K5.out.below hb6'
  have p1 : (w6.alloc (.cells #[.string xn, .int .i64 xt, .int .i64 xk] 35)).cell? ⟨w.heap.size, 1, none⟩ = some (.string n) := k6.at_ 1
  have B6 := Lib.hid (B5.out.trans (hb6'.mono B5.out.size))
  have R6 := Lib.hid (CoR.then_ R5.out hb6')
  have x6 := CB.new w6 35 #[.string xn, .int .i64 xt, .int .i64 xk]
  have X6 := Lib.hid x6
  clear hb6 hb6' k6 K5 B5 R5 x6
  go_wp2_with fail
  refine (C7 R6.out).mono ?_
  rintro e w7 ⟨rfl, hb7⟩
  have B7 := Lib.hid (B6.out.trans (hb7.mono B6.out.size))
  have x7 := (X6.out.below hb7).al (.cells #[.string xn, .int .i64 xt, .int .i64 xk] 35)
  have x0 : (w7.alloc (.cells #[.string xn, .int .i64 xt, .int .i64 xk] 35)).cell? ⟨w6.heap.size, 0, none⟩ = some (.string xn) := x7.at_ 0
  have x1 : (w7.alloc (.cells #[.string xn, .int .i64 xt, .int .i64 xk] 35)).cell? ⟨w6.heap.size, 1, none⟩ = some (.int .i64 xt) := x7.at_ 1
  have x2 : (w7.alloc (.cells #[.string xn, .int .i64 xt, .int .i64 xk] 35)).cell? ⟨w6.heap.size, 2, none⟩ = some (.int .i64 xk) := x7.at_ 2
  have y1 : (Y == Y) = true := beq_self_eq_true _
  clear C7 p1 B6 R6 X6 x7 hb7
  go_wp2
  go_ret
  exact ⟨ret_bool (by simp), B7.out.alloc B7.out.size _⟩
end Go.Proofs.YtnflbnchkcigiaaDoor
