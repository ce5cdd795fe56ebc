/- The walk of ConvRises. -/
import Derived.Test.YtijgcfnjbfaelaaDoorConvAwake
import Derived.Test.YtijgcfnjbfaelaaDoorConvFacts
import Derived.Test.YtijgcfnjbfaelaaDoorKindOrder
import Derived.Deep.RegionHeld3
namespace Go.Proofs.YtijgcfnjbfaelaaDoor
open Go.RowKit

theorem v_eta (X : Val) : X = ⟨X.k, X.n, X.s⟩ := rfl
section
variable {w : World}
set_option maxRecDepth 100000 in
set_option maxHeartbeats 1000000 in
theorem rises_out (h : CSt w w) (n a b : Int) (hn : ¬ (n = 1 ∨ n = 2 ∨ n = 9 ∨ n = 10)) : Calls Tryd.prog 8 #[.int .i64 n, .int .u64 a, .int .u64 b] w (Yes w) := by
  have n1 : (n != 1) = true := by rw [bne_iff_ne]; omega
  have n2 : (n != 2) = true := by rw [bne_iff_ne]; omega
  have n3 : (n != 9) = true := by rw [bne_iff_ne]; omega
  have n4 : (n != 10) = true := by rw [bne_iff_ne]; omega
  clear hn
  go_enter Tryd.func8, Tryd.ntmps8
  go_wp2_with (go_at_call 9; refine (awake_any h).mono ?_; rintro e w1 ⟨rfl, k1⟩)
  go_ret
  exact ⟨rfl, k1.below⟩
set_option maxRecDepth 100000 in
set_option maxHeartbeats 2000000 in
theorem rises1 (h : CSt w w) (a b : Int) (ha : 0 ≤ a ∧ a ≤ 18446744073709551615) (hb : 0 ≤ b ∧ b ≤ 18446744073709551615) : Calls Tryd.prog 8 #[.int .i64 1, .int .u64 a, .int .u64 b] w (Yes w) := by
  obtain ⟨E1, x1, y1, z1, hc1⟩ : ∃ E x y z, capp 1 ⟨1, a, ⟨#[]⟩⟩ = (E, ⟨x, y, z⟩) := ⟨_, _, _, _, rfl⟩
  obtain ⟨E2, x2, y2, z2, hc2⟩ : ∃ E x y z, capp 1 ⟨1, b, ⟨#[]⟩⟩ = (E, ⟨x, y, z⟩) := ⟨_, _, _, _, rfl⟩
  have H1 := Lib.hid hc1
  have H2 := Lib.hid hc2
  have c1 := fun {W : World} (q : CSt w W) => c_apply q ha (by decide) hc1
  have c2 := fun {W : World} (q : CSt w W) => c_apply q hb (by decide) hc2
  have cf : ∀ {W : World}, CSt w W → Calls Tryd.prog 15 #[.int .i64 1] W fun e w' => e = .returned (.int .i64 1) ∧ Below W.heap.size W w' := fun q => cfrom_any q 1
  have HA := Lib.hid ha
  have HB := Lib.hid hb
  clear ha hb hc1 hc2
  go_enter Tryd.func8, Tryd.ntmps8
  go_wp2_with fail
  refine (awake_any h).mono ?_
  rintro e w1 ⟨rfl, k1⟩
  go_wp2_with fail
  refine (cf k1).mono ?_
  rintro e w2 ⟨rfl, b2⟩
  have k2 := (k1.then_ b2).new (.cells #[.int .i64 1, .int .u64 a, .string ⟨#[]⟩] 24)
  have k3 := k2.new (.cells #[.int .i64 1, .int .u64 b, .string ⟨#[]⟩] 24)
  have hx := (VBlk.new w2 ⟨1, a, ⟨#[]⟩⟩).new_ (.cells #[.int .i64 1, .int .u64 b, .string ⟨#[]⟩] 24)
  have hy := VBlk.new (w2.alloc (.cells #[.int .i64 1, .int .u64 a, .string ⟨#[]⟩] 24)) ⟨1, b, ⟨#[]⟩⟩
  rw [show (w2.alloc (.cells #[.int .i64 1, .int .u64 a, .string ⟨#[]⟩] 24)).heap.size = w2.heap.size + 1 by simp] at hy
  go_wp2_with fail
  refine (c1 k3).mono ?_
  rintro e w3 ⟨rfl, k4, b3⟩
  have hx3 := (hx.below b3).new_ (.cells #[.int .i64 x1, .int .u64 y1, .string z1] 24)
  have hy3 := (hy.below b3).new_ (.cells #[.int .i64 x1, .int .u64 y1, .string z1] 24)
  have hv3 := VBlk.new w3 ⟨x1, y1, z1⟩
  have k5 := k4.new (.cells #[.int .i64 x1, .int .u64 y1, .string z1] 24)
  obtain ⟨p0, p1, p2⟩ := hy3.cells
  dsimp only at p0 p1 p2
  clear hx hy b3 k4 k2 k3 b2 k1 c1 cf
  go_wp2_with fail
  refine (c2 k5).mono ?_
  rintro e w4 ⟨rfl, k6, b4⟩
  have hx4 := (hx3.below b4).new_ (.cells #[.int .i64 x2, .int .u64 y2, .string z2] 24)
  have hy4 := (hy3.below b4).new_ (.cells #[.int .i64 x2, .int .u64 y2, .string z2] 24)
  have hv4 := (VBlk.below hv3 b4).new_ (.cells #[.int .i64 x2, .int .u64 y2, .string z2] 24)
  have hu4 := VBlk.new w4 ⟨x2, y2, z2⟩
  have k7 := k6.new (.cells #[.int .i64 x2, .int .u64 y2, .string z2] 24)
  clear p0 p1 p2 hx3 hy3 hv3 b4 k6 k5 c2
  by_cases e1 : E1 = 0
  · by_cases e2 : E2 = 0
    · subst e1 e2
      obtain ⟨a63, r1⟩ := cap_rises (n := 1) (a := a) (by decide) (by show (capp 1 ⟨1, a, ⟨#[]⟩⟩).1 = 0; rw [H1.out])
      obtain ⟨b63, r2⟩ := cap_rises (n := 1) (a := b) (by decide) (by show (capp 1 ⟨1, b, ⟨#[]⟩⟩).1 = 0; rw [H2.out])
      have j1 := (show capp 1 ⟨1, a, ⟨#[]⟩⟩ = (0, ⟨2, a, ⟨#[]⟩⟩) from r1).symm.trans H1.out
      have j2 := (show capp 1 ⟨1, b, ⟨#[]⟩⟩ = (0, ⟨2, b, ⟨#[]⟩⟩) from r2).symm.trans H2.out
      simp only [Prod.mk.injEq, Val.mk.injEq, true_and] at j1 j2
      obtain ⟨rfl, rfl, rfl⟩ := j1
      obtain ⟨rfl, rfl, rfl⟩ := j2
      obtain ⟨o, ho⟩ : ∃ o, ordV ⟨1, a, ⟨#[]⟩⟩ ⟨1, b, ⟨#[]⟩⟩ = o := ⟨_, rfl⟩
      have ho2 : ordV ⟨2, a, ⟨#[]⟩⟩ ⟨2, b, ⟨#[]⟩⟩ = o := (ord_same a63 b63).trans ho
      obtain ⟨W5, hW5⟩ : ∃ W5, W5 = w4.alloc (.cells #[.int .i64 2, .int .u64 b, .string ⟨#[]⟩] 24) := ⟨_, rfl⟩
      have k8 : CSt w W5 := by rw [hW5]; exact k7
      have hx5 : VBlk W5 w2.heap.size ⟨1, a, ⟨#[]⟩⟩ := by rw [hW5]; exact hx4
      have hy5 : VBlk W5 (w2.heap.size + 1) ⟨1, b, ⟨#[]⟩⟩ := by rw [hW5]; exact hy4
      have hv5 : VBlk W5 w3.heap.size ⟨2, a, ⟨#[]⟩⟩ := by rw [hW5]; exact hv4
      have hu5 : VBlk W5 w4.heap.size ⟨2, b, ⟨#[]⟩⟩ := by rw [hW5]; exact hu4
      have o1 : ∀ {W : World}, Below W5.heap.size W5 W → Calls Tryd.prog 24 #[.agg #[.int .i64 1, .int .u64 a, .string ⟨#[]⟩], .agg #[.int .i64 1, .int .u64 b, .string ⟨#[]⟩]] W fun e w' => e = .returned (.int .i64 o) ∧ Below W5.heap.size W5 w' := fun {W} q => by
        rw [← ho]; exact (order_any (k8.then_ q).self.k ⟨1, a, ⟨#[]⟩⟩ ⟨1, b, ⟨#[]⟩⟩ HA.out HB.out).mono fun _ _ ⟨x, y⟩ => ⟨x, Below.both q y.below⟩
      have o2 : ∀ {W : World}, Below W5.heap.size W5 W → Calls Tryd.prog 24 #[.agg #[.int .i64 2, .int .u64 a, .string ⟨#[]⟩], .agg #[.int .i64 2, .int .u64 b, .string ⟨#[]⟩]] W fun e w' => e = .returned (.int .i64 o) ∧ Below W5.heap.size W5 w' := fun {W} q => by
        rw [← ho2]; exact (order_any (k8.then_ q).self.k ⟨2, a, ⟨#[]⟩⟩ ⟨2, b, ⟨#[]⟩⟩ HA.out HB.out).mono fun _ _ ⟨x, y⟩ => ⟨x, Below.both q y.below⟩
      have HCW : Hid (∀ W, Below W5.heap.size W5 W → Below W5.heap.size W5 W ∧ (W.cell? ⟨w2.heap.size, 0, none⟩ = some (.int .i64 1) ∧ W.cell? ⟨w2.heap.size, 1, none⟩ = some (.int .u64 a) ∧ W.cell? ⟨w2.heap.size, 2, none⟩ = some (.string ⟨#[]⟩)) ∧
          (W.cell? ⟨w2.heap.size + 1, 0, none⟩ = some (.int .i64 1) ∧ W.cell? ⟨w2.heap.size + 1, 1, none⟩ = some (.int .u64 b) ∧ W.cell? ⟨w2.heap.size + 1, 2, none⟩ = some (.string ⟨#[]⟩)) ∧
          (W.cell? ⟨w3.heap.size, 0, none⟩ = some (.int .i64 2) ∧ W.cell? ⟨w3.heap.size, 1, none⟩ = some (.int .u64 a) ∧ W.cell? ⟨w3.heap.size, 2, none⟩ = some (.string ⟨#[]⟩)) ∧
          W.cell? ⟨w4.heap.size, 0, none⟩ = some (.int .i64 2) ∧ W.cell? ⟨w4.heap.size, 1, none⟩ = some (.int .u64 b) ∧ W.cell? ⟨w4.heap.size, 2, none⟩ = some (.string ⟨#[]⟩)) := fun W q => ⟨q, (hx5.below q).cells, (hy5.below q).cells, (hv5.below q).cells, (hu5.below q).cells⟩
      have HW5 := Lib.hid hW5
      have HK8 := Lib.hid k8
      have hself : Below W5.heap.size W5 W5 := Below.refl _ _
      clear hx4 hy4 hv4 hu4 hx5 hy5 hv5 hu5 r1 r2 ho ho2 hW5 k7 k8 a63 b63
      go_wp2_with fail
      rw [← HW5.out]
      obtain ⟨⟨p0, p1, p2⟩, ⟨p3, p4, p5⟩, ⟨p6, p7, p8⟩, p9, p10, p11⟩ := (HCW.out W5 hself).2
      go_region_held3 (fun W => Below W5.heap.size W5 W ∧ (W.cell? ⟨w2.heap.size, 0, none⟩ = some (.int .i64 1) ∧ W.cell? ⟨w2.heap.size, 1, none⟩ = some (.int .u64 a) ∧ W.cell? ⟨w2.heap.size, 2, none⟩ = some (.string ⟨#[]⟩)) ∧
          (W.cell? ⟨w2.heap.size + 1, 0, none⟩ = some (.int .i64 1) ∧ W.cell? ⟨w2.heap.size + 1, 1, none⟩ = some (.int .u64 b) ∧ W.cell? ⟨w2.heap.size + 1, 2, none⟩ = some (.string ⟨#[]⟩)) ∧
          (W.cell? ⟨w3.heap.size, 0, none⟩ = some (.int .i64 2) ∧ W.cell? ⟨w3.heap.size, 1, none⟩ = some (.int .u64 a) ∧ W.cell? ⟨w3.heap.size, 2, none⟩ = some (.string ⟨#[]⟩)) ∧
          W.cell? ⟨w4.heap.size, 0, none⟩ = some (.int .i64 2) ∧ W.cell? ⟨w4.heap.size, 1, none⟩ = some (.int .u64 b) ∧ W.cell? ⟨w4.heap.size, 2, none⟩ = some (.string ⟨#[]⟩))
        (first | (exact HCW.out _ (by assumption)) | (exact HCW.out _ (Below.drew (by assumption))))
        (first
          | (go_at_call 24; with_reducible refine (o1 (by first | assumption | exact Below.drew (by assumption) | exact And.left (by assumption))).mono ?_; rintro e w' ⟨rfl, hst⟩)
          | (go_at_call 24; with_reducible refine (o2 (by first | assumption | exact Below.drew (by assumption) | exact And.left (by assumption))).mono ?_; rintro e w' ⟨rfl, hst⟩))
      go_wp2
      go_ret
      exact ⟨ret_bool (by simp), (HK8.out.then_ (by assumption)).below⟩
    · have gb : (E2 != 0) = true := by simpa using e2
      subst e1
      clear e2 hx4 hy4 hv4 hu4
      go_wp2_with fail
      go_ret
      exact ⟨rfl, k7.below⟩
  · have gb : (E1 != 0) = true := by simpa using e1
    clear e1 hx4 hy4 hv4 hu4
    go_wp2_with fail
    go_ret
    exact ⟨rfl, k7.below⟩
set_option maxRecDepth 100000 in
set_option maxHeartbeats 2000000 in
theorem rises2 (h : CSt w w) (a b : Int) (ha : 0 ≤ a ∧ a ≤ 18446744073709551615) (hb : 0 ≤ b ∧ b ≤ 18446744073709551615) : Calls Tryd.prog 8 #[.int .i64 2, .int .u64 a, .int .u64 b] w (Yes w) := by
  obtain ⟨E1, x1, y1, z1, hc1⟩ : ∃ E x y z, capp 2 ⟨2, a, ⟨#[]⟩⟩ = (E, ⟨x, y, z⟩) := ⟨_, _, _, _, rfl⟩
  obtain ⟨E2, x2, y2, z2, hc2⟩ : ∃ E x y z, capp 2 ⟨2, b, ⟨#[]⟩⟩ = (E, ⟨x, y, z⟩) := ⟨_, _, _, _, rfl⟩
  have H1 := Lib.hid hc1
  have H2 := Lib.hid hc2
  have c1 := fun {W : World} (q : CSt w W) => c_apply q ha (by decide) hc1
  have c2 := fun {W : World} (q : CSt w W) => c_apply q hb (by decide) hc2
  have cf : ∀ {W : World}, CSt w W → Calls Tryd.prog 15 #[.int .i64 2] W fun e w' => e = .returned (.int .i64 2) ∧ Below W.heap.size W w' := fun q => cfrom_any q 2
  have HA := Lib.hid ha
  have HB := Lib.hid hb
  clear ha hb hc1 hc2
  go_enter Tryd.func8, Tryd.ntmps8
  go_wp2_with fail
  refine (awake_any h).mono ?_
  rintro e w1 ⟨rfl, k1⟩
  go_wp2_with fail
  refine (cf k1).mono ?_
  rintro e w2 ⟨rfl, b2⟩
  have k2 := (k1.then_ b2).new (.cells #[.int .i64 2, .int .u64 a, .string ⟨#[]⟩] 24)
  have k3 := k2.new (.cells #[.int .i64 2, .int .u64 b, .string ⟨#[]⟩] 24)
  have hx := (VBlk.new w2 ⟨2, a, ⟨#[]⟩⟩).new_ (.cells #[.int .i64 2, .int .u64 b, .string ⟨#[]⟩] 24)
  have hy := VBlk.new (w2.alloc (.cells #[.int .i64 2, .int .u64 a, .string ⟨#[]⟩] 24)) ⟨2, b, ⟨#[]⟩⟩
  rw [show (w2.alloc (.cells #[.int .i64 2, .int .u64 a, .string ⟨#[]⟩] 24)).heap.size = w2.heap.size + 1 by simp] at hy
  go_wp2_with fail
  refine (c1 k3).mono ?_
  rintro e w3 ⟨rfl, k4, b3⟩
  have hx3 := (hx.below b3).new_ (.cells #[.int .i64 x1, .int .u64 y1, .string z1] 24)
  have hy3 := (hy.below b3).new_ (.cells #[.int .i64 x1, .int .u64 y1, .string z1] 24)
  have hv3 := VBlk.new w3 ⟨x1, y1, z1⟩
  have k5 := k4.new (.cells #[.int .i64 x1, .int .u64 y1, .string z1] 24)
  obtain ⟨p0, p1, p2⟩ := hy3.cells
  dsimp only at p0 p1 p2
  clear hx hy b3 k4 k2 k3 b2 k1 c1 cf
  go_wp2_with fail
  refine (c2 k5).mono ?_
  rintro e w4 ⟨rfl, k6, b4⟩
  have hx4 := (hx3.below b4).new_ (.cells #[.int .i64 x2, .int .u64 y2, .string z2] 24)
  have hy4 := (hy3.below b4).new_ (.cells #[.int .i64 x2, .int .u64 y2, .string z2] 24)
  have hv4 := (VBlk.below hv3 b4).new_ (.cells #[.int .i64 x2, .int .u64 y2, .string z2] 24)
  have hu4 := VBlk.new w4 ⟨x2, y2, z2⟩
  have k7 := k6.new (.cells #[.int .i64 x2, .int .u64 y2, .string z2] 24)
  clear p0 p1 p2 hx3 hy3 hv3 b4 k6 k5 c2
  by_cases e1 : E1 = 0
  · by_cases e2 : E2 = 0
    · subst e1 e2
      obtain ⟨a63, r1⟩ := cap_rises (n := 2) (a := a) (by decide) (by show (capp 2 ⟨2, a, ⟨#[]⟩⟩).1 = 0; rw [H1.out])
      obtain ⟨b63, r2⟩ := cap_rises (n := 2) (a := b) (by decide) (by show (capp 2 ⟨2, b, ⟨#[]⟩⟩).1 = 0; rw [H2.out])
      have j1 := (show capp 2 ⟨2, a, ⟨#[]⟩⟩ = (0, ⟨1, a, ⟨#[]⟩⟩) from r1).symm.trans H1.out
      have j2 := (show capp 2 ⟨2, b, ⟨#[]⟩⟩ = (0, ⟨1, b, ⟨#[]⟩⟩) from r2).symm.trans H2.out
      simp only [Prod.mk.injEq, Val.mk.injEq, true_and] at j1 j2
      obtain ⟨rfl, rfl, rfl⟩ := j1
      obtain ⟨rfl, rfl, rfl⟩ := j2
      obtain ⟨o, ho⟩ : ∃ o, ordV ⟨2, a, ⟨#[]⟩⟩ ⟨2, b, ⟨#[]⟩⟩ = o := ⟨_, rfl⟩
      have ho2 : ordV ⟨1, a, ⟨#[]⟩⟩ ⟨1, b, ⟨#[]⟩⟩ = o := (ord_same a63 b63).trans ho
      obtain ⟨W5, hW5⟩ : ∃ W5, W5 = w4.alloc (.cells #[.int .i64 1, .int .u64 b, .string ⟨#[]⟩] 24) := ⟨_, rfl⟩
      have k8 : CSt w W5 := by rw [hW5]; exact k7
      have hx5 : VBlk W5 w2.heap.size ⟨2, a, ⟨#[]⟩⟩ := by rw [hW5]; exact hx4
      have hy5 : VBlk W5 (w2.heap.size + 1) ⟨2, b, ⟨#[]⟩⟩ := by rw [hW5]; exact hy4
      have hv5 : VBlk W5 w3.heap.size ⟨1, a, ⟨#[]⟩⟩ := by rw [hW5]; exact hv4
      have hu5 : VBlk W5 w4.heap.size ⟨1, b, ⟨#[]⟩⟩ := by rw [hW5]; exact hu4
      have o1 : ∀ {W : World}, Below W5.heap.size W5 W → Calls Tryd.prog 24 #[.agg #[.int .i64 2, .int .u64 a, .string ⟨#[]⟩], .agg #[.int .i64 2, .int .u64 b, .string ⟨#[]⟩]] W fun e w' => e = .returned (.int .i64 o) ∧ Below W5.heap.size W5 w' := fun {W} q => by
        rw [← ho]; exact (order_any (k8.then_ q).self.k ⟨2, a, ⟨#[]⟩⟩ ⟨2, b, ⟨#[]⟩⟩ HA.out HB.out).mono fun _ _ ⟨x, y⟩ => ⟨x, Below.both q y.below⟩
      have o2 : ∀ {W : World}, Below W5.heap.size W5 W → Calls Tryd.prog 24 #[.agg #[.int .i64 1, .int .u64 a, .string ⟨#[]⟩], .agg #[.int .i64 1, .int .u64 b, .string ⟨#[]⟩]] W fun e w' => e = .returned (.int .i64 o) ∧ Below W5.heap.size W5 w' := fun {W} q => by
        rw [← ho2]; exact (order_any (k8.then_ q).self.k ⟨1, a, ⟨#[]⟩⟩ ⟨1, b, ⟨#[]⟩⟩ HA.out HB.out).mono fun _ _ ⟨x, y⟩ => ⟨x, Below.both q y.below⟩
      have HCW : Hid (∀ W, Below W5.heap.size W5 W → Below W5.heap.size W5 W ∧ (W.cell? ⟨w2.heap.size, 0, none⟩ = some (.int .i64 2) ∧ W.cell? ⟨w2.heap.size, 1, none⟩ = some (.int .u64 a) ∧ W.cell? ⟨w2.heap.size, 2, none⟩ = some (.string ⟨#[]⟩)) ∧
          (W.cell? ⟨w2.heap.size + 1, 0, none⟩ = some (.int .i64 2) ∧ W.cell? ⟨w2.heap.size + 1, 1, none⟩ = some (.int .u64 b) ∧ W.cell? ⟨w2.heap.size + 1, 2, none⟩ = some (.string ⟨#[]⟩)) ∧
          (W.cell? ⟨w3.heap.size, 0, none⟩ = some (.int .i64 1) ∧ W.cell? ⟨w3.heap.size, 1, none⟩ = some (.int .u64 a) ∧ W.cell? ⟨w3.heap.size, 2, none⟩ = some (.string ⟨#[]⟩)) ∧
          W.cell? ⟨w4.heap.size, 0, none⟩ = some (.int .i64 1) ∧ W.cell? ⟨w4.heap.size, 1, none⟩ = some (.int .u64 b) ∧ W.cell? ⟨w4.heap.size, 2, none⟩ = some (.string ⟨#[]⟩)) := fun W q => ⟨q, (hx5.below q).cells, (hy5.below q).cells, (hv5.below q).cells, (hu5.below q).cells⟩
      have HW5 := Lib.hid hW5
      have HK8 := Lib.hid k8
      have hself : Below W5.heap.size W5 W5 := Below.refl _ _
      clear hx4 hy4 hv4 hu4 hx5 hy5 hv5 hu5 r1 r2 ho ho2 hW5 k7 k8 a63 b63
      go_wp2_with fail
      rw [← HW5.out]
      obtain ⟨⟨p0, p1, p2⟩, ⟨p3, p4, p5⟩, ⟨p6, p7, p8⟩, p9, p10, p11⟩ := (HCW.out W5 hself).2
      go_region_held3 (fun W => Below W5.heap.size W5 W ∧ (W.cell? ⟨w2.heap.size, 0, none⟩ = some (.int .i64 2) ∧ W.cell? ⟨w2.heap.size, 1, none⟩ = some (.int .u64 a) ∧ W.cell? ⟨w2.heap.size, 2, none⟩ = some (.string ⟨#[]⟩)) ∧
          (W.cell? ⟨w2.heap.size + 1, 0, none⟩ = some (.int .i64 2) ∧ W.cell? ⟨w2.heap.size + 1, 1, none⟩ = some (.int .u64 b) ∧ W.cell? ⟨w2.heap.size + 1, 2, none⟩ = some (.string ⟨#[]⟩)) ∧
          (W.cell? ⟨w3.heap.size, 0, none⟩ = some (.int .i64 1) ∧ W.cell? ⟨w3.heap.size, 1, none⟩ = some (.int .u64 a) ∧ W.cell? ⟨w3.heap.size, 2, none⟩ = some (.string ⟨#[]⟩)) ∧
          W.cell? ⟨w4.heap.size, 0, none⟩ = some (.int .i64 1) ∧ W.cell? ⟨w4.heap.size, 1, none⟩ = some (.int .u64 b) ∧ W.cell? ⟨w4.heap.size, 2, none⟩ = some (.string ⟨#[]⟩))
        (first | (exact HCW.out _ (by assumption)) | (exact HCW.out _ (Below.drew (by assumption))))
        (first
          | (go_at_call 24; with_reducible refine (o1 (by first | assumption | exact Below.drew (by assumption) | exact And.left (by assumption))).mono ?_; rintro e w' ⟨rfl, hst⟩)
          | (go_at_call 24; with_reducible refine (o2 (by first | assumption | exact Below.drew (by assumption) | exact And.left (by assumption))).mono ?_; rintro e w' ⟨rfl, hst⟩))
      go_wp2
      go_ret
      exact ⟨ret_bool (by simp), (HK8.out.then_ (by assumption)).below⟩
    · have gb : (E2 != 0) = true := by simpa using e2
      subst e1
      clear e2 hx4 hy4 hv4 hu4
      go_wp2_with fail
      go_ret
      exact ⟨rfl, k7.below⟩
  · have gb : (E1 != 0) = true := by simpa using e1
    clear e1 hx4 hy4 hv4 hu4
    go_wp2_with fail
    go_ret
    exact ⟨rfl, k7.below⟩
set_option maxRecDepth 100000 in
set_option maxHeartbeats 2000000 in
theorem rises9 (h : CSt w w) (a b : Int) (ha : 0 ≤ a ∧ a ≤ 18446744073709551615) (hb : 0 ≤ b ∧ b ≤ 18446744073709551615) : Calls Tryd.prog 8 #[.int .i64 9, .int .u64 a, .int .u64 b] w (Yes w) := by
  obtain ⟨E1, x1, y1, z1, hc1⟩ : ∃ E x y z, capp 9 ⟨3, a, ⟨#[]⟩⟩ = (E, ⟨x, y, z⟩) := ⟨_, _, _, _, rfl⟩
  obtain ⟨E2, x2, y2, z2, hc2⟩ : ∃ E x y z, capp 9 ⟨3, b, ⟨#[]⟩⟩ = (E, ⟨x, y, z⟩) := ⟨_, _, _, _, rfl⟩
  have H1 := Lib.hid hc1
  have H2 := Lib.hid hc2
  have c1 := fun {W : World} (q : CSt w W) => c_apply q ha (by decide) hc1
  have c2 := fun {W : World} (q : CSt w W) => c_apply q hb (by decide) hc2
  have cf : ∀ {W : World}, CSt w W → Calls Tryd.prog 15 #[.int .i64 9] W fun e w' => e = .returned (.int .i64 3) ∧ Below W.heap.size W w' := fun q => cfrom_any q 9
  have HA := Lib.hid ha
  have HB := Lib.hid hb
  clear ha hb hc1 hc2
  go_enter Tryd.func8, Tryd.ntmps8
  go_wp2_with fail
  refine (awake_any h).mono ?_
  rintro e w1 ⟨rfl, k1⟩
  go_wp2_with fail
  refine (cf k1).mono ?_
  rintro e w2 ⟨rfl, b2⟩
  have k2 := (k1.then_ b2).new (.cells #[.int .i64 3, .int .u64 a, .string ⟨#[]⟩] 24)
  have k3 := k2.new (.cells #[.int .i64 3, .int .u64 b, .string ⟨#[]⟩] 24)
  have hx := (VBlk.new w2 ⟨3, a, ⟨#[]⟩⟩).new_ (.cells #[.int .i64 3, .int .u64 b, .string ⟨#[]⟩] 24)
  have hy := VBlk.new (w2.alloc (.cells #[.int .i64 3, .int .u64 a, .string ⟨#[]⟩] 24)) ⟨3, b, ⟨#[]⟩⟩
  rw [show (w2.alloc (.cells #[.int .i64 3, .int .u64 a, .string ⟨#[]⟩] 24)).heap.size = w2.heap.size + 1 by simp] at hy
  go_wp2_with fail
  refine (c1 k3).mono ?_
  rintro e w3 ⟨rfl, k4, b3⟩
  have hx3 := (hx.below b3).new_ (.cells #[.int .i64 x1, .int .u64 y1, .string z1] 24)
  have hy3 := (hy.below b3).new_ (.cells #[.int .i64 x1, .int .u64 y1, .string z1] 24)
  have hv3 := VBlk.new w3 ⟨x1, y1, z1⟩
  have k5 := k4.new (.cells #[.int .i64 x1, .int .u64 y1, .string z1] 24)
  obtain ⟨p0, p1, p2⟩ := hy3.cells
  dsimp only at p0 p1 p2
  clear hx hy b3 k4 k2 k3 b2 k1 c1 cf
  go_wp2_with fail
  refine (c2 k5).mono ?_
  rintro e w4 ⟨rfl, k6, b4⟩
  have hx4 := (hx3.below b4).new_ (.cells #[.int .i64 x2, .int .u64 y2, .string z2] 24)
  have hy4 := (hy3.below b4).new_ (.cells #[.int .i64 x2, .int .u64 y2, .string z2] 24)
  have hv4 := (VBlk.below hv3 b4).new_ (.cells #[.int .i64 x2, .int .u64 y2, .string z2] 24)
  have hu4 := VBlk.new w4 ⟨x2, y2, z2⟩
  have k7 := k6.new (.cells #[.int .i64 x2, .int .u64 y2, .string z2] 24)
  clear p0 p1 p2 hx3 hy3 hv3 b4 k6 k5 c2
  by_cases e1 : E1 = 0
  · by_cases e2 : E2 = 0
    · subst e1 e2
      obtain ⟨a63, r1⟩ := cap_rises (n := 9) (a := a) (by decide) (by show (capp 9 ⟨3, a, ⟨#[]⟩⟩).1 = 0; rw [H1.out])
      obtain ⟨b63, r2⟩ := cap_rises (n := 9) (a := b) (by decide) (by show (capp 9 ⟨3, b, ⟨#[]⟩⟩).1 = 0; rw [H2.out])
      have j1 := (show capp 9 ⟨3, a, ⟨#[]⟩⟩ = (0, ⟨1, a, ⟨#[]⟩⟩) from r1).symm.trans H1.out
      have j2 := (show capp 9 ⟨3, b, ⟨#[]⟩⟩ = (0, ⟨1, b, ⟨#[]⟩⟩) from r2).symm.trans H2.out
      simp only [Prod.mk.injEq, Val.mk.injEq, true_and] at j1 j2
      obtain ⟨rfl, rfl, rfl⟩ := j1
      obtain ⟨rfl, rfl, rfl⟩ := j2
      obtain ⟨o, ho⟩ : ∃ o, ordV ⟨3, a, ⟨#[]⟩⟩ ⟨3, b, ⟨#[]⟩⟩ = o := ⟨_, rfl⟩
      have ho2 : ordV ⟨1, a, ⟨#[]⟩⟩ ⟨1, b, ⟨#[]⟩⟩ = o := (ord_same a63 b63).trans ho
      obtain ⟨W5, hW5⟩ : ∃ W5, W5 = w4.alloc (.cells #[.int .i64 1, .int .u64 b, .string ⟨#[]⟩] 24) := ⟨_, rfl⟩
      have k8 : CSt w W5 := by rw [hW5]; exact k7
      have hx5 : VBlk W5 w2.heap.size ⟨3, a, ⟨#[]⟩⟩ := by rw [hW5]; exact hx4
      have hy5 : VBlk W5 (w2.heap.size + 1) ⟨3, b, ⟨#[]⟩⟩ := by rw [hW5]; exact hy4
      have hv5 : VBlk W5 w3.heap.size ⟨1, a, ⟨#[]⟩⟩ := by rw [hW5]; exact hv4
      have hu5 : VBlk W5 w4.heap.size ⟨1, b, ⟨#[]⟩⟩ := by rw [hW5]; exact hu4
      have o1 : ∀ {W : World}, Below W5.heap.size W5 W → Calls Tryd.prog 24 #[.agg #[.int .i64 3, .int .u64 a, .string ⟨#[]⟩], .agg #[.int .i64 3, .int .u64 b, .string ⟨#[]⟩]] W fun e w' => e = .returned (.int .i64 o) ∧ Below W5.heap.size W5 w' := fun {W} q => by
        rw [← ho]; exact (order_any (k8.then_ q).self.k ⟨3, a, ⟨#[]⟩⟩ ⟨3, b, ⟨#[]⟩⟩ HA.out HB.out).mono fun _ _ ⟨x, y⟩ => ⟨x, Below.both q y.below⟩
      have o2 : ∀ {W : World}, Below W5.heap.size W5 W → Calls Tryd.prog 24 #[.agg #[.int .i64 1, .int .u64 a, .string ⟨#[]⟩], .agg #[.int .i64 1, .int .u64 b, .string ⟨#[]⟩]] W fun e w' => e = .returned (.int .i64 o) ∧ Below W5.heap.size W5 w' := fun {W} q => by
        rw [← ho2]; exact (order_any (k8.then_ q).self.k ⟨1, a, ⟨#[]⟩⟩ ⟨1, b, ⟨#[]⟩⟩ HA.out HB.out).mono fun _ _ ⟨x, y⟩ => ⟨x, Below.both q y.below⟩
      have HCW : Hid (∀ W, Below W5.heap.size W5 W → Below W5.heap.size W5 W ∧ (W.cell? ⟨w2.heap.size, 0, none⟩ = some (.int .i64 3) ∧ W.cell? ⟨w2.heap.size, 1, none⟩ = some (.int .u64 a) ∧ W.cell? ⟨w2.heap.size, 2, none⟩ = some (.string ⟨#[]⟩)) ∧
          (W.cell? ⟨w2.heap.size + 1, 0, none⟩ = some (.int .i64 3) ∧ W.cell? ⟨w2.heap.size + 1, 1, none⟩ = some (.int .u64 b) ∧ W.cell? ⟨w2.heap.size + 1, 2, none⟩ = some (.string ⟨#[]⟩)) ∧
          (W.cell? ⟨w3.heap.size, 0, none⟩ = some (.int .i64 1) ∧ W.cell? ⟨w3.heap.size, 1, none⟩ = some (.int .u64 a) ∧ W.cell? ⟨w3.heap.size, 2, none⟩ = some (.string ⟨#[]⟩)) ∧
          W.cell? ⟨w4.heap.size, 0, none⟩ = some (.int .i64 1) ∧ W.cell? ⟨w4.heap.size, 1, none⟩ = some (.int .u64 b) ∧ W.cell? ⟨w4.heap.size, 2, none⟩ = some (.string ⟨#[]⟩)) := fun W q => ⟨q, (hx5.below q).cells, (hy5.below q).cells, (hv5.below q).cells, (hu5.below q).cells⟩
      have HW5 := Lib.hid hW5
      have HK8 := Lib.hid k8
      have hself : Below W5.heap.size W5 W5 := Below.refl _ _
      clear hx4 hy4 hv4 hu4 hx5 hy5 hv5 hu5 r1 r2 ho ho2 hW5 k7 k8 a63 b63
      go_wp2_with fail
      rw [← HW5.out]
      obtain ⟨⟨p0, p1, p2⟩, ⟨p3, p4, p5⟩, ⟨p6, p7, p8⟩, p9, p10, p11⟩ := (HCW.out W5 hself).2
      go_region_held3 (fun W => Below W5.heap.size W5 W ∧ (W.cell? ⟨w2.heap.size, 0, none⟩ = some (.int .i64 3) ∧ W.cell? ⟨w2.heap.size, 1, none⟩ = some (.int .u64 a) ∧ W.cell? ⟨w2.heap.size, 2, none⟩ = some (.string ⟨#[]⟩)) ∧
          (W.cell? ⟨w2.heap.size + 1, 0, none⟩ = some (.int .i64 3) ∧ W.cell? ⟨w2.heap.size + 1, 1, none⟩ = some (.int .u64 b) ∧ W.cell? ⟨w2.heap.size + 1, 2, none⟩ = some (.string ⟨#[]⟩)) ∧
          (W.cell? ⟨w3.heap.size, 0, none⟩ = some (.int .i64 1) ∧ W.cell? ⟨w3.heap.size, 1, none⟩ = some (.int .u64 a) ∧ W.cell? ⟨w3.heap.size, 2, none⟩ = some (.string ⟨#[]⟩)) ∧
          W.cell? ⟨w4.heap.size, 0, none⟩ = some (.int .i64 1) ∧ W.cell? ⟨w4.heap.size, 1, none⟩ = some (.int .u64 b) ∧ W.cell? ⟨w4.heap.size, 2, none⟩ = some (.string ⟨#[]⟩))
        (first | (exact HCW.out _ (by assumption)) | (exact HCW.out _ (Below.drew (by assumption))))
        (first
          | (go_at_call 24; with_reducible refine (o1 (by first | assumption | exact Below.drew (by assumption) | exact And.left (by assumption))).mono ?_; rintro e w' ⟨rfl, hst⟩)
          | (go_at_call 24; with_reducible refine (o2 (by first | assumption | exact Below.drew (by assumption) | exact And.left (by assumption))).mono ?_; rintro e w' ⟨rfl, hst⟩))
      go_wp2
      go_ret
      exact ⟨ret_bool (by simp), (HK8.out.then_ (by assumption)).below⟩
    · have gb : (E2 != 0) = true := by simpa using e2
      subst e1
      clear e2 hx4 hy4 hv4 hu4
      go_wp2_with fail
      go_ret
      exact ⟨rfl, k7.below⟩
  · have gb : (E1 != 0) = true := by simpa using e1
    clear e1 hx4 hy4 hv4 hu4
    go_wp2_with fail
    go_ret
    exact ⟨rfl, k7.below⟩
set_option maxRecDepth 100000 in
set_option maxHeartbeats 2000000 in
theorem rises10 (h : CSt w w) (a b : Int) (ha : 0 ≤ a ∧ a ≤ 18446744073709551615) (hb : 0 ≤ b ∧ b ≤ 18446744073709551615) : Calls Tryd.prog 8 #[.int .i64 10, .int .u64 a, .int .u64 b] w (Yes w) := by
  obtain ⟨E1, x1, y1, z1, hc1⟩ : ∃ E x y z, capp 10 ⟨1, a, ⟨#[]⟩⟩ = (E, ⟨x, y, z⟩) := ⟨_, _, _, _, rfl⟩
  obtain ⟨E2, x2, y2, z2, hc2⟩ : ∃ E x y z, capp 10 ⟨1, b, ⟨#[]⟩⟩ = (E, ⟨x, y, z⟩) := ⟨_, _, _, _, rfl⟩
  have H1 := Lib.hid hc1
  have H2 := Lib.hid hc2
  have c1 := fun {W : World} (q : CSt w W) => c_apply q ha (by decide) hc1
  have c2 := fun {W : World} (q : CSt w W) => c_apply q hb (by decide) hc2
  have cf : ∀ {W : World}, CSt w W → Calls Tryd.prog 15 #[.int .i64 10] W fun e w' => e = .returned (.int .i64 1) ∧ Below W.heap.size W w' := fun q => cfrom_any q 10
  have HA := Lib.hid ha
  have HB := Lib.hid hb
  clear ha hb hc1 hc2
  go_enter Tryd.func8, Tryd.ntmps8
  go_wp2_with fail
  refine (awake_any h).mono ?_
  rintro e w1 ⟨rfl, k1⟩
  go_wp2_with fail
  refine (cf k1).mono ?_
  rintro e w2 ⟨rfl, b2⟩
  have k2 := (k1.then_ b2).new (.cells #[.int .i64 1, .int .u64 a, .string ⟨#[]⟩] 24)
  have k3 := k2.new (.cells #[.int .i64 1, .int .u64 b, .string ⟨#[]⟩] 24)
  have hx := (VBlk.new w2 ⟨1, a, ⟨#[]⟩⟩).new_ (.cells #[.int .i64 1, .int .u64 b, .string ⟨#[]⟩] 24)
  have hy := VBlk.new (w2.alloc (.cells #[.int .i64 1, .int .u64 a, .string ⟨#[]⟩] 24)) ⟨1, b, ⟨#[]⟩⟩
  rw [show (w2.alloc (.cells #[.int .i64 1, .int .u64 a, .string ⟨#[]⟩] 24)).heap.size = w2.heap.size + 1 by simp] at hy
  go_wp2_with fail
  refine (c1 k3).mono ?_
  rintro e w3 ⟨rfl, k4, b3⟩
  have hx3 := (hx.below b3).new_ (.cells #[.int .i64 x1, .int .u64 y1, .string z1] 24)
  have hy3 := (hy.below b3).new_ (.cells #[.int .i64 x1, .int .u64 y1, .string z1] 24)
  have hv3 := VBlk.new w3 ⟨x1, y1, z1⟩
  have k5 := k4.new (.cells #[.int .i64 x1, .int .u64 y1, .string z1] 24)
  obtain ⟨p0, p1, p2⟩ := hy3.cells
  dsimp only at p0 p1 p2
  clear hx hy b3 k4 k2 k3 b2 k1 c1 cf
  go_wp2_with fail
  refine (c2 k5).mono ?_
  rintro e w4 ⟨rfl, k6, b4⟩
  have hx4 := (hx3.below b4).new_ (.cells #[.int .i64 x2, .int .u64 y2, .string z2] 24)
  have hy4 := (hy3.below b4).new_ (.cells #[.int .i64 x2, .int .u64 y2, .string z2] 24)
  have hv4 := (VBlk.below hv3 b4).new_ (.cells #[.int .i64 x2, .int .u64 y2, .string z2] 24)
  have hu4 := VBlk.new w4 ⟨x2, y2, z2⟩
  have k7 := k6.new (.cells #[.int .i64 x2, .int .u64 y2, .string z2] 24)
  clear p0 p1 p2 hx3 hy3 hv3 b4 k6 k5 c2
  by_cases e1 : E1 = 0
  · by_cases e2 : E2 = 0
    · subst e1 e2
      obtain ⟨a63, r1⟩ := cap_rises (n := 10) (a := a) (by decide) (by show (capp 10 ⟨1, a, ⟨#[]⟩⟩).1 = 0; rw [H1.out])
      obtain ⟨b63, r2⟩ := cap_rises (n := 10) (a := b) (by decide) (by show (capp 10 ⟨1, b, ⟨#[]⟩⟩).1 = 0; rw [H2.out])
      have j1 := (show capp 10 ⟨1, a, ⟨#[]⟩⟩ = (0, ⟨3, a, ⟨#[]⟩⟩) from r1).symm.trans H1.out
      have j2 := (show capp 10 ⟨1, b, ⟨#[]⟩⟩ = (0, ⟨3, b, ⟨#[]⟩⟩) from r2).symm.trans H2.out
      simp only [Prod.mk.injEq, Val.mk.injEq, true_and] at j1 j2
      obtain ⟨rfl, rfl, rfl⟩ := j1
      obtain ⟨rfl, rfl, rfl⟩ := j2
      obtain ⟨o, ho⟩ : ∃ o, ordV ⟨1, a, ⟨#[]⟩⟩ ⟨1, b, ⟨#[]⟩⟩ = o := ⟨_, rfl⟩
      have ho2 : ordV ⟨3, a, ⟨#[]⟩⟩ ⟨3, b, ⟨#[]⟩⟩ = o := (ord_same a63 b63).trans ho
      obtain ⟨W5, hW5⟩ : ∃ W5, W5 = w4.alloc (.cells #[.int .i64 3, .int .u64 b, .string ⟨#[]⟩] 24) := ⟨_, rfl⟩
      have k8 : CSt w W5 := by rw [hW5]; exact k7
      have hx5 : VBlk W5 w2.heap.size ⟨1, a, ⟨#[]⟩⟩ := by rw [hW5]; exact hx4
      have hy5 : VBlk W5 (w2.heap.size + 1) ⟨1, b, ⟨#[]⟩⟩ := by rw [hW5]; exact hy4
      have hv5 : VBlk W5 w3.heap.size ⟨3, a, ⟨#[]⟩⟩ := by rw [hW5]; exact hv4
      have hu5 : VBlk W5 w4.heap.size ⟨3, b, ⟨#[]⟩⟩ := by rw [hW5]; exact hu4
      have o1 : ∀ {W : World}, Below W5.heap.size W5 W → Calls Tryd.prog 24 #[.agg #[.int .i64 1, .int .u64 a, .string ⟨#[]⟩], .agg #[.int .i64 1, .int .u64 b, .string ⟨#[]⟩]] W fun e w' => e = .returned (.int .i64 o) ∧ Below W5.heap.size W5 w' := fun {W} q => by
        rw [← ho]; exact (order_any (k8.then_ q).self.k ⟨1, a, ⟨#[]⟩⟩ ⟨1, b, ⟨#[]⟩⟩ HA.out HB.out).mono fun _ _ ⟨x, y⟩ => ⟨x, Below.both q y.below⟩
      have o2 : ∀ {W : World}, Below W5.heap.size W5 W → Calls Tryd.prog 24 #[.agg #[.int .i64 3, .int .u64 a, .string ⟨#[]⟩], .agg #[.int .i64 3, .int .u64 b, .string ⟨#[]⟩]] W fun e w' => e = .returned (.int .i64 o) ∧ Below W5.heap.size W5 w' := fun {W} q => by
        rw [← ho2]; exact (order_any (k8.then_ q).self.k ⟨3, a, ⟨#[]⟩⟩ ⟨3, b, ⟨#[]⟩⟩ HA.out HB.out).mono fun _ _ ⟨x, y⟩ => ⟨x, Below.both q y.below⟩
      have HCW : Hid (∀ W, Below W5.heap.size W5 W → Below W5.heap.size W5 W ∧ (W.cell? ⟨w2.heap.size, 0, none⟩ = some (.int .i64 1) ∧ W.cell? ⟨w2.heap.size, 1, none⟩ = some (.int .u64 a) ∧ W.cell? ⟨w2.heap.size, 2, none⟩ = some (.string ⟨#[]⟩)) ∧
          (W.cell? ⟨w2.heap.size + 1, 0, none⟩ = some (.int .i64 1) ∧ W.cell? ⟨w2.heap.size + 1, 1, none⟩ = some (.int .u64 b) ∧ W.cell? ⟨w2.heap.size + 1, 2, none⟩ = some (.string ⟨#[]⟩)) ∧
          (W.cell? ⟨w3.heap.size, 0, none⟩ = some (.int .i64 3) ∧ W.cell? ⟨w3.heap.size, 1, none⟩ = some (.int .u64 a) ∧ W.cell? ⟨w3.heap.size, 2, none⟩ = some (.string ⟨#[]⟩)) ∧
          W.cell? ⟨w4.heap.size, 0, none⟩ = some (.int .i64 3) ∧ W.cell? ⟨w4.heap.size, 1, none⟩ = some (.int .u64 b) ∧ W.cell? ⟨w4.heap.size, 2, none⟩ = some (.string ⟨#[]⟩)) := fun W q => ⟨q, (hx5.below q).cells, (hy5.below q).cells, (hv5.below q).cells, (hu5.below q).cells⟩
      have HW5 := Lib.hid hW5
      have HK8 := Lib.hid k8
      have hself : Below W5.heap.size W5 W5 := Below.refl _ _
      clear hx4 hy4 hv4 hu4 hx5 hy5 hv5 hu5 r1 r2 ho ho2 hW5 k7 k8 a63 b63
      go_wp2_with fail
      rw [← HW5.out]
      obtain ⟨⟨p0, p1, p2⟩, ⟨p3, p4, p5⟩, ⟨p6, p7, p8⟩, p9, p10, p11⟩ := (HCW.out W5 hself).2
      go_region_held3 (fun W => Below W5.heap.size W5 W ∧ (W.cell? ⟨w2.heap.size, 0, none⟩ = some (.int .i64 1) ∧ W.cell? ⟨w2.heap.size, 1, none⟩ = some (.int .u64 a) ∧ W.cell? ⟨w2.heap.size, 2, none⟩ = some (.string ⟨#[]⟩)) ∧
          (W.cell? ⟨w2.heap.size + 1, 0, none⟩ = some (.int .i64 1) ∧ W.cell? ⟨w2.heap.size + 1, 1, none⟩ = some (.int .u64 b) ∧ W.cell? ⟨w2.heap.size + 1, 2, none⟩ = some (.string ⟨#[]⟩)) ∧
          (W.cell? ⟨w3.heap.size, 0, none⟩ = some (.int .i64 3) ∧ W.cell? ⟨w3.heap.size, 1, none⟩ = some (.int .u64 a) ∧ W.cell? ⟨w3.heap.size, 2, none⟩ = some (.string ⟨#[]⟩)) ∧
          W.cell? ⟨w4.heap.size, 0, none⟩ = some (.int .i64 3) ∧ W.cell? ⟨w4.heap.size, 1, none⟩ = some (.int .u64 b) ∧ W.cell? ⟨w4.heap.size, 2, none⟩ = some (.string ⟨#[]⟩))
        (first | (exact HCW.out _ (by assumption)) | (exact HCW.out _ (Below.drew (by assumption))))
        (first
          | (go_at_call 24; with_reducible refine (o1 (by first | assumption | exact Below.drew (by assumption) | exact And.left (by assumption))).mono ?_; rintro e w' ⟨rfl, hst⟩)
          | (go_at_call 24; with_reducible refine (o2 (by first | assumption | exact Below.drew (by assumption) | exact And.left (by assumption))).mono ?_; rintro e w' ⟨rfl, hst⟩))
      go_wp2
      go_ret
      exact ⟨ret_bool (by simp), (HK8.out.then_ (by assumption)).below⟩
    · have gb : (E2 != 0) = true := by simpa using e2
      subst e1
      clear e2 hx4 hy4 hv4 hu4
      go_wp2_with fail
      go_ret
      exact ⟨rfl, k7.below⟩
  · have gb : (E1 != 0) = true := by simpa using e1
    clear e1 hx4 hy4 hv4 hu4
    go_wp2_with fail
    go_ret
    exact ⟨rfl, k7.below⟩
theorem rises_any (h : CSt w w) (n a b : Int) (ha : 0 ≤ a ∧ a ≤ 18446744073709551615) (hb : 0 ≤ b ∧ b ≤ 18446744073709551615) : Calls Tryd.prog 8 #[.int .i64 n, .int .u64 a, .int .u64 b] w (Yes w) := by
  by_cases hn : n = 1 ∨ n = 2 ∨ n = 9 ∨ n = 10
  · rcases hn with rfl | rfl | rfl | rfl
    · exact rises1 h a b ha hb
    · exact rises2 h a b ha hb
    · exact rises9 h a b ha hb
    · exact rises10 h a b ha hb
  · exact rises_out h n a b hn
end
end Go.Proofs.YtijgcfnjbfaelaaDoor
