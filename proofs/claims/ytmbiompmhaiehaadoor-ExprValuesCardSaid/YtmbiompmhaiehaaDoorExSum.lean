/- The walks of the code: sums, differences, products of numbers by sign and size. -/
import Derived.Test.YtmbiompmhaiehaaDoorExNum
import Derived.Shelf.Bits.Mul64
namespace Go.Proofs.YtmbiompmhaiehaaDoor
open Go.RowKit

/-- what stands when a function of two numbers begins its work: both, and its answer's block -/
theorem two_nums (w : World) (ba bb : Bool) (sa sb : Nat) : ∃ w3, ((w.alloc (.cells #[.bool ba, .int .u64 (sa : Nat)] 62)).alloc (.cells #[.bool bb, .int .u64 (sb : Nat)] 62)).alloc (.cells #[.bool false, .int .u64 0] 62) = w3 ∧ Below w.heap.size w w3 ∧ w3.heap.size = w.heap.size + 3 ∧
    CB w3 w.heap.size 62 #[.bool ba, .int .u64 (sa : Nat)] ∧ CB w3 (w.heap.size + 1) 62 #[.bool bb, .int .u64 (sb : Nat)] ∧ CB w3 (w.heap.size + 1 + 1) 62 #[.bool false, .int .u64 0] := by
  obtain ⟨w1, hw1⟩ : ∃ w1, w1 = w.alloc (.cells #[.bool ba, .int .u64 (sa : Nat)] 62) := ⟨_, rfl⟩
  obtain ⟨w2, hw2⟩ : ∃ w2, w2 = w1.alloc (.cells #[.bool bb, .int .u64 (sb : Nat)] 62) := ⟨_, rfl⟩
  rw [← hw1, ← hw2]
  have s1 : w1.heap.size = w.heap.size + 1 := by rw [hw1]; simp
  have s2 : w2.heap.size = w.heap.size + 1 + 1 := by rw [hw2]; simp [s1]
  have b1 : Below w.heap.size w w1 := by rw [hw1]; exact (Below.refl _ w).alloc (Nat.le_refl _) _
  have b2 : Below w1.heap.size w1 w2 := by rw [hw2]; exact (Below.refl _ w1).alloc (Nat.le_refl _) _
  have b3 : Below w2.heap.size w2 (w2.alloc (.cells #[.bool false, .int .u64 0] 62)) := (Below.refl _ w2).alloc (Nat.le_refl _) _
  refine ⟨_, rfl, (b1.trans (b2.mono (by omega))).trans (b3.mono (by omega)), by simp [s2], ?_, ?_, ?_⟩
  · exact CB.below (CB.below (by rw [hw1]; exact CB.new w _ _) b2) b3
  · exact CB.below (by rw [← s1, hw2]; exact CB.new w1 _ _) b3
  · rw [← s2]; exact CB.new w2 _ _
/-- the last call's contract, as the walk takes it -/
def LastN (v : Int) (g : Nat) (w0 : World) (e : Ending) (w' : World) : Prop :=
  ∃ (b : Bool) (s : Nat), e = .returned (.tuple #[.agg #[.bool b, .int .u64 (s : Nat)], .bool (inR v)]) ∧ CB w' g 62 #[.bool false, .int .u64 0] ∧ Hid (Below w0.heap.size w0 w' ∧ (inR v = true → b = decide (v < 0) ∧ s = v.natAbs) ∧ s < 18446744073709551616)
theorem NumAt.last {v : Int} {g : Nat} {w0 w : World} {e : Ending} {w' : World} (h : NumAt v w e w') (hg : CB w g 62 #[.bool false, .int .u64 0]) (hb : Below w0.heap.size w0 w) : LastN v g w0 e w' := by
  obtain ⟨b, s, he, h1, h2, h3⟩ := h
  exact ⟨b, s, he, hg.below h1, hb.trans (h1.mono hb.size), h2, h3⟩

set_option maxRecDepth 100000 in
set_option maxHeartbeats 4000000 in
theorem sum_same (w : World) (bl : Bool) (sa sb : Nat) (ha : sa < 18446744073709551616) (hb : sb < 18446744073709551616) :
    Calls Tryd.prog 73 #[.agg #[.bool bl, .int .u64 (sa : Nat)], .agg #[.bool bl, .int .u64 (sb : Nat)]] w (NumAt (sg bl sa + sg bl sb) w) := by
  obtain ⟨w3, hw3, b3, s3, k0, k1, k2⟩ := two_nums w bl bl sa sb
  have c0 : w3.cell? ⟨w.heap.size, 0, none⟩ = some (.bool bl) := k0.at_ 0
  have c1 : w3.cell? ⟨w.heap.size, 1, none⟩ = some (.int .u64 (sa : Nat)) := k0.at_ 1
  have d0 : w3.cell? ⟨w.heap.size + 1, 0, none⟩ = some (.bool bl) := k1.at_ 0
  have d1 : w3.cell? ⟨w.heap.size + 1, 1, none⟩ = some (.int .u64 (sb : Nat)) := k1.at_ 1
  obtain ⟨lo, hlo⟩ : ∃ lo : Nat, (sa + sb) % 18446744073709551616 = lo := ⟨_, rfl⟩
  obtain ⟨ov, hov⟩ : ∃ ov : Nat, (sa + sb) / 18446744073709551616 = ov := ⟨_, rfl⟩
  have hadd : (callFunc 85 #[.int .u64 (sa : Nat), .int .u64 (sb : Nat), .int .u64 0]).run Tryd.prog w3 = .ok (.value (.tuple #[.int .u64 (lo : Nat), .int .u64 (ov : Nat)])) w3 := by
    rw [run_callFunc_extern Tryd.func85 (by kernel_rfl) (by kernel_rfl) (by kernel_rfl) (e := Go.add64Entry) (by kernel_rfl), Go.run_add64 (sa : Int) (sb : Int) 0 (by omega) (by omega) (by omega) (by omega)]
    rw [show ((sa : Int) + sb + 0) % 18446744073709551616 = (lo : Int) by omega, show ((sa : Int) + sb + 0) / 18446744073709551616 = (ov : Int) by omega]
    rfl
  have CN : Hid (Calls Tryd.prog 76 #[.bool bl, .int .u64 (ov : Nat), .int .u64 (lo : Nat)] w3 (LastN (sg bl sa + sg bl sb) (w.heap.size + 1 + 1) w)) :=
    (bounded_any w3 bl ov lo (by omega) (sg bl sa + sg bl sb) (by cases bl <;> simp only [sg, if_true, if_false, Bool.false_eq_true] <;> omega)).mono fun e w' h => h.last k2 b3
  have hbb : (bl == bl) = true := by cases bl <;> rfl
  clear k0 k1 k2 ha hb hlo hov b3
  go_enter Tryd.func73, Tryd.ntmps73
  go_wp2_with (first
    | (go_at_call 76; refine CN.out.mono ?_; rintro e w4 ⟨b, s, rfl, h4, H4⟩)
    | (refine wpList_store_cb rfl 62 (.tmp 4) (.tmp 26) rfl (w.heap.size + 1 + 1) _ #[.bool b, .int .u64 (s : Nat)] rfl rfl h4 rfl (by kernel_rfl) (by kernel_rfl) ?_; intro w9 h9 t9))
  exact bodyPost_ret (v := .tuple #[.agg #[.bool b, .int .u64 (s : Nat)], .bool (inR (sg bl sa + sg bl sb))]) (results_cv rfl _ _ _ _ _ rfl rfl h9 Tryd.underlying62 rfl (by kernel_rfl)) rfl ⟨b, s, rfl, H4.out.1.trans (t9.below (by omega)), H4.out.2⟩

set_option maxRecDepth 100000 in
set_option maxHeartbeats 4000000 in
theorem sum_ge (w : World) (bl : Bool) (sa sb : Nat) (ha : sa < 18446744073709551616) (hle : sb ≤ sa) :
    Calls Tryd.prog 73 #[.agg #[.bool bl, .int .u64 (sa : Nat)], .agg #[.bool (!bl), .int .u64 (sb : Nat)]] w (NumAt (sg bl sa + sg (!bl) sb) w) := by
  obtain ⟨w3, hw3, b3, s3, k0, k1, k2⟩ := two_nums w bl (!bl) sa sb
  have c0 : w3.cell? ⟨w.heap.size, 0, none⟩ = some (.bool bl) := k0.at_ 0
  have c1 : w3.cell? ⟨w.heap.size, 1, none⟩ = some (.int .u64 (sa : Nat)) := k0.at_ 1
  have d0 : w3.cell? ⟨w.heap.size + 1, 0, none⟩ = some (.bool (!bl)) := k1.at_ 0
  have d1 : w3.cell? ⟨w.heap.size + 1, 1, none⟩ = some (.int .u64 (sb : Nat)) := k1.at_ 1
  obtain ⟨df, hdf⟩ : ∃ df : Nat, sa - sb = df := ⟨_, rfl⟩
  have hw : IntKind.u64.wrap ((sa : Int) - (sb : Int)) = (df : Int) := by rw [IntKind.wrap_u64]; omega
  have hz : decide ((sa : Int) < (sb : Int)) = false := decide_eq_false (by omega)
  have hz' : ¬ (sa : Int) < (sb : Int) := by omega
  have CN : Hid (Calls Tryd.prog 76 #[.bool bl, .int .u64 0, .int .u64 (df : Nat)] w3 (LastN (sg bl sa + sg (!bl) sb) (w.heap.size + 1 + 1) w)) :=
    (bounded_any w3 bl 0 df (by omega) (sg bl sa + sg (!bl) sb) (by cases bl <;> simp only [sg, if_true, if_false, Bool.false_eq_true, Bool.not_true, Bool.not_false] <;> omega)).mono fun e w' h => h.last k2 b3
  have hbb : (bl == !bl) = false := by cases bl <;> rfl
  clear k0 k1 k2 ha hle hdf b3
  go_enter Tryd.func73, Tryd.ntmps73
  go_wp2_with (first
    | (go_at_call 76; refine CN.out.mono ?_; rintro e w4 ⟨b, s, rfl, h4, H4⟩)
    | (refine wpList_store_cb rfl 62 (.tmp 4) (.tmp 43) rfl (w.heap.size + 1 + 1) _ #[.bool b, .int .u64 (s : Nat)] rfl rfl h4 rfl (by kernel_rfl) (by kernel_rfl) ?_; intro w9 h9 t9))
  exact bodyPost_ret (v := .tuple #[.agg #[.bool b, .int .u64 (s : Nat)], .bool (inR (sg bl sa + sg (!bl) sb))]) (results_cv rfl _ _ _ _ _ rfl rfl h9 Tryd.underlying62 rfl (by kernel_rfl)) rfl ⟨b, s, rfl, H4.out.1.trans (t9.below (by omega)), H4.out.2⟩

set_option maxRecDepth 100000 in
set_option maxHeartbeats 4000000 in
theorem sum_lt (w : World) (bl : Bool) (sa sb : Nat) (hb : sb < 18446744073709551616) (hlt : sa < sb) :
    Calls Tryd.prog 73 #[.agg #[.bool bl, .int .u64 (sa : Nat)], .agg #[.bool (!bl), .int .u64 (sb : Nat)]] w (NumAt (sg bl sa + sg (!bl) sb) w) := by
  obtain ⟨w3, hw3, b3, s3, k0, k1, k2⟩ := two_nums w bl (!bl) sa sb
  have c0 : w3.cell? ⟨w.heap.size, 0, none⟩ = some (.bool bl) := k0.at_ 0
  have c1 : w3.cell? ⟨w.heap.size, 1, none⟩ = some (.int .u64 (sa : Nat)) := k0.at_ 1
  have d0 : w3.cell? ⟨w.heap.size + 1, 0, none⟩ = some (.bool (!bl)) := k1.at_ 0
  have d1 : w3.cell? ⟨w.heap.size + 1, 1, none⟩ = some (.int .u64 (sb : Nat)) := k1.at_ 1
  obtain ⟨df, hdf⟩ : ∃ df : Nat, sb - sa = df := ⟨_, rfl⟩
  have hw : IntKind.u64.wrap ((sb : Int) - (sa : Int)) = (df : Int) := by rw [IntKind.wrap_u64]; omega
  have hz : decide ((sa : Int) < (sb : Int)) = true := decide_eq_true (by omega)
  have hz' : (sa : Int) < (sb : Int) := by omega
  have SW : Hid (∀ w5 w6, CB w5 w.heap.size 62 #[.bool (!bl), .int .u64 (sb : Nat)] → Turned w.heap.size w3 w5 → CB w6 (w.heap.size + 1) 62 #[.bool bl, .int .u64 (sa : Nat)] → Turned (w.heap.size + 1) w5 w6 →
      (w6.cell? ⟨w.heap.size, 0, none⟩ = some (.bool (!bl)) ∧ w6.cell? ⟨w.heap.size, 1, none⟩ = some (.int .u64 (sb : Nat))) ∧ w6.cell? ⟨w.heap.size + 1, 1, none⟩ = some (.int .u64 (sa : Nat)) ∧
      Hid (Calls Tryd.prog 76 #[.bool (!bl), .int .u64 0, .int .u64 (df : Nat)] w6 (LastN (sg bl sa + sg (!bl) sb) (w.heap.size + 1 + 1) w))) := fun w5 w6 h5 t5 h6 t6 => by
    have a5 := h5.keep (t6.others _ (by omega))
    have kz := (k2.keep (t5.others _ (by omega))).keep (t6.others _ (by omega))
    have hb6 : Below w.heap.size w w6 := (b3.trans (t5.below (Nat.le_refl _))).trans (t6.below (by omega))
    refine ⟨⟨a5.at_ 0, a5.at_ 1⟩, h6.at_ 1, (bounded_any w6 (!bl) 0 df (by omega) (sg bl sa + sg (!bl) sb) (by cases bl <;> simp only [sg, if_true, if_false, Bool.false_eq_true, Bool.not_true, Bool.not_false] <;> omega)).mono fun e w' h => h.last kz hb6⟩
  have hbb : (bl == !bl) = false := by cases bl <;> rfl
  have S1 : Hid (∀ w5, Turned w.heap.size w3 w5 → CB w5 (w.heap.size + 1) 62 #[.bool (!bl), .int .u64 (sb : Nat)]) := fun w5 t5 => k1.keep (t5.others _ (by omega))
  have K0 := Lib.hid k0
  clear k0 k1 k2 hb hlt hdf b3
  go_enter Tryd.func73, Tryd.ntmps73
  go_wp2_with (first
    | (refine wpList_store_cb rfl 62 (.tmp 2) (.tmp 33) rfl w.heap.size _ #[.bool (!bl), .int .u64 (sb : Nat)] rfl rfl K0.out rfl (by kernel_rfl) (by kernel_rfl) ?_; intro w5 h5 t5; have k5 := S1.out w5 t5)
    | (refine wpList_store_cb rfl 62 (.tmp 3) (.tmp 34) rfl (w.heap.size + 1) _ #[.bool bl, .int .u64 (sa : Nat)] rfl rfl k5 rfl (by kernel_rfl) (by kernel_rfl) ?_; intro w6 h6 t6; obtain ⟨⟨e0, e1⟩, e2, CN⟩ := SW.out w5 w6 h5 t5 h6 t6)
    | (go_at_call 76; refine CN.out.mono ?_; rintro e w4 ⟨b, s, rfl, h4, H4⟩)
    | (refine wpList_store_cb rfl 62 (.tmp 4) (.tmp 43) rfl (w.heap.size + 1 + 1) _ #[.bool b, .int .u64 (s : Nat)] rfl rfl h4 rfl (by kernel_rfl) (by kernel_rfl) ?_; intro w9 h9 t9))
  exact bodyPost_ret (v := .tuple #[.agg #[.bool b, .int .u64 (s : Nat)], .bool (inR (sg bl sa + sg (!bl) sb))]) (results_cv rfl _ _ _ _ _ rfl rfl h9 Tryd.underlying62 rfl (by kernel_rfl)) rfl ⟨b, s, rfl, H4.out.1.trans (t9.below (by omega)), H4.out.2⟩

/-- sums, whatever the signs -/
theorem sum_any (w : World) (ba bb : Bool) (sa sb : Nat) (ha : sa < 18446744073709551616) (hb : sb < 18446744073709551616) :
    Calls Tryd.prog 73 #[.agg #[.bool ba, .int .u64 (sa : Nat)], .agg #[.bool bb, .int .u64 (sb : Nat)]] w (NumAt (sg ba sa + sg bb sb) w) := by
  by_cases h : bb = ba
  · subst h
    exact sum_same w bb sa sb ha hb
  · have h' : bb = !ba := by cases ba <;> cases bb <;> simp_all
    subst h'
    by_cases hl : sb ≤ sa
    · exact sum_ge w ba sa sb ha hl
    · exact sum_lt w ba sa sb hb (by omega)

set_option maxRecDepth 100000 in
set_option maxHeartbeats 4000000 in
theorem difference_any (w : World) (v u : Int) (hv : v.natAbs < 18446744073709551616) (hu : u.natAbs < 18446744073709551616) :
    Calls Tryd.prog 51 #[.agg (numC v), .agg (numC u)] w (NumAt (v - u) w) := by
  obtain ⟨ba, hba⟩ : ∃ ba : Bool, decide (v < 0) = ba := ⟨_, rfl⟩
  obtain ⟨sa, hsa⟩ : ∃ sa : Nat, v.natAbs = sa := ⟨_, rfl⟩
  obtain ⟨bb, hbb⟩ : ∃ bb : Bool, decide (u < 0) = bb := ⟨_, rfl⟩
  obtain ⟨sb, hsb⟩ : ∃ sb : Nat, u.natAbs = sb := ⟨_, rfl⟩
  obtain ⟨w3, hw3, b3, s3, k0, k1, k2⟩ := two_nums w ba bb sa sb
  have c0 : w3.cell? ⟨w.heap.size, 0, none⟩ = some (.bool ba) := k0.at_ 0
  have c1 : w3.cell? ⟨w.heap.size, 1, none⟩ = some (.int .u64 (sa : Nat)) := k0.at_ 1
  have d0 : w3.cell? ⟨w.heap.size + 1, 0, none⟩ = some (.bool bb) := k1.at_ 0
  have d1 : w3.cell? ⟨w.heap.size + 1, 1, none⟩ = some (.int .u64 (sb : Nat)) := k1.at_ 1
  have e : sg ba sa + sg (!bb) sb = v - u := by
    have h1 := sg_numC v
    have h2 := sg_numC u
    rw [hba, hsa] at h1
    rw [hbb, hsb] at h2
    have h3 : sg (!bb) sb = -sg bb sb := by cases bb <;> simp [sg]
    rw [h1, h3, h2]
    omega
  have CN : Hid (Calls Tryd.prog 73 #[.agg #[.bool ba, .int .u64 (sa : Nat)], .agg #[.bool (!bb), .int .u64 (sb : Nat)]] w3 (LastN (v - u) (w.heap.size + 1 + 1) w)) := by
    have := (sum_any w3 ba (!bb) sa sb (by omega) (by omega)).mono fun e w' h => h.last k2 b3
    rw [e] at this
    exact this
  unfold numC
  rw [hba, hsa, hbb, hsb]
  obtain ⟨D, hD⟩ : ∃ D, v - u = D := ⟨_, rfl⟩
  rw [hD] at CN
  rw [hD]
  clear k0 k1 k2 hv hu hba hsa hbb hsb e hD b3
  go_enter Tryd.func51, Tryd.ntmps51
  go_wp2_with (first
    | (go_at_call 73; refine CN.out.mono ?_; rintro e w4 ⟨b, s, rfl, h4, H4⟩)
    | (refine wpList_store_cb rfl 62 (.tmp 4) (.tmp 14) rfl (w.heap.size + 1 + 1) _ #[.bool b, .int .u64 (s : Nat)] rfl rfl h4 rfl (by kernel_rfl) (by kernel_rfl) ?_; intro w9 h9 t9))
  exact bodyPost_ret (v := .tuple #[.agg #[.bool b, .int .u64 (s : Nat)], .bool (inR D)]) (results_cv rfl _ _ _ _ _ rfl rfl h9 Tryd.underlying62 rfl (by kernel_rfl)) rfl ⟨b, s, rfl, H4.out.1.trans (t9.below (by omega)), H4.out.2⟩

set_option maxRecDepth 100000 in
set_option maxHeartbeats 4000000 in
theorem product_any (w : World) (v u : Int) (hv : v.natAbs < 18446744073709551616) (hu : u.natAbs < 18446744073709551616) :
    Calls Tryd.prog 52 #[.agg (numC v), .agg (numC u)] w (NumAt (v * u) w) := by
  obtain ⟨ba, hba⟩ : ∃ ba : Bool, decide (v < 0) = ba := ⟨_, rfl⟩
  obtain ⟨sa, hsa⟩ : ∃ sa : Nat, v.natAbs = sa := ⟨_, rfl⟩
  obtain ⟨bb, hbb⟩ : ∃ bb : Bool, decide (u < 0) = bb := ⟨_, rfl⟩
  obtain ⟨sb, hsb⟩ : ∃ sb : Nat, u.natAbs = sb := ⟨_, rfl⟩
  obtain ⟨w3, hw3, b3, s3, k0, k1, k2⟩ := two_nums w ba bb sa sb
  have c0 : w3.cell? ⟨w.heap.size, 0, none⟩ = some (.bool ba) := k0.at_ 0
  have c1 : w3.cell? ⟨w.heap.size, 1, none⟩ = some (.int .u64 (sa : Nat)) := k0.at_ 1
  have d0 : w3.cell? ⟨w.heap.size + 1, 0, none⟩ = some (.bool bb) := k1.at_ 0
  have d1 : w3.cell? ⟨w.heap.size + 1, 1, none⟩ = some (.int .u64 (sb : Nat)) := k1.at_ 1
  obtain ⟨lo, hlo⟩ : ∃ lo : Nat, sa * sb % 18446744073709551616 = lo := ⟨_, rfl⟩
  obtain ⟨ov, hov⟩ : ∃ ov : Nat, sa * sb / 18446744073709551616 = ov := ⟨_, rfl⟩
  have cm := Tryd.bits_Mul64 sa sb (by omega) (by omega) w3
  rw [hlo, hov] at cm
  have hm : ov * 18446744073709551616 + lo = sa * sb := by rw [← hlo, ← hov]; exact Nat.div_add_mod' _ _
  have e : v * u = sg (ba != bb) (ov * 18446744073709551616 + lo) := by
    have h1 := sg_numC v
    have h2 := sg_numC u
    rw [hba, hsa] at h1
    rw [hbb, hsb] at h2
    rw [hm, ← h1, ← h2]
    cases ba <;> cases bb <;> simp [sg, Int.neg_mul, Int.mul_neg]
  have CN : Hid (Calls Tryd.prog 76 #[.bool (ba != bb), .int .u64 (ov : Nat), .int .u64 (lo : Nat)] w3 (LastN (v * u) (w.heap.size + 1 + 1) w)) :=
    (bounded_any w3 (ba != bb) ov lo (by omega) (v * u) e).mono fun e w' h => h.last k2 b3
  unfold numC
  rw [hba, hsa, hbb, hsb]
  obtain ⟨D, hD⟩ : ∃ D, v * u = D := ⟨_, rfl⟩
  rw [hD] at CN
  rw [hD]
  have CM := Lib.hid cm
  clear k0 k1 k2 hv hu hba hsa hbb hsb e hD b3 hlo hov hm cm
  go_enter Tryd.func52, Tryd.ntmps52
  go_wp2_with (first
    | (go_at_call 75; refine CM.out.mono ?_; rintro e w4 ⟨rfl, rfl⟩)
    | (go_at_call 76; refine CN.out.mono ?_; rintro e w4 ⟨b, s, rfl, h4, H4⟩)
    | (refine wpList_store_cb rfl 62 (.tmp 4) (.tmp 24) rfl (w.heap.size + 1 + 1) _ #[.bool b, .int .u64 (s : Nat)] rfl rfl h4 rfl (by kernel_rfl) (by kernel_rfl) ?_; intro w9 h9 t9))
  exact bodyPost_ret (v := .tuple #[.agg #[.bool b, .int .u64 (s : Nat)], .bool (inR D)]) (results_cv rfl _ _ _ _ _ rfl rfl h9 Tryd.underlying62 rfl (by kernel_rfl)) rfl ⟨b, s, rfl, H4.out.1.trans (t9.below (by omega)), H4.out.2⟩
end Go.Proofs.YtmbiompmhaiehaaDoor
