/- The walk of the reference: the root's thing as a value of a kind (gen_rlast.py). -/
import Derived.Test.YtmbiompmhaiehaaDoorExGr
import Derived.Test.YtmbiompmhaiehaaDoorExGu
import Derived.Test.YtmbiompmhaiehaaDoorExGs
import Derived.Test.YtmbiompmhaiehaaDoorExValue
import Derived.Laws.OwnMore
import Derived.ArgAppend
namespace Go.Proofs.YtmbiompmhaiehaaDoor
open Go.RowKit

/-- what is answered of a value or an error -/
def VAt (r : Except Nat (Nat × List UInt8)) (k : Int) (w : World) (e : Ending) (w' : World) : Prop := ∃ (z0 : Int) (z1 : Int) (z2 : ByteArray) (x : Int), e = .returned (.tuple #[.agg #[.int .i64 z0, .int .u64 z1, .string z2], .int .i64 x]) ∧ Below w.heap.size w w' ∧
  match r with
  | .ok (n, s) => x = 0 ∧ z0 = k ∧ z1 = (n : Nat) ∧ z2 = str s
  | .error e => x = (e : Nat) ∧ x ≠ 0
def VSays (r : Except Nat (Nat × List UInt8)) (k : Int) (z0 z1 : Int) (z2 : ByteArray) (x : Int) : Prop := match r with
  | .ok (n, s) => x = 0 ∧ z0 = k ∧ z1 = (n : Nat) ∧ z2 = str s
  | .error e => x = (e : Nat) ∧ x ≠ 0
theorem vsays_err {k z0 z1 : Int} {z2 : ByteArray} {e : Nat} (h : e ≠ 0) {x : Int} (hx : x = (e : Nat)) : VSays (.error e) k z0 z1 z2 x := ⟨hx, by omega⟩
/-- a thing that a node stands for -/
def ThIn (t : Th) : Prop := match t with
  | .num v => -9223372036854775808 ≤ v ∧ v < 18446744073709551616
  | .text s => s.length ≤ 140737488355328
  | .bytes s => s.length ≤ 140737488355328
  | _ => True
set_option maxRecDepth 100000 in
set_option maxHeartbeats 4000000 in
theorem rlast_num1 (w : World) (v : Int) (hv : -9223372036854775808 ≤ v ∧ v < 18446744073709551616) : Calls Tryd.prog 21 #[.agg (thR (.num v)), .int .i64 1] w (VAt (lastV (.num v) 1) 1 w) := by
  obtain ⟨M, hM⟩ : ∃ M : Int, (v.natAbs : Int) = M := ⟨_, rfl⟩
  show Calls _ _ #[.agg #[.int .i64 1, .bool (decide (v < 0)), .int .u64 (v.natAbs : Nat), .string ⟨#[]⟩], _] _ _
  rw [hM]
  by_cases hn : v < 0
  case pos =>
    rw [show decide (v < 0) = true by simp; omega]
    obtain ⟨wz, hww⟩ : ∃ W : World, ((w.alloc (.cells #[.int .i64 1, .bool true, .int .u64 M, .string ⟨#[]⟩] 51)).alloc (.cells #[.int .i64 0, .int .u64 0, .string ⟨#[]⟩] 31)).alloc (.cells #[.int .i64 1, .int .u64 0, .string ⟨#[]⟩] 31) = W := ⟨_, rfl⟩
    have BZ : Hid (Below w.heap.size w wz) := by
      rw [← hww]
      exact ((((Below.refl _ w).alloc (Nat.le_refl _) _).alloc (by simp) _).alloc (by simp; omega) _)
    have kz0 : Hid (CB wz (w.heap.size) 51 #[.int .i64 1, .bool true, .int .u64 M, .string ⟨#[]⟩]) := by
      rw [← hww]
      have h := CB.new w 51 #[.int .i64 1, .bool true, .int .u64 M, .string ⟨#[]⟩]
      have h : CB (w.alloc (.cells #[.int .i64 1, .bool true, .int .u64 M, .string ⟨#[]⟩] 51)) (w.heap.size) 51 #[.int .i64 1, .bool true, .int .u64 M, .string ⟨#[]⟩] := by simpa using h
      exact ((h.below ((Below.refl _ _).alloc (Nat.le_refl _) _)).below ((Below.refl _ _).alloc (Nat.le_refl _) _))
    have kz1 : Hid (CB wz (w.heap.size + 1) 31 #[.int .i64 0, .int .u64 0, .string ⟨#[]⟩]) := by
      rw [← hww]
      have h := CB.new (w.alloc (.cells #[.int .i64 1, .bool true, .int .u64 M, .string ⟨#[]⟩] 51)) 31 #[.int .i64 0, .int .u64 0, .string ⟨#[]⟩]
      have h : CB ((w.alloc (.cells #[.int .i64 1, .bool true, .int .u64 M, .string ⟨#[]⟩] 51)).alloc (.cells #[.int .i64 0, .int .u64 0, .string ⟨#[]⟩] 31)) (w.heap.size + 1) 31 #[.int .i64 0, .int .u64 0, .string ⟨#[]⟩] := by simpa using h
      exact (h.below ((Below.refl _ _).alloc (Nat.le_refl _) _))
    have kz2 : Hid (CB wz (w.heap.size + 1 + 1) 31 #[.int .i64 1, .int .u64 0, .string ⟨#[]⟩]) := by
      rw [← hww]
      have h := CB.new ((w.alloc (.cells #[.int .i64 1, .bool true, .int .u64 M, .string ⟨#[]⟩] 51)).alloc (.cells #[.int .i64 0, .int .u64 0, .string ⟨#[]⟩] 31)) 31 #[.int .i64 1, .int .u64 0, .string ⟨#[]⟩]
      have h : CB (((w.alloc (.cells #[.int .i64 1, .bool true, .int .u64 M, .string ⟨#[]⟩] 51)).alloc (.cells #[.int .i64 0, .int .u64 0, .string ⟨#[]⟩] 31)).alloc (.cells #[.int .i64 1, .int .u64 0, .string ⟨#[]⟩] 31)) (w.heap.size + 1 + 1) 31 #[.int .i64 1, .int .u64 0, .string ⟨#[]⟩] := by simpa using h
      exact h
    have HWW := Lib.hid hww
    clear hww
    have c00 : wz.cell? ⟨w.heap.size, 0, none⟩ = some (.int .i64 1) := CB.at_ kz0.out 0
    have c01 : wz.cell? ⟨w.heap.size, 1, none⟩ = some (.bool true) := CB.at_ kz0.out 1
    have c02 : wz.cell? ⟨w.heap.size, 2, none⟩ = some (.int .u64 M) := CB.at_ kz0.out 2
    have HS : Hid (VSays (lastV (.num v) 1) 1 0 0 ⟨#[]⟩ 111) := by
      unfold Hid
      rw [last_one, if_pos hn]
      exact vsays_err (e := 111) (by decide) rfl
    obtain ⟨R, hR⟩ : ∃ R, lastV (.num v) 1 = R := ⟨_, rfl⟩
    rw [hR] at HS ⊢
    clear hR
    clear hM hv hn
    go_enter Tryd.func21, Tryd.ntmps21
    go_upto_region 3 with fail
    rw [HWW.out]
    go_upto_region 5 with fail
    go_wp2_with (refine wpList_store_cb rfl 31 (.tmp 4) (.tmp 20) rfl (w.heap.size + 1) _ #[.int .i64 0, .int .u64 0, .string ⟨#[]⟩] rfl rfl kz1.out rfl (by kernel_rfl) (by kernel_rfl) ?_; intro w9 k9 t9)
    exact bodyPost_ret (v := .tuple #[.agg #[.int .i64 0, .int .u64 0, .string ⟨#[]⟩], .int .i64 111]) (results_cv rfl _ _ _ _ _ rfl rfl k9 Tryd.underlying31 rfl (by kernel_rfl)) rfl ⟨_, _, _, _, rfl, BZ.out.trans (t9.below (by omega)), HS.out⟩
  rw [show decide (v < 0) = false by simp; omega]
  obtain ⟨wz, hww⟩ : ∃ W : World, ((w.alloc (.cells #[.int .i64 1, .bool false, .int .u64 M, .string ⟨#[]⟩] 51)).alloc (.cells #[.int .i64 0, .int .u64 0, .string ⟨#[]⟩] 31)).alloc (.cells #[.int .i64 1, .int .u64 0, .string ⟨#[]⟩] 31) = W := ⟨_, rfl⟩
  have BZ : Hid (Below w.heap.size w wz) := by
    rw [← hww]
    exact ((((Below.refl _ w).alloc (Nat.le_refl _) _).alloc (by simp) _).alloc (by simp; omega) _)
  have kz0 : Hid (CB wz (w.heap.size) 51 #[.int .i64 1, .bool false, .int .u64 M, .string ⟨#[]⟩]) := by
    rw [← hww]
    have h := CB.new w 51 #[.int .i64 1, .bool false, .int .u64 M, .string ⟨#[]⟩]
    have h : CB (w.alloc (.cells #[.int .i64 1, .bool false, .int .u64 M, .string ⟨#[]⟩] 51)) (w.heap.size) 51 #[.int .i64 1, .bool false, .int .u64 M, .string ⟨#[]⟩] := by simpa using h
    exact ((h.below ((Below.refl _ _).alloc (Nat.le_refl _) _)).below ((Below.refl _ _).alloc (Nat.le_refl _) _))
  have kz1 : Hid (CB wz (w.heap.size + 1) 31 #[.int .i64 0, .int .u64 0, .string ⟨#[]⟩]) := by
    rw [← hww]
    have h := CB.new (w.alloc (.cells #[.int .i64 1, .bool false, .int .u64 M, .string ⟨#[]⟩] 51)) 31 #[.int .i64 0, .int .u64 0, .string ⟨#[]⟩]
    have h : CB ((w.alloc (.cells #[.int .i64 1, .bool false, .int .u64 M, .string ⟨#[]⟩] 51)).alloc (.cells #[.int .i64 0, .int .u64 0, .string ⟨#[]⟩] 31)) (w.heap.size + 1) 31 #[.int .i64 0, .int .u64 0, .string ⟨#[]⟩] := by simpa using h
    exact (h.below ((Below.refl _ _).alloc (Nat.le_refl _) _))
  have kz2 : Hid (CB wz (w.heap.size + 1 + 1) 31 #[.int .i64 1, .int .u64 0, .string ⟨#[]⟩]) := by
    rw [← hww]
    have h := CB.new ((w.alloc (.cells #[.int .i64 1, .bool false, .int .u64 M, .string ⟨#[]⟩] 51)).alloc (.cells #[.int .i64 0, .int .u64 0, .string ⟨#[]⟩] 31)) 31 #[.int .i64 1, .int .u64 0, .string ⟨#[]⟩]
    have h : CB (((w.alloc (.cells #[.int .i64 1, .bool false, .int .u64 M, .string ⟨#[]⟩] 51)).alloc (.cells #[.int .i64 0, .int .u64 0, .string ⟨#[]⟩] 31)).alloc (.cells #[.int .i64 1, .int .u64 0, .string ⟨#[]⟩] 31)) (w.heap.size + 1 + 1) 31 #[.int .i64 1, .int .u64 0, .string ⟨#[]⟩] := by simpa using h
    exact h
  have HWW := Lib.hid hww
  clear hww
  have c00 : wz.cell? ⟨w.heap.size, 0, none⟩ = some (.int .i64 1) := CB.at_ kz0.out 0
  have c01 : wz.cell? ⟨w.heap.size, 1, none⟩ = some (.bool false) := CB.at_ kz0.out 1
  have c02 : wz.cell? ⟨w.heap.size, 2, none⟩ = some (.int .u64 M) := CB.at_ kz0.out 2
  have HS : Hid (VSays (lastV (.num v) 1) 1 1 M ⟨#[]⟩ 0) := by
    unfold Hid
    rw [last_one, if_neg hn]
    exact ⟨rfl, rfl, by omega, rfl⟩
  obtain ⟨R, hR⟩ : ∃ R, lastV (.num v) 1 = R := ⟨_, rfl⟩
  rw [hR] at HS ⊢
  clear hR
  clear hM hv hn
  have z21 : wz.frozen? ⟨w.heap.size + 1 + 1, 1, none⟩ = false := CB.frozen kz2.out 1
  have c21 : wz.cell? ⟨w.heap.size + 1 + 1, 1, none⟩ = some (.int .u64 0) := CB.at_ kz2.out 1
  go_enter Tryd.func21, Tryd.ntmps21
  go_upto_region 3 with fail
  rw [HWW.out]
  go_upto_region 20 with fail
  obtain ⟨w8, hw8⟩ : ∃ W, wz.setCell ⟨w.heap.size + 1 + 1, 1, none⟩ (.int .u64 M) = W := ⟨_, rfl⟩
  have t8 : Turned (w.heap.size + 1 + 1) wz w8 := by rw [← hw8]; exact (Turned.refl _ _).setCell 1 _
  have v8 : Hid (CB w8 (w.heap.size + 1 + 1) 31 #[.int .i64 1, .int .u64 M, .string ⟨#[]⟩]) := by rw [← hw8]; exact heap_setCell_same wz (w.heap.size + 1 + 1) 1 _ _ (.int .u64 M) kz2.out
  have r8 : Hid (CB w8 (w.heap.size + 1) 31 #[.int .i64 0, .int .u64 0, .string ⟨#[]⟩]) := (t8.others _ (by omega)).trans kz1.out
  have B8 : Hid (Below w.heap.size w w8) := BZ.out.trans (t8.below (by omega))
  rw [hw8]
  have d0 : w8.cell? ⟨w.heap.size + 1 + 1, 0, none⟩ = some (.int .i64 1) := CB.at_ v8.out 0
  have d1 : w8.cell? ⟨w.heap.size + 1 + 1, 1, none⟩ = some (.int .u64 M) := CB.at_ v8.out 1
  have d2 : w8.cell? ⟨w.heap.size + 1 + 1, 2, none⟩ = some (.string ⟨#[]⟩) := CB.at_ v8.out 2
  clear hw8 t8
  go_wp2_with (refine wpList_store_cb rfl 31 (.tmp 4) (.tmp 83) rfl (w.heap.size + 1) _ #[.int .i64 1, .int .u64 M, .string ⟨#[]⟩] rfl rfl r8.out rfl (by kernel_rfl) (by kernel_rfl) ?_; intro w9 k9 t9)
  exact bodyPost_ret (v := .tuple #[.agg #[.int .i64 1, .int .u64 M, .string ⟨#[]⟩], .int .i64 0]) (results_cv rfl _ _ _ _ _ rfl rfl k9 Tryd.underlying31 rfl (by kernel_rfl)) rfl ⟨_, _, _, _, rfl, B8.out.trans (t9.below (by omega)), HS.out⟩
set_option maxRecDepth 100000 in
set_option maxHeartbeats 4000000 in
theorem rlast_num2 (w : World) (v : Int) (hv : -9223372036854775808 ≤ v ∧ v < 18446744073709551616) : Calls Tryd.prog 21 #[.agg (thR (.num v)), .int .i64 2] w (VAt (lastV (.num v) 2) 2 w) := by
  obtain ⟨M, hM⟩ : ∃ M : Int, (v.natAbs : Int) = M := ⟨_, rfl⟩
  show Calls _ _ #[.agg #[.int .i64 1, .bool (decide (v < 0)), .int .u64 (v.natAbs : Nat), .string ⟨#[]⟩], _] _ _
  rw [hM]
  by_cases hn : v < 0
  case pos =>
    rw [show decide (v < 0) = true by simp; omega]
    obtain ⟨wz, hww⟩ : ∃ W : World, ((w.alloc (.cells #[.int .i64 1, .bool true, .int .u64 M, .string ⟨#[]⟩] 51)).alloc (.cells #[.int .i64 0, .int .u64 0, .string ⟨#[]⟩] 31)).alloc (.cells #[.int .i64 2, .int .u64 0, .string ⟨#[]⟩] 31) = W := ⟨_, rfl⟩
    have BZ : Hid (Below w.heap.size w wz) := by
      rw [← hww]
      exact ((((Below.refl _ w).alloc (Nat.le_refl _) _).alloc (by simp) _).alloc (by simp; omega) _)
    have kz0 : Hid (CB wz (w.heap.size) 51 #[.int .i64 1, .bool true, .int .u64 M, .string ⟨#[]⟩]) := by
      rw [← hww]
      have h := CB.new w 51 #[.int .i64 1, .bool true, .int .u64 M, .string ⟨#[]⟩]
      have h : CB (w.alloc (.cells #[.int .i64 1, .bool true, .int .u64 M, .string ⟨#[]⟩] 51)) (w.heap.size) 51 #[.int .i64 1, .bool true, .int .u64 M, .string ⟨#[]⟩] := by simpa using h
      exact ((h.below ((Below.refl _ _).alloc (Nat.le_refl _) _)).below ((Below.refl _ _).alloc (Nat.le_refl _) _))
    have kz1 : Hid (CB wz (w.heap.size + 1) 31 #[.int .i64 0, .int .u64 0, .string ⟨#[]⟩]) := by
      rw [← hww]
      have h := CB.new (w.alloc (.cells #[.int .i64 1, .bool true, .int .u64 M, .string ⟨#[]⟩] 51)) 31 #[.int .i64 0, .int .u64 0, .string ⟨#[]⟩]
      have h : CB ((w.alloc (.cells #[.int .i64 1, .bool true, .int .u64 M, .string ⟨#[]⟩] 51)).alloc (.cells #[.int .i64 0, .int .u64 0, .string ⟨#[]⟩] 31)) (w.heap.size + 1) 31 #[.int .i64 0, .int .u64 0, .string ⟨#[]⟩] := by simpa using h
      exact (h.below ((Below.refl _ _).alloc (Nat.le_refl _) _))
    have kz2 : Hid (CB wz (w.heap.size + 1 + 1) 31 #[.int .i64 2, .int .u64 0, .string ⟨#[]⟩]) := by
      rw [← hww]
      have h := CB.new ((w.alloc (.cells #[.int .i64 1, .bool true, .int .u64 M, .string ⟨#[]⟩] 51)).alloc (.cells #[.int .i64 0, .int .u64 0, .string ⟨#[]⟩] 31)) 31 #[.int .i64 2, .int .u64 0, .string ⟨#[]⟩]
      have h : CB (((w.alloc (.cells #[.int .i64 1, .bool true, .int .u64 M, .string ⟨#[]⟩] 51)).alloc (.cells #[.int .i64 0, .int .u64 0, .string ⟨#[]⟩] 31)).alloc (.cells #[.int .i64 2, .int .u64 0, .string ⟨#[]⟩] 31)) (w.heap.size + 1 + 1) 31 #[.int .i64 2, .int .u64 0, .string ⟨#[]⟩] := by simpa using h
      exact h
    have HWW := Lib.hid hww
    clear hww
    have c00 : wz.cell? ⟨w.heap.size, 0, none⟩ = some (.int .i64 1) := CB.at_ kz0.out 0
    have c01 : wz.cell? ⟨w.heap.size, 1, none⟩ = some (.bool true) := CB.at_ kz0.out 1
    have c02 : wz.cell? ⟨w.heap.size, 2, none⟩ = some (.int .u64 M) := CB.at_ kz0.out 2
    obtain ⟨P, hP⟩ : ∃ P : Int, v + 18446744073709551616 = P := ⟨_, rfl⟩
    have hw1 : IntKind.u64.wrap (0 - M) = P := by show (0 - M) % 18446744073709551616 = _; omega
    have hw2 : IntKind.u64.wrap (-M) = P := by show (-M) % 18446744073709551616 = _; omega
    have HS : Hid (VSays (lastV (.num v) 2) 2 2 P ⟨#[]⟩ 0) := by
      unfold Hid
      rw [last_two, if_neg (by omega), if_pos hn]
      exact ⟨rfl, rfl, by omega, rfl⟩
    obtain ⟨R, hR⟩ : ∃ R, lastV (.num v) 2 = R := ⟨_, rfl⟩
    rw [hR] at HS ⊢
    clear hR
    clear hM hv hn hP
    have z21 : wz.frozen? ⟨w.heap.size + 1 + 1, 1, none⟩ = false := CB.frozen kz2.out 1
    have c21 : wz.cell? ⟨w.heap.size + 1 + 1, 1, none⟩ = some (.int .u64 0) := CB.at_ kz2.out 1
    go_enter Tryd.func21, Tryd.ntmps21
    go_upto_region 3 with fail
    rw [HWW.out]
    go_upto_region 20 with fail
    obtain ⟨w8, hw8⟩ : ∃ W, (wz.setCell ⟨w.heap.size + 1 + 1, 1, none⟩ (.int .u64 M)).setCell ⟨w.heap.size + 1 + 1, 1, none⟩ (.int .u64 P) = W := ⟨_, rfl⟩
    have t8 : Turned (w.heap.size + 1 + 1) wz w8 := by rw [← hw8]; exact ((Turned.refl _ _).setCell 1 _).setCell 1 _
    have v8 : Hid (CB w8 (w.heap.size + 1 + 1) 31 #[.int .i64 2, .int .u64 P, .string ⟨#[]⟩]) := by rw [← hw8]; exact heap_setCell_same _ (w.heap.size + 1 + 1) 1 _ _ (.int .u64 P) (heap_setCell_same wz (w.heap.size + 1 + 1) 1 _ _ (.int .u64 M) kz2.out)
    have r8 : Hid (CB w8 (w.heap.size + 1) 31 #[.int .i64 0, .int .u64 0, .string ⟨#[]⟩]) := (t8.others _ (by omega)).trans kz1.out
    have B8 : Hid (Below w.heap.size w w8) := BZ.out.trans (t8.below (by omega))
    rw [hw8]
    have d0 : w8.cell? ⟨w.heap.size + 1 + 1, 0, none⟩ = some (.int .i64 2) := CB.at_ v8.out 0
    have d1 : w8.cell? ⟨w.heap.size + 1 + 1, 1, none⟩ = some (.int .u64 P) := CB.at_ v8.out 1
    have d2 : w8.cell? ⟨w.heap.size + 1 + 1, 2, none⟩ = some (.string ⟨#[]⟩) := CB.at_ v8.out 2
    clear hw8 t8
    go_wp2_with (refine wpList_store_cb rfl 31 (.tmp 4) (.tmp 83) rfl (w.heap.size + 1) _ #[.int .i64 2, .int .u64 P, .string ⟨#[]⟩] rfl rfl r8.out rfl (by kernel_rfl) (by kernel_rfl) ?_; intro w9 k9 t9)
    exact bodyPost_ret (v := .tuple #[.agg #[.int .i64 2, .int .u64 P, .string ⟨#[]⟩], .int .i64 0]) (results_cv rfl _ _ _ _ _ rfl rfl k9 Tryd.underlying31 rfl (by kernel_rfl)) rfl ⟨_, _, _, _, rfl, B8.out.trans (t9.below (by omega)), HS.out⟩
  by_cases hb : 9223372036854775808 ≤ v
  case pos =>
    rw [show decide (v < 0) = false by simp; omega]
    obtain ⟨wz, hww⟩ : ∃ W : World, ((w.alloc (.cells #[.int .i64 1, .bool false, .int .u64 M, .string ⟨#[]⟩] 51)).alloc (.cells #[.int .i64 0, .int .u64 0, .string ⟨#[]⟩] 31)).alloc (.cells #[.int .i64 2, .int .u64 0, .string ⟨#[]⟩] 31) = W := ⟨_, rfl⟩
    have BZ : Hid (Below w.heap.size w wz) := by
      rw [← hww]
      exact ((((Below.refl _ w).alloc (Nat.le_refl _) _).alloc (by simp) _).alloc (by simp; omega) _)
    have kz0 : Hid (CB wz (w.heap.size) 51 #[.int .i64 1, .bool false, .int .u64 M, .string ⟨#[]⟩]) := by
      rw [← hww]
      have h := CB.new w 51 #[.int .i64 1, .bool false, .int .u64 M, .string ⟨#[]⟩]
      have h : CB (w.alloc (.cells #[.int .i64 1, .bool false, .int .u64 M, .string ⟨#[]⟩] 51)) (w.heap.size) 51 #[.int .i64 1, .bool false, .int .u64 M, .string ⟨#[]⟩] := by simpa using h
      exact ((h.below ((Below.refl _ _).alloc (Nat.le_refl _) _)).below ((Below.refl _ _).alloc (Nat.le_refl _) _))
    have kz1 : Hid (CB wz (w.heap.size + 1) 31 #[.int .i64 0, .int .u64 0, .string ⟨#[]⟩]) := by
      rw [← hww]
      have h := CB.new (w.alloc (.cells #[.int .i64 1, .bool false, .int .u64 M, .string ⟨#[]⟩] 51)) 31 #[.int .i64 0, .int .u64 0, .string ⟨#[]⟩]
      have h : CB ((w.alloc (.cells #[.int .i64 1, .bool false, .int .u64 M, .string ⟨#[]⟩] 51)).alloc (.cells #[.int .i64 0, .int .u64 0, .string ⟨#[]⟩] 31)) (w.heap.size + 1) 31 #[.int .i64 0, .int .u64 0, .string ⟨#[]⟩] := by simpa using h
      exact (h.below ((Below.refl _ _).alloc (Nat.le_refl _) _))
    have kz2 : Hid (CB wz (w.heap.size + 1 + 1) 31 #[.int .i64 2, .int .u64 0, .string ⟨#[]⟩]) := by
      rw [← hww]
      have h := CB.new ((w.alloc (.cells #[.int .i64 1, .bool false, .int .u64 M, .string ⟨#[]⟩] 51)).alloc (.cells #[.int .i64 0, .int .u64 0, .string ⟨#[]⟩] 31)) 31 #[.int .i64 2, .int .u64 0, .string ⟨#[]⟩]
      have h : CB (((w.alloc (.cells #[.int .i64 1, .bool false, .int .u64 M, .string ⟨#[]⟩] 51)).alloc (.cells #[.int .i64 0, .int .u64 0, .string ⟨#[]⟩] 31)).alloc (.cells #[.int .i64 2, .int .u64 0, .string ⟨#[]⟩] 31)) (w.heap.size + 1 + 1) 31 #[.int .i64 2, .int .u64 0, .string ⟨#[]⟩] := by simpa using h
      exact h
    have HWW := Lib.hid hww
    clear hww
    have c00 : wz.cell? ⟨w.heap.size, 0, none⟩ = some (.int .i64 1) := CB.at_ kz0.out 0
    have c01 : wz.cell? ⟨w.heap.size, 1, none⟩ = some (.bool false) := CB.at_ kz0.out 1
    have c02 : wz.cell? ⟨w.heap.size, 2, none⟩ = some (.int .u64 M) := CB.at_ kz0.out 2
    have hMb : 9223372036854775808 ≤ M := by omega
    have HS : Hid (VSays (lastV (.num v) 2) 2 0 0 ⟨#[]⟩ 111) := by
      unfold Hid
      rw [last_two, if_pos hb]
      exact vsays_err (e := 111) (by decide) rfl
    obtain ⟨R, hR⟩ : ∃ R, lastV (.num v) 2 = R := ⟨_, rfl⟩
    rw [hR] at HS ⊢
    clear hR
    clear hM hv hn hb
    go_enter Tryd.func21, Tryd.ntmps21
    go_upto_region 3 with fail
    rw [HWW.out]
    go_upto_region 9 with fail
    go_wp2_with (refine wpList_store_cb rfl 31 (.tmp 4) (.tmp 40) rfl (w.heap.size + 1) _ #[.int .i64 0, .int .u64 0, .string ⟨#[]⟩] rfl rfl kz1.out rfl (by kernel_rfl) (by kernel_rfl) ?_; intro w9 k9 t9)
    exact bodyPost_ret (v := .tuple #[.agg #[.int .i64 0, .int .u64 0, .string ⟨#[]⟩], .int .i64 111]) (results_cv rfl _ _ _ _ _ rfl rfl k9 Tryd.underlying31 rfl (by kernel_rfl)) rfl ⟨_, _, _, _, rfl, BZ.out.trans (t9.below (by omega)), HS.out⟩
  rw [show decide (v < 0) = false by simp; omega]
  obtain ⟨wz, hww⟩ : ∃ W : World, ((w.alloc (.cells #[.int .i64 1, .bool false, .int .u64 M, .string ⟨#[]⟩] 51)).alloc (.cells #[.int .i64 0, .int .u64 0, .string ⟨#[]⟩] 31)).alloc (.cells #[.int .i64 2, .int .u64 0, .string ⟨#[]⟩] 31) = W := ⟨_, rfl⟩
  have BZ : Hid (Below w.heap.size w wz) := by
    rw [← hww]
    exact ((((Below.refl _ w).alloc (Nat.le_refl _) _).alloc (by simp) _).alloc (by simp; omega) _)
  have kz0 : Hid (CB wz (w.heap.size) 51 #[.int .i64 1, .bool false, .int .u64 M, .string ⟨#[]⟩]) := by
    rw [← hww]
    have h := CB.new w 51 #[.int .i64 1, .bool false, .int .u64 M, .string ⟨#[]⟩]
    have h : CB (w.alloc (.cells #[.int .i64 1, .bool false, .int .u64 M, .string ⟨#[]⟩] 51)) (w.heap.size) 51 #[.int .i64 1, .bool false, .int .u64 M, .string ⟨#[]⟩] := by simpa using h
    exact ((h.below ((Below.refl _ _).alloc (Nat.le_refl _) _)).below ((Below.refl _ _).alloc (Nat.le_refl _) _))
  have kz1 : Hid (CB wz (w.heap.size + 1) 31 #[.int .i64 0, .int .u64 0, .string ⟨#[]⟩]) := by
    rw [← hww]
    have h := CB.new (w.alloc (.cells #[.int .i64 1, .bool false, .int .u64 M, .string ⟨#[]⟩] 51)) 31 #[.int .i64 0, .int .u64 0, .string ⟨#[]⟩]
    have h : CB ((w.alloc (.cells #[.int .i64 1, .bool false, .int .u64 M, .string ⟨#[]⟩] 51)).alloc (.cells #[.int .i64 0, .int .u64 0, .string ⟨#[]⟩] 31)) (w.heap.size + 1) 31 #[.int .i64 0, .int .u64 0, .string ⟨#[]⟩] := by simpa using h
    exact (h.below ((Below.refl _ _).alloc (Nat.le_refl _) _))
  have kz2 : Hid (CB wz (w.heap.size + 1 + 1) 31 #[.int .i64 2, .int .u64 0, .string ⟨#[]⟩]) := by
    rw [← hww]
    have h := CB.new ((w.alloc (.cells #[.int .i64 1, .bool false, .int .u64 M, .string ⟨#[]⟩] 51)).alloc (.cells #[.int .i64 0, .int .u64 0, .string ⟨#[]⟩] 31)) 31 #[.int .i64 2, .int .u64 0, .string ⟨#[]⟩]
    have h : CB (((w.alloc (.cells #[.int .i64 1, .bool false, .int .u64 M, .string ⟨#[]⟩] 51)).alloc (.cells #[.int .i64 0, .int .u64 0, .string ⟨#[]⟩] 31)).alloc (.cells #[.int .i64 2, .int .u64 0, .string ⟨#[]⟩] 31)) (w.heap.size + 1 + 1) 31 #[.int .i64 2, .int .u64 0, .string ⟨#[]⟩] := by simpa using h
    exact h
  have HWW := Lib.hid hww
  clear hww
  have c00 : wz.cell? ⟨w.heap.size, 0, none⟩ = some (.int .i64 1) := CB.at_ kz0.out 0
  have c01 : wz.cell? ⟨w.heap.size, 1, none⟩ = some (.bool false) := CB.at_ kz0.out 1
  have c02 : wz.cell? ⟨w.heap.size, 2, none⟩ = some (.int .u64 M) := CB.at_ kz0.out 2
  have hMb : ¬ 9223372036854775808 ≤ M := by omega
  have hMd : decide (9223372036854775808 ≤ M) = false := by rw [decide_eq_false_iff_not]; exact hMb
  have HS : Hid (VSays (lastV (.num v) 2) 2 2 M ⟨#[]⟩ 0) := by
    unfold Hid
    rw [last_two, if_neg hb, if_neg hn]
    exact ⟨rfl, rfl, by omega, rfl⟩
  obtain ⟨R, hR⟩ : ∃ R, lastV (.num v) 2 = R := ⟨_, rfl⟩
  rw [hR] at HS ⊢
  clear hR
  clear hM hv hn hb
  have z21 : wz.frozen? ⟨w.heap.size + 1 + 1, 1, none⟩ = false := CB.frozen kz2.out 1
  have c21 : wz.cell? ⟨w.heap.size + 1 + 1, 1, none⟩ = some (.int .u64 0) := CB.at_ kz2.out 1
  go_enter Tryd.func21, Tryd.ntmps21
  go_upto_region 3 with fail
  rw [HWW.out]
  go_upto_region 20 with fail
  obtain ⟨w8, hw8⟩ : ∃ W, wz.setCell ⟨w.heap.size + 1 + 1, 1, none⟩ (.int .u64 M) = W := ⟨_, rfl⟩
  have t8 : Turned (w.heap.size + 1 + 1) wz w8 := by rw [← hw8]; exact (Turned.refl _ _).setCell 1 _
  have v8 : Hid (CB w8 (w.heap.size + 1 + 1) 31 #[.int .i64 2, .int .u64 M, .string ⟨#[]⟩]) := by rw [← hw8]; exact heap_setCell_same wz (w.heap.size + 1 + 1) 1 _ _ (.int .u64 M) kz2.out
  have r8 : Hid (CB w8 (w.heap.size + 1) 31 #[.int .i64 0, .int .u64 0, .string ⟨#[]⟩]) := (t8.others _ (by omega)).trans kz1.out
  have B8 : Hid (Below w.heap.size w w8) := BZ.out.trans (t8.below (by omega))
  rw [hw8]
  have d0 : w8.cell? ⟨w.heap.size + 1 + 1, 0, none⟩ = some (.int .i64 2) := CB.at_ v8.out 0
  have d1 : w8.cell? ⟨w.heap.size + 1 + 1, 1, none⟩ = some (.int .u64 M) := CB.at_ v8.out 1
  have d2 : w8.cell? ⟨w.heap.size + 1 + 1, 2, none⟩ = some (.string ⟨#[]⟩) := CB.at_ v8.out 2
  clear hw8 t8
  go_wp2_with (refine wpList_store_cb rfl 31 (.tmp 4) (.tmp 83) rfl (w.heap.size + 1) _ #[.int .i64 2, .int .u64 M, .string ⟨#[]⟩] rfl rfl r8.out rfl (by kernel_rfl) (by kernel_rfl) ?_; intro w9 k9 t9)
  exact bodyPost_ret (v := .tuple #[.agg #[.int .i64 2, .int .u64 M, .string ⟨#[]⟩], .int .i64 0]) (results_cv rfl _ _ _ _ _ rfl rfl k9 Tryd.underlying31 rfl (by kernel_rfl)) rfl ⟨_, _, _, _, rfl, B8.out.trans (t9.below (by omega)), HS.out⟩
set_option maxRecDepth 100000 in
set_option maxHeartbeats 4000000 in
theorem rlast_truth (w : World) (b : Bool) : Calls Tryd.prog 21 #[.agg (thR (.truth b)), .int .i64 3] w (VAt (lastV (.truth b) 3) 3 w) := by
  obtain ⟨M, hM⟩ : ∃ M : Int, (if b then 1 else 0) = M := ⟨_, rfl⟩
  show Calls _ _ #[.agg #[.int .i64 3, .bool false, .int .u64 (if b then 1 else 0), .string ⟨#[]⟩], _] _ _
  rw [hM]
  obtain ⟨wz, hww⟩ : ∃ W : World, ((w.alloc (.cells #[.int .i64 3, .bool false, .int .u64 M, .string ⟨#[]⟩] 51)).alloc (.cells #[.int .i64 0, .int .u64 0, .string ⟨#[]⟩] 31)).alloc (.cells #[.int .i64 3, .int .u64 0, .string ⟨#[]⟩] 31) = W := ⟨_, rfl⟩
  have BZ : Hid (Below w.heap.size w wz) := by
    rw [← hww]
    exact ((((Below.refl _ w).alloc (Nat.le_refl _) _).alloc (by simp) _).alloc (by simp; omega) _)
  have kz0 : Hid (CB wz (w.heap.size) 51 #[.int .i64 3, .bool false, .int .u64 M, .string ⟨#[]⟩]) := by
    rw [← hww]
    have h := CB.new w 51 #[.int .i64 3, .bool false, .int .u64 M, .string ⟨#[]⟩]
    have h : CB (w.alloc (.cells #[.int .i64 3, .bool false, .int .u64 M, .string ⟨#[]⟩] 51)) (w.heap.size) 51 #[.int .i64 3, .bool false, .int .u64 M, .string ⟨#[]⟩] := by simpa using h
    exact ((h.below ((Below.refl _ _).alloc (Nat.le_refl _) _)).below ((Below.refl _ _).alloc (Nat.le_refl _) _))
  have kz1 : Hid (CB wz (w.heap.size + 1) 31 #[.int .i64 0, .int .u64 0, .string ⟨#[]⟩]) := by
    rw [← hww]
    have h := CB.new (w.alloc (.cells #[.int .i64 3, .bool false, .int .u64 M, .string ⟨#[]⟩] 51)) 31 #[.int .i64 0, .int .u64 0, .string ⟨#[]⟩]
    have h : CB ((w.alloc (.cells #[.int .i64 3, .bool false, .int .u64 M, .string ⟨#[]⟩] 51)).alloc (.cells #[.int .i64 0, .int .u64 0, .string ⟨#[]⟩] 31)) (w.heap.size + 1) 31 #[.int .i64 0, .int .u64 0, .string ⟨#[]⟩] := by simpa using h
    exact (h.below ((Below.refl _ _).alloc (Nat.le_refl _) _))
  have kz2 : Hid (CB wz (w.heap.size + 1 + 1) 31 #[.int .i64 3, .int .u64 0, .string ⟨#[]⟩]) := by
    rw [← hww]
    have h := CB.new ((w.alloc (.cells #[.int .i64 3, .bool false, .int .u64 M, .string ⟨#[]⟩] 51)).alloc (.cells #[.int .i64 0, .int .u64 0, .string ⟨#[]⟩] 31)) 31 #[.int .i64 3, .int .u64 0, .string ⟨#[]⟩]
    have h : CB (((w.alloc (.cells #[.int .i64 3, .bool false, .int .u64 M, .string ⟨#[]⟩] 51)).alloc (.cells #[.int .i64 0, .int .u64 0, .string ⟨#[]⟩] 31)).alloc (.cells #[.int .i64 3, .int .u64 0, .string ⟨#[]⟩] 31)) (w.heap.size + 1 + 1) 31 #[.int .i64 3, .int .u64 0, .string ⟨#[]⟩] := by simpa using h
    exact h
  have HWW := Lib.hid hww
  clear hww
  have c00 : wz.cell? ⟨w.heap.size, 0, none⟩ = some (.int .i64 3) := CB.at_ kz0.out 0
  have c02 : wz.cell? ⟨w.heap.size, 2, none⟩ = some (.int .u64 M) := CB.at_ kz0.out 2
  have HS : Hid (VSays (lastV (.truth b) 3) 3 3 M ⟨#[]⟩ 0) := by
    rw [← hM]
    cases b <;> exact ⟨rfl, rfl, rfl, rfl⟩
  obtain ⟨R, hR⟩ : ∃ R, lastV (.truth b) 3 = R := ⟨_, rfl⟩
  rw [hR] at HS ⊢
  clear hR
  clear hM
  have z21 : wz.frozen? ⟨w.heap.size + 1 + 1, 1, none⟩ = false := CB.frozen kz2.out 1
  have c21 : wz.cell? ⟨w.heap.size + 1 + 1, 1, none⟩ = some (.int .u64 0) := CB.at_ kz2.out 1
  go_enter Tryd.func21, Tryd.ntmps21
  go_upto_region 3 with fail
  rw [HWW.out]
  go_upto_region 20 with fail
  obtain ⟨w8, hw8⟩ : ∃ W, wz.setCell ⟨w.heap.size + 1 + 1, 1, none⟩ (.int .u64 M) = W := ⟨_, rfl⟩
  have t8 : Turned (w.heap.size + 1 + 1) wz w8 := by rw [← hw8]; exact (Turned.refl _ _).setCell 1 _
  have v8 : Hid (CB w8 (w.heap.size + 1 + 1) 31 #[.int .i64 3, .int .u64 M, .string ⟨#[]⟩]) := by rw [← hw8]; exact heap_setCell_same wz (w.heap.size + 1 + 1) 1 _ _ (.int .u64 M) kz2.out
  have r8 : Hid (CB w8 (w.heap.size + 1) 31 #[.int .i64 0, .int .u64 0, .string ⟨#[]⟩]) := (t8.others _ (by omega)).trans kz1.out
  have B8 : Hid (Below w.heap.size w w8) := BZ.out.trans (t8.below (by omega))
  rw [hw8]
  have d0 : w8.cell? ⟨w.heap.size + 1 + 1, 0, none⟩ = some (.int .i64 3) := CB.at_ v8.out 0
  have d1 : w8.cell? ⟨w.heap.size + 1 + 1, 1, none⟩ = some (.int .u64 M) := CB.at_ v8.out 1
  have d2 : w8.cell? ⟨w.heap.size + 1 + 1, 2, none⟩ = some (.string ⟨#[]⟩) := CB.at_ v8.out 2
  clear hw8 t8
  go_wp2_with (refine wpList_store_cb rfl 31 (.tmp 4) (.tmp 83) rfl (w.heap.size + 1) _ #[.int .i64 3, .int .u64 M, .string ⟨#[]⟩] rfl rfl r8.out rfl (by kernel_rfl) (by kernel_rfl) ?_; intro w9 k9 t9)
  exact bodyPost_ret (v := .tuple #[.agg #[.int .i64 3, .int .u64 M, .string ⟨#[]⟩], .int .i64 0]) (results_cv rfl _ _ _ _ _ rfl rfl k9 Tryd.underlying31 rfl (by kernel_rfl)) rfl ⟨_, _, _, _, rfl, B8.out.trans (t9.below (by omega)), HS.out⟩
set_option maxRecDepth 100000 in
set_option maxHeartbeats 4000000 in
theorem rlast_text (w : World) (hK : KSt w w) (s : List UInt8) (hs : s.length ≤ 140737488355328) : Calls Tryd.prog 21 #[.agg (thR (.text s)), .int .i64 4] w (VAt (lastV (.text s) 4) 4 w) := by
  obtain ⟨X, hX⟩ : ∃ X, str s = X := ⟨_, rfl⟩
  have hX0 : X.size ≤ 140737488355328 := by rw [← hX, str_size]; exact hs
  have hok0 : okV ⟨4, 0, X⟩ = okL s := by rw [← hX]; simp [okV, str]
  show Calls _ _ #[.agg #[.int .i64 2, .bool false, .int .u64 0, .string (str s)], _] _ _
  rw [hX]
  by_cases ho : okL s = true
  case pos =>
    obtain ⟨wz, hww⟩ : ∃ W : World, ((w.alloc (.cells #[.int .i64 2, .bool false, .int .u64 0, .string X] 51)).alloc (.cells #[.int .i64 0, .int .u64 0, .string ⟨#[]⟩] 31)).alloc (.cells #[.int .i64 4, .int .u64 0, .string ⟨#[]⟩] 31) = W := ⟨_, rfl⟩
    have BZ : Hid (Below w.heap.size w wz) := by
      rw [← hww]
      exact ((((Below.refl _ w).alloc (Nat.le_refl _) _).alloc (by simp) _).alloc (by simp; omega) _)
    have kz0 : Hid (CB wz (w.heap.size) 51 #[.int .i64 2, .bool false, .int .u64 0, .string X]) := by
      rw [← hww]
      have h := CB.new w 51 #[.int .i64 2, .bool false, .int .u64 0, .string X]
      have h : CB (w.alloc (.cells #[.int .i64 2, .bool false, .int .u64 0, .string X] 51)) (w.heap.size) 51 #[.int .i64 2, .bool false, .int .u64 0, .string X] := by simpa using h
      exact ((h.below ((Below.refl _ _).alloc (Nat.le_refl _) _)).below ((Below.refl _ _).alloc (Nat.le_refl _) _))
    have kz1 : Hid (CB wz (w.heap.size + 1) 31 #[.int .i64 0, .int .u64 0, .string ⟨#[]⟩]) := by
      rw [← hww]
      have h := CB.new (w.alloc (.cells #[.int .i64 2, .bool false, .int .u64 0, .string X] 51)) 31 #[.int .i64 0, .int .u64 0, .string ⟨#[]⟩]
      have h : CB ((w.alloc (.cells #[.int .i64 2, .bool false, .int .u64 0, .string X] 51)).alloc (.cells #[.int .i64 0, .int .u64 0, .string ⟨#[]⟩] 31)) (w.heap.size + 1) 31 #[.int .i64 0, .int .u64 0, .string ⟨#[]⟩] := by simpa using h
      exact (h.below ((Below.refl _ _).alloc (Nat.le_refl _) _))
    have kz2 : Hid (CB wz (w.heap.size + 1 + 1) 31 #[.int .i64 4, .int .u64 0, .string ⟨#[]⟩]) := by
      rw [← hww]
      have h := CB.new ((w.alloc (.cells #[.int .i64 2, .bool false, .int .u64 0, .string X] 51)).alloc (.cells #[.int .i64 0, .int .u64 0, .string ⟨#[]⟩] 31)) 31 #[.int .i64 4, .int .u64 0, .string ⟨#[]⟩]
      have h : CB (((w.alloc (.cells #[.int .i64 2, .bool false, .int .u64 0, .string X] 51)).alloc (.cells #[.int .i64 0, .int .u64 0, .string ⟨#[]⟩] 31)).alloc (.cells #[.int .i64 4, .int .u64 0, .string ⟨#[]⟩] 31)) (w.heap.size + 1 + 1) 31 #[.int .i64 4, .int .u64 0, .string ⟨#[]⟩] := by simpa using h
      exact h
    have HWW := Lib.hid hww
    clear hww
    have c00 : wz.cell? ⟨w.heap.size, 0, none⟩ = some (.int .i64 2) := CB.at_ kz0.out 0
    have c03 : wz.cell? ⟨w.heap.size, 3, none⟩ = some (.string X) := CB.at_ kz0.out 3
    have hok : okV ⟨4, 0, X⟩ = true := hok0.trans ho
    have HS : Hid (VSays (lastV (.text s) 4) 4 4 0 X 0) := by
      unfold Hid
      rw [last_text, if_pos ho]
      exact ⟨rfl, rfl, rfl, hX.symm⟩
    obtain ⟨R, hR⟩ : ∃ R, lastV (.text s) 4 = R := ⟨_, rfl⟩
    rw [hR] at HS ⊢
    clear hR
    clear hX hs hok0 ho
    have z22 : wz.frozen? ⟨w.heap.size + 1 + 1, 2, none⟩ = false := CB.frozen kz2.out 2
    have c22 : wz.cell? ⟨w.heap.size + 1 + 1, 2, none⟩ = some (.string ⟨#[]⟩) := CB.at_ kz2.out 2
    go_enter Tryd.func21, Tryd.ntmps21
    go_upto_region 3 with fail
    rw [HWW.out]
    go_upto_region 18 with fail
    obtain ⟨w8, hw8⟩ : ∃ W, wz.setCell ⟨w.heap.size + 1 + 1, 2, none⟩ (.string X) = W := ⟨_, rfl⟩
    have t8 : Turned (w.heap.size + 1 + 1) wz w8 := by rw [← hw8]; exact (Turned.refl _ _).setCell 2 _
    have v8 : Hid (CB w8 (w.heap.size + 1 + 1) 31 #[.int .i64 4, .int .u64 0, .string X]) := by rw [← hw8]; exact heap_setCell_same wz (w.heap.size + 1 + 1) 2 _ _ (.string X) kz2.out
    have r8 : Hid (CB w8 (w.heap.size + 1) 31 #[.int .i64 0, .int .u64 0, .string ⟨#[]⟩]) := (t8.others _ (by omega)).trans kz1.out
    have B8 : Hid (Below w.heap.size w w8) := BZ.out.trans (t8.below (by omega))
    rw [hw8]
    have d0 : w8.cell? ⟨w.heap.size + 1 + 1, 0, none⟩ = some (.int .i64 4) := CB.at_ v8.out 0
    have d1 : w8.cell? ⟨w.heap.size + 1 + 1, 1, none⟩ = some (.int .u64 0) := CB.at_ v8.out 1
    have d2 : w8.cell? ⟨w.heap.size + 1 + 1, 2, none⟩ = some (.string X) := CB.at_ v8.out 2
    clear hw8 t8
    have FK := Lib.hid (hK.then_ B8.out).self
    go_wp2_with fail
    refine (rkvalid_any FK.out ⟨4, 0, X⟩ ⟨(show (0 : Int) ≤ 0 by decide), (show (0 : Int) ≤ 18446744073709551615 by decide)⟩ hX0).mono ?_
    rintro e w7 ⟨rfl, hk7⟩
    rw [hok]
    have b7 := hk7.below
    have r7 := Lib.hid (r8.out.below b7)
    have v7 := v8.out.below b7
    have e0 : w7.cell? ⟨w.heap.size + 1 + 1, 0, none⟩ = some (.int .i64 4) := CB.at_ v7 0
    have e1 : w7.cell? ⟨w.heap.size + 1 + 1, 1, none⟩ = some (.int .u64 0) := CB.at_ v7 1
    have e2 : w7.cell? ⟨w.heap.size + 1 + 1, 2, none⟩ = some (.string X) := CB.at_ v7 2
    have B7 := Lib.hid (B8.out.trans (b7.mono B8.out.size))
    clear FK hk7 b7 v7 d0 d1 d2
    go_upto_region 20 with fail
    go_wp2_with (refine wpList_store_cb rfl 31 (.tmp 4) (.tmp 83) rfl (w.heap.size + 1) _ #[.int .i64 4, .int .u64 0, .string X] rfl rfl r7.out rfl (by kernel_rfl) (by kernel_rfl) ?_; intro w9 k9 t9)
    exact bodyPost_ret (v := .tuple #[.agg #[.int .i64 4, .int .u64 0, .string X], .int .i64 0]) (results_cv rfl _ _ _ _ _ rfl rfl k9 Tryd.underlying31 rfl (by kernel_rfl)) rfl ⟨_, _, _, _, rfl, B7.out.trans (t9.below (by omega)), HS.out⟩
  obtain ⟨wz, hww⟩ : ∃ W : World, ((w.alloc (.cells #[.int .i64 2, .bool false, .int .u64 0, .string X] 51)).alloc (.cells #[.int .i64 0, .int .u64 0, .string ⟨#[]⟩] 31)).alloc (.cells #[.int .i64 4, .int .u64 0, .string ⟨#[]⟩] 31) = W := ⟨_, rfl⟩
  have BZ : Hid (Below w.heap.size w wz) := by
    rw [← hww]
    exact ((((Below.refl _ w).alloc (Nat.le_refl _) _).alloc (by simp) _).alloc (by simp; omega) _)
  have kz0 : Hid (CB wz (w.heap.size) 51 #[.int .i64 2, .bool false, .int .u64 0, .string X]) := by
    rw [← hww]
    have h := CB.new w 51 #[.int .i64 2, .bool false, .int .u64 0, .string X]
    have h : CB (w.alloc (.cells #[.int .i64 2, .bool false, .int .u64 0, .string X] 51)) (w.heap.size) 51 #[.int .i64 2, .bool false, .int .u64 0, .string X] := by simpa using h
    exact ((h.below ((Below.refl _ _).alloc (Nat.le_refl _) _)).below ((Below.refl _ _).alloc (Nat.le_refl _) _))
  have kz1 : Hid (CB wz (w.heap.size + 1) 31 #[.int .i64 0, .int .u64 0, .string ⟨#[]⟩]) := by
    rw [← hww]
    have h := CB.new (w.alloc (.cells #[.int .i64 2, .bool false, .int .u64 0, .string X] 51)) 31 #[.int .i64 0, .int .u64 0, .string ⟨#[]⟩]
    have h : CB ((w.alloc (.cells #[.int .i64 2, .bool false, .int .u64 0, .string X] 51)).alloc (.cells #[.int .i64 0, .int .u64 0, .string ⟨#[]⟩] 31)) (w.heap.size + 1) 31 #[.int .i64 0, .int .u64 0, .string ⟨#[]⟩] := by simpa using h
    exact (h.below ((Below.refl _ _).alloc (Nat.le_refl _) _))
  have kz2 : Hid (CB wz (w.heap.size + 1 + 1) 31 #[.int .i64 4, .int .u64 0, .string ⟨#[]⟩]) := by
    rw [← hww]
    have h := CB.new ((w.alloc (.cells #[.int .i64 2, .bool false, .int .u64 0, .string X] 51)).alloc (.cells #[.int .i64 0, .int .u64 0, .string ⟨#[]⟩] 31)) 31 #[.int .i64 4, .int .u64 0, .string ⟨#[]⟩]
    have h : CB (((w.alloc (.cells #[.int .i64 2, .bool false, .int .u64 0, .string X] 51)).alloc (.cells #[.int .i64 0, .int .u64 0, .string ⟨#[]⟩] 31)).alloc (.cells #[.int .i64 4, .int .u64 0, .string ⟨#[]⟩] 31)) (w.heap.size + 1 + 1) 31 #[.int .i64 4, .int .u64 0, .string ⟨#[]⟩] := by simpa using h
    exact h
  have HWW := Lib.hid hww
  clear hww
  have c00 : wz.cell? ⟨w.heap.size, 0, none⟩ = some (.int .i64 2) := CB.at_ kz0.out 0
  have c03 : wz.cell? ⟨w.heap.size, 3, none⟩ = some (.string X) := CB.at_ kz0.out 3
  have hok : okV ⟨4, 0, X⟩ = false := by rw [hok0]; simpa using ho
  have HS : Hid (VSays (lastV (.text s) 4) 4 0 0 ⟨#[]⟩ 111) := by
    unfold Hid
    rw [last_text, if_neg ho]
    exact vsays_err (e := 111) (by decide) rfl
  obtain ⟨R, hR⟩ : ∃ R, lastV (.text s) 4 = R := ⟨_, rfl⟩
  rw [hR] at HS ⊢
  clear hR
  clear hX hs hok0 ho
  have z22 : wz.frozen? ⟨w.heap.size + 1 + 1, 2, none⟩ = false := CB.frozen kz2.out 2
  have c22 : wz.cell? ⟨w.heap.size + 1 + 1, 2, none⟩ = some (.string ⟨#[]⟩) := CB.at_ kz2.out 2
  go_enter Tryd.func21, Tryd.ntmps21
  go_upto_region 3 with fail
  rw [HWW.out]
  go_upto_region 18 with fail
  obtain ⟨w8, hw8⟩ : ∃ W, wz.setCell ⟨w.heap.size + 1 + 1, 2, none⟩ (.string X) = W := ⟨_, rfl⟩
  have t8 : Turned (w.heap.size + 1 + 1) wz w8 := by rw [← hw8]; exact (Turned.refl _ _).setCell 2 _
  have v8 : Hid (CB w8 (w.heap.size + 1 + 1) 31 #[.int .i64 4, .int .u64 0, .string X]) := by rw [← hw8]; exact heap_setCell_same wz (w.heap.size + 1 + 1) 2 _ _ (.string X) kz2.out
  have r8 : Hid (CB w8 (w.heap.size + 1) 31 #[.int .i64 0, .int .u64 0, .string ⟨#[]⟩]) := (t8.others _ (by omega)).trans kz1.out
  have B8 : Hid (Below w.heap.size w w8) := BZ.out.trans (t8.below (by omega))
  rw [hw8]
  have d0 : w8.cell? ⟨w.heap.size + 1 + 1, 0, none⟩ = some (.int .i64 4) := CB.at_ v8.out 0
  have d1 : w8.cell? ⟨w.heap.size + 1 + 1, 1, none⟩ = some (.int .u64 0) := CB.at_ v8.out 1
  have d2 : w8.cell? ⟨w.heap.size + 1 + 1, 2, none⟩ = some (.string X) := CB.at_ v8.out 2
  clear hw8 t8
  have FK := Lib.hid (hK.then_ B8.out).self
  go_wp2_with fail
  refine (rkvalid_any FK.out ⟨4, 0, X⟩ ⟨(show (0 : Int) ≤ 0 by decide), (show (0 : Int) ≤ 18446744073709551615 by decide)⟩ hX0).mono ?_
  rintro e w7 ⟨rfl, hk7⟩
  rw [hok]
  have b7 := hk7.below
  have r7 := Lib.hid (r8.out.below b7)
  have v7 := v8.out.below b7
  have e0 : w7.cell? ⟨w.heap.size + 1 + 1, 0, none⟩ = some (.int .i64 4) := CB.at_ v7 0
  have e1 : w7.cell? ⟨w.heap.size + 1 + 1, 1, none⟩ = some (.int .u64 0) := CB.at_ v7 1
  have e2 : w7.cell? ⟨w.heap.size + 1 + 1, 2, none⟩ = some (.string X) := CB.at_ v7 2
  have B7 := Lib.hid (B8.out.trans (b7.mono B8.out.size))
  clear FK hk7 b7 v7 d0 d1 d2
  go_upto_region 19 with fail
  go_wp2_with (refine wpList_store_cb rfl 31 (.tmp 4) (.tmp 82) rfl (w.heap.size + 1) _ #[.int .i64 0, .int .u64 0, .string ⟨#[]⟩] rfl rfl r7.out rfl (by kernel_rfl) (by kernel_rfl) ?_; intro w9 k9 t9)
  exact bodyPost_ret (v := .tuple #[.agg #[.int .i64 0, .int .u64 0, .string ⟨#[]⟩], .int .i64 111]) (results_cv rfl _ _ _ _ _ rfl rfl k9 Tryd.underlying31 rfl (by kernel_rfl)) rfl ⟨_, _, _, _, rfl, B7.out.trans (t9.below (by omega)), HS.out⟩
set_option maxRecDepth 100000 in
set_option maxHeartbeats 4000000 in
theorem rlast_bytes (w : World) (hK : KSt w w) (s : List UInt8) (hs : s.length ≤ 140737488355328) : Calls Tryd.prog 21 #[.agg (thR (.bytes s)), .int .i64 5] w (VAt (lastV (.bytes s) 5) 5 w) := by
  obtain ⟨X, hX⟩ : ∃ X, str s = X := ⟨_, rfl⟩
  have hX0 : X.size ≤ 140737488355328 := by rw [← hX, str_size]; exact hs
  have hok : okV ⟨5, 0, X⟩ = true := by simp [okV]
  show Calls _ _ #[.agg #[.int .i64 4, .bool false, .int .u64 0, .string (str s)], _] _ _
  rw [hX]
  obtain ⟨wz, hww⟩ : ∃ W : World, ((w.alloc (.cells #[.int .i64 4, .bool false, .int .u64 0, .string X] 51)).alloc (.cells #[.int .i64 0, .int .u64 0, .string ⟨#[]⟩] 31)).alloc (.cells #[.int .i64 5, .int .u64 0, .string ⟨#[]⟩] 31) = W := ⟨_, rfl⟩
  have BZ : Hid (Below w.heap.size w wz) := by
    rw [← hww]
    exact ((((Below.refl _ w).alloc (Nat.le_refl _) _).alloc (by simp) _).alloc (by simp; omega) _)
  have kz0 : Hid (CB wz (w.heap.size) 51 #[.int .i64 4, .bool false, .int .u64 0, .string X]) := by
    rw [← hww]
    have h := CB.new w 51 #[.int .i64 4, .bool false, .int .u64 0, .string X]
    have h : CB (w.alloc (.cells #[.int .i64 4, .bool false, .int .u64 0, .string X] 51)) (w.heap.size) 51 #[.int .i64 4, .bool false, .int .u64 0, .string X] := by simpa using h
    exact ((h.below ((Below.refl _ _).alloc (Nat.le_refl _) _)).below ((Below.refl _ _).alloc (Nat.le_refl _) _))
  have kz1 : Hid (CB wz (w.heap.size + 1) 31 #[.int .i64 0, .int .u64 0, .string ⟨#[]⟩]) := by
    rw [← hww]
    have h := CB.new (w.alloc (.cells #[.int .i64 4, .bool false, .int .u64 0, .string X] 51)) 31 #[.int .i64 0, .int .u64 0, .string ⟨#[]⟩]
    have h : CB ((w.alloc (.cells #[.int .i64 4, .bool false, .int .u64 0, .string X] 51)).alloc (.cells #[.int .i64 0, .int .u64 0, .string ⟨#[]⟩] 31)) (w.heap.size + 1) 31 #[.int .i64 0, .int .u64 0, .string ⟨#[]⟩] := by simpa using h
    exact (h.below ((Below.refl _ _).alloc (Nat.le_refl _) _))
  have kz2 : Hid (CB wz (w.heap.size + 1 + 1) 31 #[.int .i64 5, .int .u64 0, .string ⟨#[]⟩]) := by
    rw [← hww]
    have h := CB.new ((w.alloc (.cells #[.int .i64 4, .bool false, .int .u64 0, .string X] 51)).alloc (.cells #[.int .i64 0, .int .u64 0, .string ⟨#[]⟩] 31)) 31 #[.int .i64 5, .int .u64 0, .string ⟨#[]⟩]
    have h : CB (((w.alloc (.cells #[.int .i64 4, .bool false, .int .u64 0, .string X] 51)).alloc (.cells #[.int .i64 0, .int .u64 0, .string ⟨#[]⟩] 31)).alloc (.cells #[.int .i64 5, .int .u64 0, .string ⟨#[]⟩] 31)) (w.heap.size + 1 + 1) 31 #[.int .i64 5, .int .u64 0, .string ⟨#[]⟩] := by simpa using h
    exact h
  have HWW := Lib.hid hww
  clear hww
  have c00 : wz.cell? ⟨w.heap.size, 0, none⟩ = some (.int .i64 4) := CB.at_ kz0.out 0
  have c03 : wz.cell? ⟨w.heap.size, 3, none⟩ = some (.string X) := CB.at_ kz0.out 3
  have HS : Hid (VSays (lastV (.bytes s) 5) 5 5 0 X 0) := ⟨rfl, rfl, rfl, hX.symm⟩
  obtain ⟨R, hR⟩ : ∃ R, lastV (.bytes s) 5 = R := ⟨_, rfl⟩
  rw [hR] at HS ⊢
  clear hR
  clear hX hs
  have z22 : wz.frozen? ⟨w.heap.size + 1 + 1, 2, none⟩ = false := CB.frozen kz2.out 2
  have c22 : wz.cell? ⟨w.heap.size + 1 + 1, 2, none⟩ = some (.string ⟨#[]⟩) := CB.at_ kz2.out 2
  go_enter Tryd.func21, Tryd.ntmps21
  go_upto_region 3 with fail
  rw [HWW.out]
  go_upto_region 18 with fail
  obtain ⟨w8, hw8⟩ : ∃ W, wz.setCell ⟨w.heap.size + 1 + 1, 2, none⟩ (.string X) = W := ⟨_, rfl⟩
  have t8 : Turned (w.heap.size + 1 + 1) wz w8 := by rw [← hw8]; exact (Turned.refl _ _).setCell 2 _
  have v8 : Hid (CB w8 (w.heap.size + 1 + 1) 31 #[.int .i64 5, .int .u64 0, .string X]) := by rw [← hw8]; exact heap_setCell_same wz (w.heap.size + 1 + 1) 2 _ _ (.string X) kz2.out
  have r8 : Hid (CB w8 (w.heap.size + 1) 31 #[.int .i64 0, .int .u64 0, .string ⟨#[]⟩]) := (t8.others _ (by omega)).trans kz1.out
  have B8 : Hid (Below w.heap.size w w8) := BZ.out.trans (t8.below (by omega))
  rw [hw8]
  have d0 : w8.cell? ⟨w.heap.size + 1 + 1, 0, none⟩ = some (.int .i64 5) := CB.at_ v8.out 0
  have d1 : w8.cell? ⟨w.heap.size + 1 + 1, 1, none⟩ = some (.int .u64 0) := CB.at_ v8.out 1
  have d2 : w8.cell? ⟨w.heap.size + 1 + 1, 2, none⟩ = some (.string X) := CB.at_ v8.out 2
  clear hw8 t8
  have FK := Lib.hid (hK.then_ B8.out).self
  go_wp2_with fail
  refine (rkvalid_any FK.out ⟨5, 0, X⟩ ⟨(show (0 : Int) ≤ 0 by decide), (show (0 : Int) ≤ 18446744073709551615 by decide)⟩ hX0).mono ?_
  rintro e w7 ⟨rfl, hk7⟩
  rw [hok]
  have b7 := hk7.below
  have r7 := Lib.hid (r8.out.below b7)
  have v7 := v8.out.below b7
  have e0 : w7.cell? ⟨w.heap.size + 1 + 1, 0, none⟩ = some (.int .i64 5) := CB.at_ v7 0
  have e1 : w7.cell? ⟨w.heap.size + 1 + 1, 1, none⟩ = some (.int .u64 0) := CB.at_ v7 1
  have e2 : w7.cell? ⟨w.heap.size + 1 + 1, 2, none⟩ = some (.string X) := CB.at_ v7 2
  have B7 := Lib.hid (B8.out.trans (b7.mono B8.out.size))
  clear FK hk7 b7 v7 d0 d1 d2
  go_upto_region 20 with fail
  go_wp2_with (refine wpList_store_cb rfl 31 (.tmp 4) (.tmp 83) rfl (w.heap.size + 1) _ #[.int .i64 5, .int .u64 0, .string X] rfl rfl r7.out rfl (by kernel_rfl) (by kernel_rfl) ?_; intro w9 k9 t9)
  exact bodyPost_ret (v := .tuple #[.agg #[.int .i64 5, .int .u64 0, .string X], .int .i64 0]) (results_cv rfl _ _ _ _ _ rfl rfl k9 Tryd.underlying31 rfl (by kernel_rfl)) rfl ⟨_, _, _, _, rfl, B7.out.trans (t9.below (by omega)), HS.out⟩
set_option maxRecDepth 100000 in
set_option maxHeartbeats 4000000 in
theorem rlast_num_no (w : World) (v : Int) (k : Int) (h1 : k ≠ 1) (h2 : k ≠ 2) : Calls Tryd.prog 21 #[.agg (thR (.num v)), .int .i64 k] w (VAt (lastV (.num v) k) k w) := by
  have HS : Hid (VSays (lastV (.num v) k) k 0 0 ⟨#[]⟩ 110) := by
    have : lastV (.num v) k = .error 110 := by simp [lastV, h1, h2]
    rw [this]
    exact vsays_err (e := 110) (by decide) rfl
  obtain ⟨R, hR⟩ : ∃ R, lastV (.num v) k = R := ⟨_, rfl⟩
  rw [hR] at HS ⊢
  clear hR
  obtain ⟨M, hM⟩ : ∃ M : Int, (v.natAbs : Int) = M := ⟨_, rfl⟩
  obtain ⟨G, hG⟩ : ∃ G, decide (v < 0) = G := ⟨_, rfl⟩
  show Calls _ _ #[.agg #[.int .i64 1, .bool (decide (v < 0)), .int .u64 (v.natAbs : Nat), .string ⟨#[]⟩], _] _ _
  rw [hM, hG]
  clear hM hG
  have q1 : (k == 1) = false := by rw [beq_eq_false_iff_ne]; exact h1
  have q2 : (k == 2) = false := by rw [beq_eq_false_iff_ne]; exact h2
  obtain ⟨wz, hww⟩ : ∃ W : World, ((w.alloc (.cells #[.int .i64 1, .bool G, .int .u64 M, .string ⟨#[]⟩] 51)).alloc (.cells #[.int .i64 0, .int .u64 0, .string ⟨#[]⟩] 31)).alloc (.cells #[.int .i64 k, .int .u64 0, .string ⟨#[]⟩] 31) = W := ⟨_, rfl⟩
  have BZ : Hid (Below w.heap.size w wz) := by
    rw [← hww]
    exact ((((Below.refl _ w).alloc (Nat.le_refl _) _).alloc (by simp) _).alloc (by simp; omega) _)
  have kz0 : Hid (CB wz (w.heap.size) 51 #[.int .i64 1, .bool G, .int .u64 M, .string ⟨#[]⟩]) := by
    rw [← hww]
    have h := CB.new w 51 #[.int .i64 1, .bool G, .int .u64 M, .string ⟨#[]⟩]
    have h : CB (w.alloc (.cells #[.int .i64 1, .bool G, .int .u64 M, .string ⟨#[]⟩] 51)) (w.heap.size) 51 #[.int .i64 1, .bool G, .int .u64 M, .string ⟨#[]⟩] := by simpa using h
    exact ((h.below ((Below.refl _ _).alloc (Nat.le_refl _) _)).below ((Below.refl _ _).alloc (Nat.le_refl _) _))
  have kz1 : Hid (CB wz (w.heap.size + 1) 31 #[.int .i64 0, .int .u64 0, .string ⟨#[]⟩]) := by
    rw [← hww]
    have h := CB.new (w.alloc (.cells #[.int .i64 1, .bool G, .int .u64 M, .string ⟨#[]⟩] 51)) 31 #[.int .i64 0, .int .u64 0, .string ⟨#[]⟩]
    have h : CB ((w.alloc (.cells #[.int .i64 1, .bool G, .int .u64 M, .string ⟨#[]⟩] 51)).alloc (.cells #[.int .i64 0, .int .u64 0, .string ⟨#[]⟩] 31)) (w.heap.size + 1) 31 #[.int .i64 0, .int .u64 0, .string ⟨#[]⟩] := by simpa using h
    exact (h.below ((Below.refl _ _).alloc (Nat.le_refl _) _))
  have kz2 : Hid (CB wz (w.heap.size + 1 + 1) 31 #[.int .i64 k, .int .u64 0, .string ⟨#[]⟩]) := by
    rw [← hww]
    have h := CB.new ((w.alloc (.cells #[.int .i64 1, .bool G, .int .u64 M, .string ⟨#[]⟩] 51)).alloc (.cells #[.int .i64 0, .int .u64 0, .string ⟨#[]⟩] 31)) 31 #[.int .i64 k, .int .u64 0, .string ⟨#[]⟩]
    have h : CB (((w.alloc (.cells #[.int .i64 1, .bool G, .int .u64 M, .string ⟨#[]⟩] 51)).alloc (.cells #[.int .i64 0, .int .u64 0, .string ⟨#[]⟩] 31)).alloc (.cells #[.int .i64 k, .int .u64 0, .string ⟨#[]⟩] 31)) (w.heap.size + 1 + 1) 31 #[.int .i64 k, .int .u64 0, .string ⟨#[]⟩] := by simpa using h
    exact h
  have HWW := Lib.hid hww
  clear hww
  have c00 : wz.cell? ⟨w.heap.size, 0, none⟩ = some (.int .i64 1) := CB.at_ kz0.out 0
  clear h1 h2
  go_enter Tryd.func21, Tryd.ntmps21
  go_upto_region 3 with fail
  rw [HWW.out]
  go_upto_region 2 with fail
  go_wp2_with (refine wpList_store_cb rfl 31 (.tmp 4) (.tmp 9) rfl (w.heap.size + 1) _ #[.int .i64 0, .int .u64 0, .string ⟨#[]⟩] rfl rfl kz1.out rfl (by kernel_rfl) (by kernel_rfl) ?_; intro w9 k9 t9)
  exact bodyPost_ret (v := .tuple #[.agg #[.int .i64 0, .int .u64 0, .string ⟨#[]⟩], .int .i64 110]) (results_cv rfl _ _ _ _ _ rfl rfl k9 Tryd.underlying31 rfl (by kernel_rfl)) rfl ⟨_, _, _, _, rfl, BZ.out.trans (t9.below (by omega)), HS.out⟩
set_option maxRecDepth 100000 in
set_option maxHeartbeats 4000000 in
theorem rlast_truth_no (w : World) (b : Bool) (k : Int) (h3 : k ≠ 3) : Calls Tryd.prog 21 #[.agg (thR (.truth b)), .int .i64 k] w (VAt (lastV (.truth b) k) k w) := by
  have HS : Hid (VSays (lastV (.truth b) k) k 0 0 ⟨#[]⟩ 110) := by
    have : lastV (.truth b) k = .error 110 := by simp [lastV, h3]
    rw [this]
    exact vsays_err (e := 110) (by decide) rfl
  obtain ⟨R, hR⟩ : ∃ R, lastV (.truth b) k = R := ⟨_, rfl⟩
  rw [hR] at HS ⊢
  clear hR
  obtain ⟨M, hM⟩ : ∃ M : Int, (if b then 1 else 0) = M := ⟨_, rfl⟩
  show Calls _ _ #[.agg #[.int .i64 3, .bool false, .int .u64 (if b then 1 else 0), .string ⟨#[]⟩], _] _ _
  rw [hM]
  clear hM
  have q3 : (k == 3) = false := by rw [beq_eq_false_iff_ne]; exact h3
  obtain ⟨wz, hww⟩ : ∃ W : World, ((w.alloc (.cells #[.int .i64 3, .bool false, .int .u64 M, .string ⟨#[]⟩] 51)).alloc (.cells #[.int .i64 0, .int .u64 0, .string ⟨#[]⟩] 31)).alloc (.cells #[.int .i64 k, .int .u64 0, .string ⟨#[]⟩] 31) = W := ⟨_, rfl⟩
  have BZ : Hid (Below w.heap.size w wz) := by
    rw [← hww]
    exact ((((Below.refl _ w).alloc (Nat.le_refl _) _).alloc (by simp) _).alloc (by simp; omega) _)
  have kz0 : Hid (CB wz (w.heap.size) 51 #[.int .i64 3, .bool false, .int .u64 M, .string ⟨#[]⟩]) := by
    rw [← hww]
    have h := CB.new w 51 #[.int .i64 3, .bool false, .int .u64 M, .string ⟨#[]⟩]
    have h : CB (w.alloc (.cells #[.int .i64 3, .bool false, .int .u64 M, .string ⟨#[]⟩] 51)) (w.heap.size) 51 #[.int .i64 3, .bool false, .int .u64 M, .string ⟨#[]⟩] := by simpa using h
    exact ((h.below ((Below.refl _ _).alloc (Nat.le_refl _) _)).below ((Below.refl _ _).alloc (Nat.le_refl _) _))
  have kz1 : Hid (CB wz (w.heap.size + 1) 31 #[.int .i64 0, .int .u64 0, .string ⟨#[]⟩]) := by
    rw [← hww]
    have h := CB.new (w.alloc (.cells #[.int .i64 3, .bool false, .int .u64 M, .string ⟨#[]⟩] 51)) 31 #[.int .i64 0, .int .u64 0, .string ⟨#[]⟩]
    have h : CB ((w.alloc (.cells #[.int .i64 3, .bool false, .int .u64 M, .string ⟨#[]⟩] 51)).alloc (.cells #[.int .i64 0, .int .u64 0, .string ⟨#[]⟩] 31)) (w.heap.size + 1) 31 #[.int .i64 0, .int .u64 0, .string ⟨#[]⟩] := by simpa using h
    exact (h.below ((Below.refl _ _).alloc (Nat.le_refl _) _))
  have kz2 : Hid (CB wz (w.heap.size + 1 + 1) 31 #[.int .i64 k, .int .u64 0, .string ⟨#[]⟩]) := by
    rw [← hww]
    have h := CB.new ((w.alloc (.cells #[.int .i64 3, .bool false, .int .u64 M, .string ⟨#[]⟩] 51)).alloc (.cells #[.int .i64 0, .int .u64 0, .string ⟨#[]⟩] 31)) 31 #[.int .i64 k, .int .u64 0, .string ⟨#[]⟩]
    have h : CB (((w.alloc (.cells #[.int .i64 3, .bool false, .int .u64 M, .string ⟨#[]⟩] 51)).alloc (.cells #[.int .i64 0, .int .u64 0, .string ⟨#[]⟩] 31)).alloc (.cells #[.int .i64 k, .int .u64 0, .string ⟨#[]⟩] 31)) (w.heap.size + 1 + 1) 31 #[.int .i64 k, .int .u64 0, .string ⟨#[]⟩] := by simpa using h
    exact h
  have HWW := Lib.hid hww
  clear hww
  have c00 : wz.cell? ⟨w.heap.size, 0, none⟩ = some (.int .i64 3) := CB.at_ kz0.out 0
  clear h3
  go_enter Tryd.func21, Tryd.ntmps21
  go_upto_region 3 with fail
  rw [HWW.out]
  go_upto_region 2 with fail
  go_wp2_with (refine wpList_store_cb rfl 31 (.tmp 4) (.tmp 9) rfl (w.heap.size + 1) _ #[.int .i64 0, .int .u64 0, .string ⟨#[]⟩] rfl rfl kz1.out rfl (by kernel_rfl) (by kernel_rfl) ?_; intro w9 k9 t9)
  exact bodyPost_ret (v := .tuple #[.agg #[.int .i64 0, .int .u64 0, .string ⟨#[]⟩], .int .i64 110]) (results_cv rfl _ _ _ _ _ rfl rfl k9 Tryd.underlying31 rfl (by kernel_rfl)) rfl ⟨_, _, _, _, rfl, BZ.out.trans (t9.below (by omega)), HS.out⟩
set_option maxRecDepth 100000 in
set_option maxHeartbeats 4000000 in
theorem rlast_text_no (w : World) (s : List UInt8) (k : Int) (h4 : k ≠ 4) : Calls Tryd.prog 21 #[.agg (thR (.text s)), .int .i64 k] w (VAt (lastV (.text s) k) k w) := by
  have HS : Hid (VSays (lastV (.text s) k) k 0 0 ⟨#[]⟩ 110) := by
    have : lastV (.text s) k = .error 110 := by simp [lastV, h4]
    rw [this]
    exact vsays_err (e := 110) (by decide) rfl
  obtain ⟨R, hR⟩ : ∃ R, lastV (.text s) k = R := ⟨_, rfl⟩
  rw [hR] at HS ⊢
  clear hR
  obtain ⟨X, hX⟩ : ∃ X, str s = X := ⟨_, rfl⟩
  show Calls _ _ #[.agg #[.int .i64 2, .bool false, .int .u64 0, .string (str s)], _] _ _
  rw [hX]
  clear hX
  have q4 : (k == 4) = false := by rw [beq_eq_false_iff_ne]; exact h4
  obtain ⟨wz, hww⟩ : ∃ W : World, ((w.alloc (.cells #[.int .i64 2, .bool false, .int .u64 0, .string X] 51)).alloc (.cells #[.int .i64 0, .int .u64 0, .string ⟨#[]⟩] 31)).alloc (.cells #[.int .i64 k, .int .u64 0, .string ⟨#[]⟩] 31) = W := ⟨_, rfl⟩
  have BZ : Hid (Below w.heap.size w wz) := by
    rw [← hww]
    exact ((((Below.refl _ w).alloc (Nat.le_refl _) _).alloc (by simp) _).alloc (by simp; omega) _)
  have kz0 : Hid (CB wz (w.heap.size) 51 #[.int .i64 2, .bool false, .int .u64 0, .string X]) := by
    rw [← hww]
    have h := CB.new w 51 #[.int .i64 2, .bool false, .int .u64 0, .string X]
    have h : CB (w.alloc (.cells #[.int .i64 2, .bool false, .int .u64 0, .string X] 51)) (w.heap.size) 51 #[.int .i64 2, .bool false, .int .u64 0, .string X] := by simpa using h
    exact ((h.below ((Below.refl _ _).alloc (Nat.le_refl _) _)).below ((Below.refl _ _).alloc (Nat.le_refl _) _))
  have kz1 : Hid (CB wz (w.heap.size + 1) 31 #[.int .i64 0, .int .u64 0, .string ⟨#[]⟩]) := by
    rw [← hww]
    have h := CB.new (w.alloc (.cells #[.int .i64 2, .bool false, .int .u64 0, .string X] 51)) 31 #[.int .i64 0, .int .u64 0, .string ⟨#[]⟩]
    have h : CB ((w.alloc (.cells #[.int .i64 2, .bool false, .int .u64 0, .string X] 51)).alloc (.cells #[.int .i64 0, .int .u64 0, .string ⟨#[]⟩] 31)) (w.heap.size + 1) 31 #[.int .i64 0, .int .u64 0, .string ⟨#[]⟩] := by simpa using h
    exact (h.below ((Below.refl _ _).alloc (Nat.le_refl _) _))
  have kz2 : Hid (CB wz (w.heap.size + 1 + 1) 31 #[.int .i64 k, .int .u64 0, .string ⟨#[]⟩]) := by
    rw [← hww]
    have h := CB.new ((w.alloc (.cells #[.int .i64 2, .bool false, .int .u64 0, .string X] 51)).alloc (.cells #[.int .i64 0, .int .u64 0, .string ⟨#[]⟩] 31)) 31 #[.int .i64 k, .int .u64 0, .string ⟨#[]⟩]
    have h : CB (((w.alloc (.cells #[.int .i64 2, .bool false, .int .u64 0, .string X] 51)).alloc (.cells #[.int .i64 0, .int .u64 0, .string ⟨#[]⟩] 31)).alloc (.cells #[.int .i64 k, .int .u64 0, .string ⟨#[]⟩] 31)) (w.heap.size + 1 + 1) 31 #[.int .i64 k, .int .u64 0, .string ⟨#[]⟩] := by simpa using h
    exact h
  have HWW := Lib.hid hww
  clear hww
  have c00 : wz.cell? ⟨w.heap.size, 0, none⟩ = some (.int .i64 2) := CB.at_ kz0.out 0
  clear h4
  go_enter Tryd.func21, Tryd.ntmps21
  go_upto_region 3 with fail
  rw [HWW.out]
  go_upto_region 2 with fail
  go_wp2_with (refine wpList_store_cb rfl 31 (.tmp 4) (.tmp 9) rfl (w.heap.size + 1) _ #[.int .i64 0, .int .u64 0, .string ⟨#[]⟩] rfl rfl kz1.out rfl (by kernel_rfl) (by kernel_rfl) ?_; intro w9 k9 t9)
  exact bodyPost_ret (v := .tuple #[.agg #[.int .i64 0, .int .u64 0, .string ⟨#[]⟩], .int .i64 110]) (results_cv rfl _ _ _ _ _ rfl rfl k9 Tryd.underlying31 rfl (by kernel_rfl)) rfl ⟨_, _, _, _, rfl, BZ.out.trans (t9.below (by omega)), HS.out⟩
set_option maxRecDepth 100000 in
set_option maxHeartbeats 4000000 in
theorem rlast_bytes_no (w : World) (s : List UInt8) (k : Int) (h5 : k ≠ 5) : Calls Tryd.prog 21 #[.agg (thR (.bytes s)), .int .i64 k] w (VAt (lastV (.bytes s) k) k w) := by
  have HS : Hid (VSays (lastV (.bytes s) k) k 0 0 ⟨#[]⟩ 110) := by
    have : lastV (.bytes s) k = .error 110 := by simp [lastV, h5]
    rw [this]
    exact vsays_err (e := 110) (by decide) rfl
  obtain ⟨R, hR⟩ : ∃ R, lastV (.bytes s) k = R := ⟨_, rfl⟩
  rw [hR] at HS ⊢
  clear hR
  obtain ⟨X, hX⟩ : ∃ X, str s = X := ⟨_, rfl⟩
  show Calls _ _ #[.agg #[.int .i64 4, .bool false, .int .u64 0, .string (str s)], _] _ _
  rw [hX]
  clear hX
  have q5 : (k == 5) = false := by rw [beq_eq_false_iff_ne]; exact h5
  obtain ⟨wz, hww⟩ : ∃ W : World, ((w.alloc (.cells #[.int .i64 4, .bool false, .int .u64 0, .string X] 51)).alloc (.cells #[.int .i64 0, .int .u64 0, .string ⟨#[]⟩] 31)).alloc (.cells #[.int .i64 k, .int .u64 0, .string ⟨#[]⟩] 31) = W := ⟨_, rfl⟩
  have BZ : Hid (Below w.heap.size w wz) := by
    rw [← hww]
    exact ((((Below.refl _ w).alloc (Nat.le_refl _) _).alloc (by simp) _).alloc (by simp; omega) _)
  have kz0 : Hid (CB wz (w.heap.size) 51 #[.int .i64 4, .bool false, .int .u64 0, .string X]) := by
    rw [← hww]
    have h := CB.new w 51 #[.int .i64 4, .bool false, .int .u64 0, .string X]
    have h : CB (w.alloc (.cells #[.int .i64 4, .bool false, .int .u64 0, .string X] 51)) (w.heap.size) 51 #[.int .i64 4, .bool false, .int .u64 0, .string X] := by simpa using h
    exact ((h.below ((Below.refl _ _).alloc (Nat.le_refl _) _)).below ((Below.refl _ _).alloc (Nat.le_refl _) _))
  have kz1 : Hid (CB wz (w.heap.size + 1) 31 #[.int .i64 0, .int .u64 0, .string ⟨#[]⟩]) := by
    rw [← hww]
    have h := CB.new (w.alloc (.cells #[.int .i64 4, .bool false, .int .u64 0, .string X] 51)) 31 #[.int .i64 0, .int .u64 0, .string ⟨#[]⟩]
    have h : CB ((w.alloc (.cells #[.int .i64 4, .bool false, .int .u64 0, .string X] 51)).alloc (.cells #[.int .i64 0, .int .u64 0, .string ⟨#[]⟩] 31)) (w.heap.size + 1) 31 #[.int .i64 0, .int .u64 0, .string ⟨#[]⟩] := by simpa using h
    exact (h.below ((Below.refl _ _).alloc (Nat.le_refl _) _))
  have kz2 : Hid (CB wz (w.heap.size + 1 + 1) 31 #[.int .i64 k, .int .u64 0, .string ⟨#[]⟩]) := by
    rw [← hww]
    have h := CB.new ((w.alloc (.cells #[.int .i64 4, .bool false, .int .u64 0, .string X] 51)).alloc (.cells #[.int .i64 0, .int .u64 0, .string ⟨#[]⟩] 31)) 31 #[.int .i64 k, .int .u64 0, .string ⟨#[]⟩]
    have h : CB (((w.alloc (.cells #[.int .i64 4, .bool false, .int .u64 0, .string X] 51)).alloc (.cells #[.int .i64 0, .int .u64 0, .string ⟨#[]⟩] 31)).alloc (.cells #[.int .i64 k, .int .u64 0, .string ⟨#[]⟩] 31)) (w.heap.size + 1 + 1) 31 #[.int .i64 k, .int .u64 0, .string ⟨#[]⟩] := by simpa using h
    exact h
  have HWW := Lib.hid hww
  clear hww
  have c00 : wz.cell? ⟨w.heap.size, 0, none⟩ = some (.int .i64 4) := CB.at_ kz0.out 0
  clear h5
  go_enter Tryd.func21, Tryd.ntmps21
  go_upto_region 3 with fail
  rw [HWW.out]
  go_upto_region 2 with fail
  go_wp2_with (refine wpList_store_cb rfl 31 (.tmp 4) (.tmp 9) rfl (w.heap.size + 1) _ #[.int .i64 0, .int .u64 0, .string ⟨#[]⟩] rfl rfl kz1.out rfl (by kernel_rfl) (by kernel_rfl) ?_; intro w9 k9 t9)
  exact bodyPost_ret (v := .tuple #[.agg #[.int .i64 0, .int .u64 0, .string ⟨#[]⟩], .int .i64 110]) (results_cv rfl _ _ _ _ _ rfl rfl k9 Tryd.underlying31 rfl (by kernel_rfl)) rfl ⟨_, _, _, _, rfl, BZ.out.trans (t9.below (by omega)), HS.out⟩
theorem rlast_any (w : World) (hK : KSt w w) (t : Th) (ht : ThIn t) (k : Int) : Calls Tryd.prog 21 #[.agg (thR t), .int .i64 k] w (VAt (lastV t k) k w) := by
  cases t with
  | num v =>
    by_cases h1 : k = 1
    · subst h1; exact rlast_num1 w v ht
    · by_cases h2 : k = 2
      · subst h2; exact rlast_num2 w v ht
      · exact rlast_num_no w v k h1 h2
  | text s =>
    by_cases h : k = 4
    · subst h; exact rlast_text w hK s ht
    · exact rlast_text_no w s k h
  | truth b =>
    by_cases h : k = 3
    · subst h; exact rlast_truth w b
    · exact rlast_truth_no w b k h
  | bytes s =>
    by_cases h : k = 5
    · subst h; exact rlast_bytes w hK s ht
    · exact rlast_bytes_no w s k h
end Go.Proofs.YtmbiompmhaiehaaDoor
/- The walk of the reference: what a node over its kids stands for (gen_rnode.py). -/
namespace Go.Proofs.YtmbiompmhaiehaaDoor
open Go.RowKit

theorem ThIn.ok {t : Th} (h : ThIn t) : ThOk t := by
  cases t with
  | num v => exact ⟨by have := h.1; omega, h.2⟩
  | text s => exact h
  | truth b => trivial
  | bytes s => exact h
theorem ThIn.len {t : Th} (h : ThIn t) : t.s.length ≤ 140737488355328 := by
  cases t with
  | num v => exact Nat.zero_le _
  | text s => exact h
  | truth b => exact Nat.zero_le _
  | bytes s => exact h
theorem all_isT (l : List Th) : allR l 2 = l.all Th.isT := by
  unfold allR
  congr 1
  funext t
  cases t <;> simp [isR, Th.isT]
set_option maxRecDepth 100000 in
set_option maxHeartbeats 8000000 in
theorem rnode_leaf {w : World} {A : Option Addr} {c : Nat} {op nn na M : Int} {X : ByteArray} {R : Except Nat Th} (h : ∀ W, Calls Tryd.prog 34 #[.agg #[.int .i64 op, .int .i64 nn, .int .u64 M, .string X, .int .i64 na]] W (RAt R W)) : Calls Tryd.prog 20 #[.agg #[.int .i64 op, .int .i64 nn, .int .u64 M, .string X, .int .i64 na], .slice A (0 : Nat) c] w (RAt (R) w) := by
  have RL := Lib.hid h
  clear h
  obtain ⟨wz, hww⟩ : ∃ W : World, (w.alloc (.cells #[.int .i64 op, .int .i64 nn, .int .u64 M, .string X, .int .i64 na] 27)).alloc (.cells #[.int .i64 0, .bool false, .int .u64 0, .string ⟨#[]⟩] 51) = W := ⟨_, rfl⟩
  have BZ : Hid (Below w.heap.size w wz) := by
    rw [← hww]
    exact (((Below.refl _ w).alloc (Nat.le_refl _) _).alloc (by simp) _)
  have kz0 : Hid (CB wz (w.heap.size) 27 #[.int .i64 op, .int .i64 nn, .int .u64 M, .string X, .int .i64 na]) := by
    rw [← hww]
    have h := CB.new w 27 #[.int .i64 op, .int .i64 nn, .int .u64 M, .string X, .int .i64 na]
    have h : CB (w.alloc (.cells #[.int .i64 op, .int .i64 nn, .int .u64 M, .string X, .int .i64 na] 27)) (w.heap.size) 27 #[.int .i64 op, .int .i64 nn, .int .u64 M, .string X, .int .i64 na] := by simpa using h
    exact (h.below ((Below.refl _ _).alloc (Nat.le_refl _) _))
  have kz1 : Hid (CB wz (w.heap.size + 1) 51 #[.int .i64 0, .bool false, .int .u64 0, .string ⟨#[]⟩]) := by
    rw [← hww]
    have h := CB.new (w.alloc (.cells #[.int .i64 op, .int .i64 nn, .int .u64 M, .string X, .int .i64 na] 27)) 51 #[.int .i64 0, .bool false, .int .u64 0, .string ⟨#[]⟩]
    have h : CB ((w.alloc (.cells #[.int .i64 op, .int .i64 nn, .int .u64 M, .string X, .int .i64 na] 27)).alloc (.cells #[.int .i64 0, .bool false, .int .u64 0, .string ⟨#[]⟩] 51)) (w.heap.size + 1) 51 #[.int .i64 0, .bool false, .int .u64 0, .string ⟨#[]⟩] := by simpa using h
    exact h
  have c00 : wz.cell? ⟨w.heap.size, 0, none⟩ = some (.int .i64 op) := CB.at_ kz0.out 0
  have c01 : wz.cell? ⟨w.heap.size, 1, none⟩ = some (.int .i64 nn) := CB.at_ kz0.out 1
  have c02 : wz.cell? ⟨w.heap.size, 2, none⟩ = some (.int .u64 M) := CB.at_ kz0.out 2
  have c03 : wz.cell? ⟨w.heap.size, 3, none⟩ = some (.string X) := CB.at_ kz0.out 3
  have c04 : wz.cell? ⟨w.heap.size, 4, none⟩ = some (.int .i64 na) := CB.at_ kz0.out 4
  go_enter Tryd.func20, Tryd.ntmps20
  go_wp2_with fail
  refine (RL.out _).mono ?_
  rintro e w4 ⟨i4, g4, m4, s4, x4, rfl, b4, hs4⟩
  have k4 := Lib.hid (kz1.out.below b4)
  have HS4 := Lib.hid hs4
  have B4 := Lib.hid (BZ.out.trans (b4.mono BZ.out.size))
  clear b4 hs4
  go_wp2_with (refine wpList_store_cb rfl 51 (.tmp 4) (.tmp 12) rfl (w.heap.size + 1) _ #[.int .i64 i4, .bool g4, .int .u64 m4, .string s4] rfl rfl k4.out rfl (by kernel_rfl) (by kernel_rfl) ?_; intro w9 k9 t9)
  exact bodyPost_ret (v := .tuple #[.agg #[.int .i64 i4, .bool g4, .int .u64 m4, .string s4], .int .i64 x4]) (results_cv rfl _ _ _ _ _ rfl rfl k9 Tryd.underlying51 rfl (by kernel_rfl)) rfl ⟨_, _, _, _, _, rfl, B4.out.trans (t9.below (by omega)), HS4.out⟩
set_option maxRecDepth 100000 in
set_option maxHeartbeats 8000000 in
theorem rnode_cat {w : World} {A : Option Addr} {c : Nat} {nn na M : Int} {X : ByteArray} {k : Nat} {l : List Th} (hk : l.length = k) (h1 : 1 ≤ k) (hl : k ≤ 2932031007402) (hR : RT w w.heap.size A l) (ht : ∀ t ∈ l, ThIn t) : Calls Tryd.prog 20 #[.agg #[.int .i64 9, .int .i64 nn, .int .u64 M, .string X, .int .i64 na], .slice A k c] w (RAt (if l.all Th.isT then textE (rowL (l.map Th.s)) else .error 110) w) := by
  obtain ⟨wz, hww⟩ : ∃ W : World, (w.alloc (.cells #[.int .i64 9, .int .i64 nn, .int .u64 M, .string X, .int .i64 na] 27)).alloc (.cells #[.int .i64 0, .bool false, .int .u64 0, .string ⟨#[]⟩] 51) = W := ⟨_, rfl⟩
  have BZ : Hid (Below w.heap.size w wz) := by
    rw [← hww]
    exact (((Below.refl _ w).alloc (Nat.le_refl _) _).alloc (by simp) _)
  have kz0 : Hid (CB wz (w.heap.size) 27 #[.int .i64 9, .int .i64 nn, .int .u64 M, .string X, .int .i64 na]) := by
    rw [← hww]
    have h := CB.new w 27 #[.int .i64 9, .int .i64 nn, .int .u64 M, .string X, .int .i64 na]
    have h : CB (w.alloc (.cells #[.int .i64 9, .int .i64 nn, .int .u64 M, .string X, .int .i64 na] 27)) (w.heap.size) 27 #[.int .i64 9, .int .i64 nn, .int .u64 M, .string X, .int .i64 na] := by simpa using h
    exact (h.below ((Below.refl _ _).alloc (Nat.le_refl _) _))
  have kz1 : Hid (CB wz (w.heap.size + 1) 51 #[.int .i64 0, .bool false, .int .u64 0, .string ⟨#[]⟩]) := by
    rw [← hww]
    have h := CB.new (w.alloc (.cells #[.int .i64 9, .int .i64 nn, .int .u64 M, .string X, .int .i64 na] 27)) 51 #[.int .i64 0, .bool false, .int .u64 0, .string ⟨#[]⟩]
    have h : CB ((w.alloc (.cells #[.int .i64 9, .int .i64 nn, .int .u64 M, .string X, .int .i64 na] 27)).alloc (.cells #[.int .i64 0, .bool false, .int .u64 0, .string ⟨#[]⟩] 51)) (w.heap.size + 1) 51 #[.int .i64 0, .bool false, .int .u64 0, .string ⟨#[]⟩] := by simpa using h
    exact h
  have c00 : wz.cell? ⟨w.heap.size, 0, none⟩ = some (.int .i64 9) := CB.at_ kz0.out 0
  have RA := Lib.hid (rall_any (c := c) ((hR.below BZ.out).more BZ.out.size) (by omega) 2 (by decide))
  have hal := all_isT l
  rw [hk] at RA
  have hkz : ((k : Int) == 0) = false := by rw [beq_eq_false_iff_ne]; omega
  by_cases ha : l.all Th.isT = true
  case pos =>
    rw [if_pos ha]
    rw [hal, ha] at RA
    have RW := Lib.hid (rwords_any (c := c) ((hR.below BZ.out).more BZ.out.size) (by omega) (hal.trans ha) (fun t h => (ht t h).len))
    rw [hk] at RW
    clear hR ht hal ha hk hl h1
    go_enter Tryd.func20, Tryd.ntmps20
    go_wp2_with fail
    refine RA.out.mono ?_
    rintro e w' ⟨rfl, rfl⟩
    clear RA
    go_wp2_with fail
    refine (RW.out).mono ?_
    rintro e w4 ⟨i4, g4, m4, s4, x4, rfl, b4, hs4⟩
    have k4 := Lib.hid (kz1.out.below b4)
    have HS4 := Lib.hid hs4
    have B4 := Lib.hid (BZ.out.trans (b4.mono BZ.out.size))
    clear b4 hs4
    go_wp2_with (refine wpList_store_cb rfl 51 (.tmp 4) (.tmp 24) rfl (w.heap.size + 1) _ #[.int .i64 i4, .bool g4, .int .u64 m4, .string s4] rfl rfl k4.out rfl (by kernel_rfl) (by kernel_rfl) ?_; intro w9 k9 t9)
    exact bodyPost_ret (v := .tuple #[.agg #[.int .i64 i4, .bool g4, .int .u64 m4, .string s4], .int .i64 x4]) (results_cv rfl _ _ _ _ _ rfl rfl k9 Tryd.underlying51 rfl (by kernel_rfl)) rfl ⟨_, _, _, _, _, rfl, B4.out.trans (t9.below (by omega)), HS4.out⟩
  rw [if_neg ha]
  rw [hal, show l.all Th.isT = false by simpa using ha] at RA
  have HS : Hid (Says (.error 110) 0 false 0 ⟨#[]⟩ 110) := says_err (e := 110) (by decide) rfl
  obtain ⟨R, hR2⟩ : ∃ R : Except Nat Th, .error 110 = R := ⟨_, rfl⟩
  rw [hR2] at HS ⊢
  clear hR ht hal ha hk hl h1 hR2
  go_enter Tryd.func20, Tryd.ntmps20
  go_wp2_with fail
  refine RA.out.mono ?_
  rintro e w' ⟨rfl, rfl⟩
  clear RA
  go_wp2_with (refine wpList_store_cb rfl 51 (.tmp 4) (.tmp 21) rfl (w.heap.size + 1) _ #[.int .i64 0, .bool false, .int .u64 0, .string ⟨#[]⟩] rfl rfl kz1.out rfl (by kernel_rfl) (by kernel_rfl) ?_; intro w9 k9 t9)
  exact bodyPost_ret (v := .tuple #[.agg #[.int .i64 0, .bool false, .int .u64 0, .string ⟨#[]⟩], .int .i64 110]) (results_cv rfl _ _ _ _ _ rfl rfl k9 Tryd.underlying51 rfl (by kernel_rfl)) rfl ⟨_, _, _, _, _, rfl, BZ.out.trans (t9.below (by omega)), HS.out⟩
set_option maxRecDepth 100000 in
set_option maxHeartbeats 8000000 in
theorem rnode_one {w : World} {c : Nat} {op nn na M : Int} {X : ByteArray} {R : Except Nat Th} {b o : Nat} {i0 m0 : Int} {g0 : Bool} {s0 : ByteArray} (ho : op = 5 ∨ op = 11 ∨ op = 12) (hb : b < w.heap.size) (h0 : w.cell? ⟨b, o, none⟩ = some (.int .i64 i0)) (h1 : w.cell? ⟨b, o + 1, none⟩ = some (.bool g0)) (h2 : w.cell? ⟨b, o + 2, none⟩ = some (.int .u64 m0)) (h3 : w.cell? ⟨b, o + 3, none⟩ = some (.string s0)) (h : ∀ W, Calls Tryd.prog 37 #[.int .i64 op, .agg #[.int .i64 i0, .bool g0, .int .u64 m0, .string s0]] W (RAt R W)) : Calls Tryd.prog 20 #[.agg #[.int .i64 op, .int .i64 nn, .int .u64 M, .string X, .int .i64 na], .slice (some ⟨b, o, none⟩) 1 c] w (RAt R w) := by
  obtain ⟨wz, hww⟩ : ∃ W : World, (w.alloc (.cells #[.int .i64 op, .int .i64 nn, .int .u64 M, .string X, .int .i64 na] 27)).alloc (.cells #[.int .i64 0, .bool false, .int .u64 0, .string ⟨#[]⟩] 51) = W := ⟨_, rfl⟩
  have BZ : Hid (Below w.heap.size w wz) := by
    rw [← hww]
    exact (((Below.refl _ w).alloc (Nat.le_refl _) _).alloc (by simp) _)
  have kz0 : Hid (CB wz (w.heap.size) 27 #[.int .i64 op, .int .i64 nn, .int .u64 M, .string X, .int .i64 na]) := by
    rw [← hww]
    have h := CB.new w 27 #[.int .i64 op, .int .i64 nn, .int .u64 M, .string X, .int .i64 na]
    have h : CB (w.alloc (.cells #[.int .i64 op, .int .i64 nn, .int .u64 M, .string X, .int .i64 na] 27)) (w.heap.size) 27 #[.int .i64 op, .int .i64 nn, .int .u64 M, .string X, .int .i64 na] := by simpa using h
    exact (h.below ((Below.refl _ _).alloc (Nat.le_refl _) _))
  have kz1 : Hid (CB wz (w.heap.size + 1) 51 #[.int .i64 0, .bool false, .int .u64 0, .string ⟨#[]⟩]) := by
    rw [← hww]
    have h := CB.new (w.alloc (.cells #[.int .i64 op, .int .i64 nn, .int .u64 M, .string X, .int .i64 na] 27)) 51 #[.int .i64 0, .bool false, .int .u64 0, .string ⟨#[]⟩]
    have h : CB ((w.alloc (.cells #[.int .i64 op, .int .i64 nn, .int .u64 M, .string X, .int .i64 na] 27)).alloc (.cells #[.int .i64 0, .bool false, .int .u64 0, .string ⟨#[]⟩] 51)) (w.heap.size + 1) 51 #[.int .i64 0, .bool false, .int .u64 0, .string ⟨#[]⟩] := by simpa using h
    exact h
  have c00 : wz.cell? ⟨w.heap.size, 0, none⟩ = some (.int .i64 op) := CB.at_ kz0.out 0
  have x0 : wz.cell? ⟨b, o, none⟩ = some (.int .i64 i0) := (BZ.out.cell (p := ⟨b, o, none⟩) hb).trans h0
  have x1 : wz.cell? ⟨b, o + 1, none⟩ = some (.bool g0) := (BZ.out.cell (p := ⟨b, o + 1, none⟩) hb).trans h1
  have x2 : wz.cell? ⟨b, o + 2, none⟩ = some (.int .u64 m0) := (BZ.out.cell (p := ⟨b, o + 2, none⟩) hb).trans h2
  have x3 : wz.cell? ⟨b, o + 3, none⟩ = some (.string s0) := (BZ.out.cell (p := ⟨b, o + 3, none⟩) hb).trans h3
  have hbz : b < wz.heap.size := Nat.lt_of_lt_of_le hb BZ.out.size
  have SX : Hid (∀ W, Below wz.heap.size wz W → W.cell? ⟨w.heap.size, 0, none⟩ = some (.int .i64 op) ∧ W.cell? ⟨b, o, none⟩ = some (.int .i64 i0) ∧ W.cell? ⟨b, o + 1, none⟩ = some (.bool g0) ∧ W.cell? ⟨b, o + 2, none⟩ = some (.int .u64 m0) ∧ W.cell? ⟨b, o + 3, none⟩ = some (.string s0)) := fun W hW => ⟨(kz0.out.below hW).at_ 0, (hW.cell (p := ⟨b, o, none⟩) hbz).trans x0, (hW.cell (p := ⟨b, o + 1, none⟩) hbz).trans x1, (hW.cell (p := ⟨b, o + 2, none⟩) hbz).trans x2, (hW.cell (p := ⟨b, o + 3, none⟩) hbz).trans x3⟩
  have hB1 : Below wz.heap.size wz wz.drew := Below.thenN (Below.refl _ _) 1
  have n9 : (op == 9) = false := by rw [beq_eq_false_iff_ne]; omega
  have RO := Lib.hid h
  clear ho h h0 h1 h2 h3
  go_enter Tryd.func20, Tryd.ntmps20
  go_upto_region 8 with fail
  obtain ⟨y0, y1, y2, y3, y4⟩ := SX.out _ hB1
  go_region_with (first
    | (go_at_call 37; (refine (RO.out _).mono ?_); rintro e w3 ⟨i4, g4, m4, s4, x4, rfl, b4, hs4⟩; have hB3 : Below wz.heap.size wz w3 := Below.both hB1 b4; have k4 := Lib.hid (kz1.out.below hB3); have HS4 := Lib.hid hs4; have f0 : w3.cell? ⟨w.heap.size + 1, 0, none⟩ = some (.int .i64 0) := k4.out.at_ 0; have f1 : w3.cell? ⟨w.heap.size + 1, 1, none⟩ = some (.bool false) := k4.out.at_ 1; have f2 : w3.cell? ⟨w.heap.size + 1, 2, none⟩ = some (.int .u64 0) := k4.out.at_ 2; have f3 : w3.cell? ⟨w.heap.size + 1, 3, none⟩ = some (.string ⟨#[]⟩) := k4.out.at_ 3; have r0 := CB.frozen k4.out 0; have r1 := CB.frozen k4.out 1; have r2 := CB.frozen k4.out 2; have r3 := CB.frozen k4.out 3; clear hs4)
    | fail)
  all_goals
    go_wp2_with fail
  all_goals
    exact bodyPost_ret (v := .tuple #[.agg #[.int .i64 i4, .bool g4, .int .u64 m4, .string s4], .int .i64 x4]) (results_cv rfl _ _ _ _ _ rfl rfl (k4.out.store (cs := #[.int .i64 i4, .bool g4, .int .u64 m4, .string s4]) rfl) Tryd.underlying51 rfl (by kernel_rfl)) rfl ⟨_, _, _, _, _, rfl, (BZ.out.trans (hB3.mono BZ.out.size)).trans ((((((Turned.refl _ _).setCell 0 _).setCell 1 _).setCell 2 _).setCell 3 _).below (by omega)), HS4.out⟩
set_option maxRecDepth 100000 in
set_option maxHeartbeats 8000000 in
theorem rnode_rep {w : World} {c : Nat} {nn na M : Int} {X : ByteArray} {R : Except Nat Th} {b o : Nat} {m0 : Int} {g0 : Bool} {s0 : ByteArray} {m1 : Int} {g1 : Bool} {s1 : ByteArray} (hb : b < w.heap.size) (h0 : w.cell? ⟨b, o, none⟩ = some (.int .i64 2)) (h1 : w.cell? ⟨b, o + 1, none⟩ = some (.bool g0)) (h2 : w.cell? ⟨b, o + 2, none⟩ = some (.int .u64 m0)) (h3 : w.cell? ⟨b, o + 3, none⟩ = some (.string s0)) (h4 : w.cell? ⟨b, o + 4, none⟩ = some (.int .i64 1)) (h5 : w.cell? ⟨b, o + 4 + 1, none⟩ = some (.bool g1)) (h6 : w.cell? ⟨b, o + 4 + 2, none⟩ = some (.int .u64 m1)) (h7 : w.cell? ⟨b, o + 4 + 3, none⟩ = some (.string s1)) (h : ∀ W, Calls Tryd.prog 38 #[.agg #[.int .i64 2, .bool g0, .int .u64 m0, .string s0], .agg #[.int .i64 1, .bool g1, .int .u64 m1, .string s1]] W (RAt R W)) : Calls Tryd.prog 20 #[.agg #[.int .i64 10, .int .i64 nn, .int .u64 M, .string X, .int .i64 na], .slice (some ⟨b, o, none⟩) 2 c] w (RAt R w) := by
  obtain ⟨wz, hww⟩ : ∃ W : World, (w.alloc (.cells #[.int .i64 10, .int .i64 nn, .int .u64 M, .string X, .int .i64 na] 27)).alloc (.cells #[.int .i64 0, .bool false, .int .u64 0, .string ⟨#[]⟩] 51) = W := ⟨_, rfl⟩
  have BZ : Hid (Below w.heap.size w wz) := by
    rw [← hww]
    exact (((Below.refl _ w).alloc (Nat.le_refl _) _).alloc (by simp) _)
  have kz0 : Hid (CB wz (w.heap.size) 27 #[.int .i64 10, .int .i64 nn, .int .u64 M, .string X, .int .i64 na]) := by
    rw [← hww]
    have h := CB.new w 27 #[.int .i64 10, .int .i64 nn, .int .u64 M, .string X, .int .i64 na]
    have h : CB (w.alloc (.cells #[.int .i64 10, .int .i64 nn, .int .u64 M, .string X, .int .i64 na] 27)) (w.heap.size) 27 #[.int .i64 10, .int .i64 nn, .int .u64 M, .string X, .int .i64 na] := by simpa using h
    exact (h.below ((Below.refl _ _).alloc (Nat.le_refl _) _))
  have kz1 : Hid (CB wz (w.heap.size + 1) 51 #[.int .i64 0, .bool false, .int .u64 0, .string ⟨#[]⟩]) := by
    rw [← hww]
    have h := CB.new (w.alloc (.cells #[.int .i64 10, .int .i64 nn, .int .u64 M, .string X, .int .i64 na] 27)) 51 #[.int .i64 0, .bool false, .int .u64 0, .string ⟨#[]⟩]
    have h : CB ((w.alloc (.cells #[.int .i64 10, .int .i64 nn, .int .u64 M, .string X, .int .i64 na] 27)).alloc (.cells #[.int .i64 0, .bool false, .int .u64 0, .string ⟨#[]⟩] 51)) (w.heap.size + 1) 51 #[.int .i64 0, .bool false, .int .u64 0, .string ⟨#[]⟩] := by simpa using h
    exact h
  have c00 : wz.cell? ⟨w.heap.size, 0, none⟩ = some (.int .i64 10) := CB.at_ kz0.out 0
  have x0 : wz.cell? ⟨b, o, none⟩ = some (.int .i64 2) := (BZ.out.cell (p := ⟨b, o, none⟩) hb).trans h0
  have x1 : wz.cell? ⟨b, o + 1, none⟩ = some (.bool g0) := (BZ.out.cell (p := ⟨b, o + 1, none⟩) hb).trans h1
  have x2 : wz.cell? ⟨b, o + 2, none⟩ = some (.int .u64 m0) := (BZ.out.cell (p := ⟨b, o + 2, none⟩) hb).trans h2
  have x3 : wz.cell? ⟨b, o + 3, none⟩ = some (.string s0) := (BZ.out.cell (p := ⟨b, o + 3, none⟩) hb).trans h3
  have x4 : wz.cell? ⟨b, o + 4, none⟩ = some (.int .i64 1) := (BZ.out.cell (p := ⟨b, o + 4, none⟩) hb).trans h4
  have x5 : wz.cell? ⟨b, o + 4 + 1, none⟩ = some (.bool g1) := (BZ.out.cell (p := ⟨b, o + 4 + 1, none⟩) hb).trans h5
  have x6 : wz.cell? ⟨b, o + 4 + 2, none⟩ = some (.int .u64 m1) := (BZ.out.cell (p := ⟨b, o + 4 + 2, none⟩) hb).trans h6
  have x7 : wz.cell? ⟨b, o + 4 + 3, none⟩ = some (.string s1) := (BZ.out.cell (p := ⟨b, o + 4 + 3, none⟩) hb).trans h7
  have hbz : b < wz.heap.size := Nat.lt_of_lt_of_le hb BZ.out.size
  have SX : Hid (∀ W, Below wz.heap.size wz W → W.cell? ⟨w.heap.size, 0, none⟩ = some (.int .i64 10) ∧ W.cell? ⟨b, o, none⟩ = some (.int .i64 2) ∧ W.cell? ⟨b, o + 1, none⟩ = some (.bool g0) ∧ W.cell? ⟨b, o + 2, none⟩ = some (.int .u64 m0) ∧ W.cell? ⟨b, o + 3, none⟩ = some (.string s0) ∧ W.cell? ⟨b, o + 4, none⟩ = some (.int .i64 1) ∧ W.cell? ⟨b, o + 4 + 1, none⟩ = some (.bool g1) ∧ W.cell? ⟨b, o + 4 + 2, none⟩ = some (.int .u64 m1) ∧ W.cell? ⟨b, o + 4 + 3, none⟩ = some (.string s1)) := fun W hW => ⟨(kz0.out.below hW).at_ 0, (hW.cell (p := ⟨b, o, none⟩) hbz).trans x0, (hW.cell (p := ⟨b, o + 1, none⟩) hbz).trans x1, (hW.cell (p := ⟨b, o + 2, none⟩) hbz).trans x2, (hW.cell (p := ⟨b, o + 3, none⟩) hbz).trans x3, (hW.cell (p := ⟨b, o + 4, none⟩) hbz).trans x4, (hW.cell (p := ⟨b, o + 4 + 1, none⟩) hbz).trans x5, (hW.cell (p := ⟨b, o + 4 + 2, none⟩) hbz).trans x6, (hW.cell (p := ⟨b, o + 4 + 3, none⟩) hbz).trans x7⟩
  have hB1 : Below wz.heap.size wz wz.drew := Below.thenN (Below.refl _ _) 1
  have RP := Lib.hid h
  clear h h0 h1 h2 h3 h4 h5 h6 h7
  go_enter Tryd.func20, Tryd.ntmps20
  go_upto_region 12 with fail
  obtain ⟨y0, y1, y2, y3, y4, y5, y6, y7, y8⟩ := SX.out _ hB1
  go_region_with (first
    | (go_at_call 38; (refine (RP.out _).mono ?_); rintro e w3 ⟨i4, g4, m4, s4, x4, rfl, b4, hs4⟩; have hB3 : Below wz.heap.size wz w3 := Below.both hB1 b4; have k4 := Lib.hid (kz1.out.below hB3); have HS4 := Lib.hid hs4; have f0 : w3.cell? ⟨w.heap.size + 1, 0, none⟩ = some (.int .i64 0) := k4.out.at_ 0; have f1 : w3.cell? ⟨w.heap.size + 1, 1, none⟩ = some (.bool false) := k4.out.at_ 1; have f2 : w3.cell? ⟨w.heap.size + 1, 2, none⟩ = some (.int .u64 0) := k4.out.at_ 2; have f3 : w3.cell? ⟨w.heap.size + 1, 3, none⟩ = some (.string ⟨#[]⟩) := k4.out.at_ 3; have r0 := CB.frozen k4.out 0; have r1 := CB.frozen k4.out 1; have r2 := CB.frozen k4.out 2; have r3 := CB.frozen k4.out 3; clear hs4)
    | fail)
  all_goals
    go_wp2_with fail
  all_goals
    exact bodyPost_ret (v := .tuple #[.agg #[.int .i64 i4, .bool g4, .int .u64 m4, .string s4], .int .i64 x4]) (results_cv rfl _ _ _ _ _ rfl rfl (k4.out.store (cs := #[.int .i64 i4, .bool g4, .int .u64 m4, .string s4]) rfl) Tryd.underlying51 rfl (by kernel_rfl)) rfl ⟨_, _, _, _, _, rfl, (BZ.out.trans (hB3.mono BZ.out.size)).trans ((((((Turned.refl _ _).setCell 0 _).setCell 1 _).setCell 2 _).setCell 3 _).below (by omega)), HS4.out⟩
set_option maxRecDepth 100000 in
set_option maxHeartbeats 8000000 in
theorem rnode_rep_no {w : World} {c : Nat} {nn na M : Int} {X : ByteArray} {b o : Nat} {i0 m0 : Int} {g0 : Bool} {s0 : ByteArray} {i1 m1 : Int} {g1 : Bool} {s1 : ByteArray} (hb : b < w.heap.size) (h0 : w.cell? ⟨b, o, none⟩ = some (.int .i64 i0)) (h1 : w.cell? ⟨b, o + 1, none⟩ = some (.bool g0)) (h2 : w.cell? ⟨b, o + 2, none⟩ = some (.int .u64 m0)) (h3 : w.cell? ⟨b, o + 3, none⟩ = some (.string s0)) (h4 : w.cell? ⟨b, o + 4, none⟩ = some (.int .i64 i1)) (h5 : w.cell? ⟨b, o + 4 + 1, none⟩ = some (.bool g1)) (h6 : w.cell? ⟨b, o + 4 + 2, none⟩ = some (.int .u64 m1)) (h7 : w.cell? ⟨b, o + 4 + 3, none⟩ = some (.string s1)) (hno : i0 ≠ 2 ∨ i1 ≠ 1) : Calls Tryd.prog 20 #[.agg #[.int .i64 10, .int .i64 nn, .int .u64 M, .string X, .int .i64 na], .slice (some ⟨b, o, none⟩) 2 c] w (RAt (.error 110) w) := by
  obtain ⟨wz, hww⟩ : ∃ W : World, (w.alloc (.cells #[.int .i64 10, .int .i64 nn, .int .u64 M, .string X, .int .i64 na] 27)).alloc (.cells #[.int .i64 0, .bool false, .int .u64 0, .string ⟨#[]⟩] 51) = W := ⟨_, rfl⟩
  have BZ : Hid (Below w.heap.size w wz) := by
    rw [← hww]
    exact (((Below.refl _ w).alloc (Nat.le_refl _) _).alloc (by simp) _)
  have kz0 : Hid (CB wz (w.heap.size) 27 #[.int .i64 10, .int .i64 nn, .int .u64 M, .string X, .int .i64 na]) := by
    rw [← hww]
    have h := CB.new w 27 #[.int .i64 10, .int .i64 nn, .int .u64 M, .string X, .int .i64 na]
    have h : CB (w.alloc (.cells #[.int .i64 10, .int .i64 nn, .int .u64 M, .string X, .int .i64 na] 27)) (w.heap.size) 27 #[.int .i64 10, .int .i64 nn, .int .u64 M, .string X, .int .i64 na] := by simpa using h
    exact (h.below ((Below.refl _ _).alloc (Nat.le_refl _) _))
  have kz1 : Hid (CB wz (w.heap.size + 1) 51 #[.int .i64 0, .bool false, .int .u64 0, .string ⟨#[]⟩]) := by
    rw [← hww]
    have h := CB.new (w.alloc (.cells #[.int .i64 10, .int .i64 nn, .int .u64 M, .string X, .int .i64 na] 27)) 51 #[.int .i64 0, .bool false, .int .u64 0, .string ⟨#[]⟩]
    have h : CB ((w.alloc (.cells #[.int .i64 10, .int .i64 nn, .int .u64 M, .string X, .int .i64 na] 27)).alloc (.cells #[.int .i64 0, .bool false, .int .u64 0, .string ⟨#[]⟩] 51)) (w.heap.size + 1) 51 #[.int .i64 0, .bool false, .int .u64 0, .string ⟨#[]⟩] := by simpa using h
    exact h
  have c00 : wz.cell? ⟨w.heap.size, 0, none⟩ = some (.int .i64 10) := CB.at_ kz0.out 0
  have x0 : wz.cell? ⟨b, o, none⟩ = some (.int .i64 i0) := (BZ.out.cell (p := ⟨b, o, none⟩) hb).trans h0
  have x1 : wz.cell? ⟨b, o + 1, none⟩ = some (.bool g0) := (BZ.out.cell (p := ⟨b, o + 1, none⟩) hb).trans h1
  have x2 : wz.cell? ⟨b, o + 2, none⟩ = some (.int .u64 m0) := (BZ.out.cell (p := ⟨b, o + 2, none⟩) hb).trans h2
  have x3 : wz.cell? ⟨b, o + 3, none⟩ = some (.string s0) := (BZ.out.cell (p := ⟨b, o + 3, none⟩) hb).trans h3
  have x4 : wz.cell? ⟨b, o + 4, none⟩ = some (.int .i64 i1) := (BZ.out.cell (p := ⟨b, o + 4, none⟩) hb).trans h4
  have x5 : wz.cell? ⟨b, o + 4 + 1, none⟩ = some (.bool g1) := (BZ.out.cell (p := ⟨b, o + 4 + 1, none⟩) hb).trans h5
  have x6 : wz.cell? ⟨b, o + 4 + 2, none⟩ = some (.int .u64 m1) := (BZ.out.cell (p := ⟨b, o + 4 + 2, none⟩) hb).trans h6
  have x7 : wz.cell? ⟨b, o + 4 + 3, none⟩ = some (.string s1) := (BZ.out.cell (p := ⟨b, o + 4 + 3, none⟩) hb).trans h7
  have HS : Hid (Says (.error 110) 0 false 0 ⟨#[]⟩ 110) := says_err (e := 110) (by decide) rfl
  clear h0 h1 h2 h3 h4 h5 h6 h7
  by_cases hi : i0 = 2
  case pos =>
    have q0 : (i0 != 2) = false := by rw [bne_eq_false_iff_eq]; exact hi
    have q1 : (i1 != 1) = true := by rw [bne_iff_ne]; exact hno.resolve_left (fun h => h hi)
    clear hi hno
    go_enter Tryd.func20, Tryd.ntmps20
    go_upto_region 11 with fail
    go_wp2_with (refine wpList_store_cb rfl 51 (.tmp 4) (.tmp 54) rfl (w.heap.size + 1) _ #[.int .i64 0, .bool false, .int .u64 0, .string ⟨#[]⟩] rfl rfl kz1.out rfl (by kernel_rfl) (by kernel_rfl) ?_; intro w9 k9 t9)
    exact bodyPost_ret (v := .tuple #[.agg #[.int .i64 0, .bool false, .int .u64 0, .string ⟨#[]⟩], .int .i64 110]) (results_cv rfl _ _ _ _ _ rfl rfl k9 Tryd.underlying51 rfl (by kernel_rfl)) rfl ⟨_, _, _, _, _, rfl, BZ.out.trans (t9.below (by omega)), HS.out⟩
  have q0 : (i0 != 2) = true := by rw [bne_iff_ne]; exact hi
  clear hi hno
  go_enter Tryd.func20, Tryd.ntmps20
  go_upto_region 11 with fail
  go_wp2_with (refine wpList_store_cb rfl 51 (.tmp 4) (.tmp 54) rfl (w.heap.size + 1) _ #[.int .i64 0, .bool false, .int .u64 0, .string ⟨#[]⟩] rfl rfl kz1.out rfl (by kernel_rfl) (by kernel_rfl) ?_; intro w9 k9 t9)
  exact bodyPost_ret (v := .tuple #[.agg #[.int .i64 0, .bool false, .int .u64 0, .string ⟨#[]⟩], .int .i64 110]) (results_cv rfl _ _ _ _ _ rfl rfl k9 Tryd.underlying51 rfl (by kernel_rfl)) rfl ⟨_, _, _, _, _, rfl, BZ.out.trans (t9.below (by omega)), HS.out⟩
set_option maxRecDepth 100000 in
set_option maxHeartbeats 8000000 in
theorem rnode_words {w : World} {c : Nat} {nn na M : Int} {X : ByteArray} {R : Except Nat Th} {b o : Nat} (h2 : ∀ W, Below w.heap.size w W → Calls Tryd.prog 35 #[.slice (some ⟨b, o, none⟩) 2 c, .int .i64 2] W fun e w' => e = .returned (.bool true) ∧ W = w') (hW : ∀ W, Below w.heap.size w W → Calls Tryd.prog 36 #[.slice (some ⟨b, o, none⟩) 2 c] W (RAt R W)) : Calls Tryd.prog 20 #[.agg #[.int .i64 6, .int .i64 nn, .int .u64 M, .string X, .int .i64 na], .slice (some ⟨b, o, none⟩) 2 c] w (RAt R w) := by
  obtain ⟨wz, hww⟩ : ∃ W : World, (w.alloc (.cells #[.int .i64 6, .int .i64 nn, .int .u64 M, .string X, .int .i64 na] 27)).alloc (.cells #[.int .i64 0, .bool false, .int .u64 0, .string ⟨#[]⟩] 51) = W := ⟨_, rfl⟩
  have BZ : Hid (Below w.heap.size w wz) := by
    rw [← hww]
    exact (((Below.refl _ w).alloc (Nat.le_refl _) _).alloc (by simp) _)
  have kz0 : Hid (CB wz (w.heap.size) 27 #[.int .i64 6, .int .i64 nn, .int .u64 M, .string X, .int .i64 na]) := by
    rw [← hww]
    have h := CB.new w 27 #[.int .i64 6, .int .i64 nn, .int .u64 M, .string X, .int .i64 na]
    have h : CB (w.alloc (.cells #[.int .i64 6, .int .i64 nn, .int .u64 M, .string X, .int .i64 na] 27)) (w.heap.size) 27 #[.int .i64 6, .int .i64 nn, .int .u64 M, .string X, .int .i64 na] := by simpa using h
    exact (h.below ((Below.refl _ _).alloc (Nat.le_refl _) _))
  have kz1 : Hid (CB wz (w.heap.size + 1) 51 #[.int .i64 0, .bool false, .int .u64 0, .string ⟨#[]⟩]) := by
    rw [← hww]
    have h := CB.new (w.alloc (.cells #[.int .i64 6, .int .i64 nn, .int .u64 M, .string X, .int .i64 na] 27)) 51 #[.int .i64 0, .bool false, .int .u64 0, .string ⟨#[]⟩]
    have h : CB ((w.alloc (.cells #[.int .i64 6, .int .i64 nn, .int .u64 M, .string X, .int .i64 na] 27)).alloc (.cells #[.int .i64 0, .bool false, .int .u64 0, .string ⟨#[]⟩] 51)) (w.heap.size + 1) 51 #[.int .i64 0, .bool false, .int .u64 0, .string ⟨#[]⟩] := by simpa using h
    exact h
  have c00 : wz.cell? ⟨w.heap.size, 0, none⟩ = some (.int .i64 6) := CB.at_ kz0.out 0
  have RA := Lib.hid (h2 wz BZ.out)
  have RW := Lib.hid (hW wz BZ.out)
  clear h2 hW
  go_enter Tryd.func20, Tryd.ntmps20
  go_wp2_with fail
  refine RA.out.mono ?_
  rintro e w' ⟨rfl, rfl⟩
  clear RA
  go_wp2_with fail
  refine (RW.out).mono ?_
  rintro e w4 ⟨i4, g4, m4, s4, x4, rfl, b4, hs4⟩
  have k4 := Lib.hid (kz1.out.below b4)
  have HS4 := Lib.hid hs4
  have B4 := Lib.hid (BZ.out.trans (b4.mono BZ.out.size))
  clear b4 hs4
  go_wp2_with (refine wpList_store_cb rfl 51 (.tmp 4) (.tmp 74) rfl (w.heap.size + 1) _ #[.int .i64 i4, .bool g4, .int .u64 m4, .string s4] rfl rfl k4.out rfl (by kernel_rfl) (by kernel_rfl) ?_; intro w9 k9 t9)
  exact bodyPost_ret (v := .tuple #[.agg #[.int .i64 i4, .bool g4, .int .u64 m4, .string s4], .int .i64 x4]) (results_cv rfl _ _ _ _ _ rfl rfl k9 Tryd.underlying51 rfl (by kernel_rfl)) rfl ⟨_, _, _, _, _, rfl, B4.out.trans (t9.below (by omega)), HS4.out⟩
set_option maxRecDepth 100000 in
set_option maxHeartbeats 8000000 in
theorem rnode_two_no6 {w : World} {c : Nat} {nn na M : Int} {X : ByteArray} {b o : Nat} (h2 : ∀ W, Below w.heap.size w W → Calls Tryd.prog 35 #[.slice (some ⟨b, o, none⟩) 2 c, .int .i64 2] W fun e w' => e = .returned (.bool false) ∧ W = w') (h1 : ∀ W, Below w.heap.size w W → Calls Tryd.prog 35 #[.slice (some ⟨b, o, none⟩) 2 c, .int .i64 1] W fun e w' => e = .returned (.bool false) ∧ W = w') : Calls Tryd.prog 20 #[.agg #[.int .i64 6, .int .i64 nn, .int .u64 M, .string X, .int .i64 na], .slice (some ⟨b, o, none⟩) 2 c] w (RAt (.error 110) w) := by
  obtain ⟨wz, hww⟩ : ∃ W : World, (w.alloc (.cells #[.int .i64 6, .int .i64 nn, .int .u64 M, .string X, .int .i64 na] 27)).alloc (.cells #[.int .i64 0, .bool false, .int .u64 0, .string ⟨#[]⟩] 51) = W := ⟨_, rfl⟩
  have BZ : Hid (Below w.heap.size w wz) := by
    rw [← hww]
    exact (((Below.refl _ w).alloc (Nat.le_refl _) _).alloc (by simp) _)
  have kz0 : Hid (CB wz (w.heap.size) 27 #[.int .i64 6, .int .i64 nn, .int .u64 M, .string X, .int .i64 na]) := by
    rw [← hww]
    have h := CB.new w 27 #[.int .i64 6, .int .i64 nn, .int .u64 M, .string X, .int .i64 na]
    have h : CB (w.alloc (.cells #[.int .i64 6, .int .i64 nn, .int .u64 M, .string X, .int .i64 na] 27)) (w.heap.size) 27 #[.int .i64 6, .int .i64 nn, .int .u64 M, .string X, .int .i64 na] := by simpa using h
    exact (h.below ((Below.refl _ _).alloc (Nat.le_refl _) _))
  have kz1 : Hid (CB wz (w.heap.size + 1) 51 #[.int .i64 0, .bool false, .int .u64 0, .string ⟨#[]⟩]) := by
    rw [← hww]
    have h := CB.new (w.alloc (.cells #[.int .i64 6, .int .i64 nn, .int .u64 M, .string X, .int .i64 na] 27)) 51 #[.int .i64 0, .bool false, .int .u64 0, .string ⟨#[]⟩]
    have h : CB ((w.alloc (.cells #[.int .i64 6, .int .i64 nn, .int .u64 M, .string X, .int .i64 na] 27)).alloc (.cells #[.int .i64 0, .bool false, .int .u64 0, .string ⟨#[]⟩] 51)) (w.heap.size + 1) 51 #[.int .i64 0, .bool false, .int .u64 0, .string ⟨#[]⟩] := by simpa using h
    exact h
  have c00 : wz.cell? ⟨w.heap.size, 0, none⟩ = some (.int .i64 6) := CB.at_ kz0.out 0
  have RA2 := Lib.hid (h2 wz BZ.out)
  clear h2
  have RA1 := Lib.hid (h1 wz BZ.out)
  have HS : Hid (Says (.error 110) 0 false 0 ⟨#[]⟩ 110) := says_err (e := 110) (by decide) rfl
  clear h1
  go_enter Tryd.func20, Tryd.ntmps20
  go_wp2_with fail
  refine RA2.out.mono ?_
  rintro e w' ⟨rfl, rfl⟩
  clear RA2
  go_wp2_with fail
  refine RA1.out.mono ?_
  rintro e w' ⟨rfl, rfl⟩
  clear RA1
  go_upto_region 16 with fail
  go_wp2_with (refine wpList_store_cb rfl 51 (.tmp 4) (.tmp 80) rfl (w.heap.size + 1) _ #[.int .i64 0, .bool false, .int .u64 0, .string ⟨#[]⟩] rfl rfl kz1.out rfl (by kernel_rfl) (by kernel_rfl) ?_; intro w9 k9 t9)
  exact bodyPost_ret (v := .tuple #[.agg #[.int .i64 0, .bool false, .int .u64 0, .string ⟨#[]⟩], .int .i64 110]) (results_cv rfl _ _ _ _ _ rfl rfl k9 Tryd.underlying51 rfl (by kernel_rfl)) rfl ⟨_, _, _, _, _, rfl, BZ.out.trans (t9.below (by omega)), HS.out⟩
set_option maxRecDepth 100000 in
set_option maxHeartbeats 8000000 in
theorem rnode_two6 {w : World} {c : Nat} {nn na M : Int} {X : ByteArray} {R : Except Nat Th} {b o : Nat} {m0 : Int} {g0 : Bool} {s0 : ByteArray} {m1 : Int} {g1 : Bool} {s1 : ByteArray} (h2 : ∀ W, Below w.heap.size w W → Calls Tryd.prog 35 #[.slice (some ⟨b, o, none⟩) 2 c, .int .i64 2] W fun e w' => e = .returned (.bool false) ∧ W = w') (ha : ∀ W, Below w.heap.size w W → Calls Tryd.prog 35 #[.slice (some ⟨b, o, none⟩) 2 c, .int .i64 1] W fun e w' => e = .returned (.bool true) ∧ W = w') (hb : b < w.heap.size) (k0 : w.cell? ⟨b, o, none⟩ = some (.int .i64 1)) (k1 : w.cell? ⟨b, o + 1, none⟩ = some (.bool g0)) (k2 : w.cell? ⟨b, o + 2, none⟩ = some (.int .u64 m0)) (k3 : w.cell? ⟨b, o + 3, none⟩ = some (.string s0)) (k4 : w.cell? ⟨b, o + 4, none⟩ = some (.int .i64 1)) (k5 : w.cell? ⟨b, o + 4 + 1, none⟩ = some (.bool g1)) (k6 : w.cell? ⟨b, o + 4 + 2, none⟩ = some (.int .u64 m1)) (k7 : w.cell? ⟨b, o + 4 + 3, none⟩ = some (.string s1)) (h : ∀ W, Calls Tryd.prog 39 #[.int .i64 6, .agg #[.int .i64 1, .bool g0, .int .u64 m0, .string s0], .agg #[.int .i64 1, .bool g1, .int .u64 m1, .string s1]] W (RAt R W)) : Calls Tryd.prog 20 #[.agg #[.int .i64 6, .int .i64 nn, .int .u64 M, .string X, .int .i64 na], .slice (some ⟨b, o, none⟩) 2 c] w (RAt R w) := by
  obtain ⟨wz, hww⟩ : ∃ W : World, (w.alloc (.cells #[.int .i64 6, .int .i64 nn, .int .u64 M, .string X, .int .i64 na] 27)).alloc (.cells #[.int .i64 0, .bool false, .int .u64 0, .string ⟨#[]⟩] 51) = W := ⟨_, rfl⟩
  have BZ : Hid (Below w.heap.size w wz) := by
    rw [← hww]
    exact (((Below.refl _ w).alloc (Nat.le_refl _) _).alloc (by simp) _)
  have kz0 : Hid (CB wz (w.heap.size) 27 #[.int .i64 6, .int .i64 nn, .int .u64 M, .string X, .int .i64 na]) := by
    rw [← hww]
    have h := CB.new w 27 #[.int .i64 6, .int .i64 nn, .int .u64 M, .string X, .int .i64 na]
    have h : CB (w.alloc (.cells #[.int .i64 6, .int .i64 nn, .int .u64 M, .string X, .int .i64 na] 27)) (w.heap.size) 27 #[.int .i64 6, .int .i64 nn, .int .u64 M, .string X, .int .i64 na] := by simpa using h
    exact (h.below ((Below.refl _ _).alloc (Nat.le_refl _) _))
  have kz1 : Hid (CB wz (w.heap.size + 1) 51 #[.int .i64 0, .bool false, .int .u64 0, .string ⟨#[]⟩]) := by
    rw [← hww]
    have h := CB.new (w.alloc (.cells #[.int .i64 6, .int .i64 nn, .int .u64 M, .string X, .int .i64 na] 27)) 51 #[.int .i64 0, .bool false, .int .u64 0, .string ⟨#[]⟩]
    have h : CB ((w.alloc (.cells #[.int .i64 6, .int .i64 nn, .int .u64 M, .string X, .int .i64 na] 27)).alloc (.cells #[.int .i64 0, .bool false, .int .u64 0, .string ⟨#[]⟩] 51)) (w.heap.size + 1) 51 #[.int .i64 0, .bool false, .int .u64 0, .string ⟨#[]⟩] := by simpa using h
    exact h
  have c00 : wz.cell? ⟨w.heap.size, 0, none⟩ = some (.int .i64 6) := CB.at_ kz0.out 0
  have x0 : wz.cell? ⟨b, o, none⟩ = some (.int .i64 1) := (BZ.out.cell (p := ⟨b, o, none⟩) hb).trans k0
  have x1 : wz.cell? ⟨b, o + 1, none⟩ = some (.bool g0) := (BZ.out.cell (p := ⟨b, o + 1, none⟩) hb).trans k1
  have x2 : wz.cell? ⟨b, o + 2, none⟩ = some (.int .u64 m0) := (BZ.out.cell (p := ⟨b, o + 2, none⟩) hb).trans k2
  have x3 : wz.cell? ⟨b, o + 3, none⟩ = some (.string s0) := (BZ.out.cell (p := ⟨b, o + 3, none⟩) hb).trans k3
  have x4 : wz.cell? ⟨b, o + 4, none⟩ = some (.int .i64 1) := (BZ.out.cell (p := ⟨b, o + 4, none⟩) hb).trans k4
  have x5 : wz.cell? ⟨b, o + 4 + 1, none⟩ = some (.bool g1) := (BZ.out.cell (p := ⟨b, o + 4 + 1, none⟩) hb).trans k5
  have x6 : wz.cell? ⟨b, o + 4 + 2, none⟩ = some (.int .u64 m1) := (BZ.out.cell (p := ⟨b, o + 4 + 2, none⟩) hb).trans k6
  have x7 : wz.cell? ⟨b, o + 4 + 3, none⟩ = some (.string s1) := (BZ.out.cell (p := ⟨b, o + 4 + 3, none⟩) hb).trans k7
  have hbz : b < wz.heap.size := Nat.lt_of_lt_of_le hb BZ.out.size
  have SX : Hid (∀ W, Below wz.heap.size wz W → W.cell? ⟨w.heap.size, 0, none⟩ = some (.int .i64 6) ∧ W.cell? ⟨b, o, none⟩ = some (.int .i64 1) ∧ W.cell? ⟨b, o + 1, none⟩ = some (.bool g0) ∧ W.cell? ⟨b, o + 2, none⟩ = some (.int .u64 m0) ∧ W.cell? ⟨b, o + 3, none⟩ = some (.string s0) ∧ W.cell? ⟨b, o + 4, none⟩ = some (.int .i64 1) ∧ W.cell? ⟨b, o + 4 + 1, none⟩ = some (.bool g1) ∧ W.cell? ⟨b, o + 4 + 2, none⟩ = some (.int .u64 m1) ∧ W.cell? ⟨b, o + 4 + 3, none⟩ = some (.string s1)) := fun W hW => ⟨(kz0.out.below hW).at_ 0, (hW.cell (p := ⟨b, o, none⟩) hbz).trans x0, (hW.cell (p := ⟨b, o + 1, none⟩) hbz).trans x1, (hW.cell (p := ⟨b, o + 2, none⟩) hbz).trans x2, (hW.cell (p := ⟨b, o + 3, none⟩) hbz).trans x3, (hW.cell (p := ⟨b, o + 4, none⟩) hbz).trans x4, (hW.cell (p := ⟨b, o + 4 + 1, none⟩) hbz).trans x5, (hW.cell (p := ⟨b, o + 4 + 2, none⟩) hbz).trans x6, (hW.cell (p := ⟨b, o + 4 + 3, none⟩) hbz).trans x7⟩
  have hB1 : Below wz.heap.size wz wz.drew := Below.thenN (Below.refl _ _) 1
  have RA2 := Lib.hid (h2 wz BZ.out)
  clear h2
  have RA1 := Lib.hid (ha wz BZ.out)
  have RK := Lib.hid h
  clear ha h k0 k1 k2 k3 k4 k5 k6 k7
  go_enter Tryd.func20, Tryd.ntmps20
  go_wp2_with fail
  refine RA2.out.mono ?_
  rintro e w' ⟨rfl, rfl⟩
  clear RA2
  go_wp2_with fail
  refine RA1.out.mono ?_
  rintro e w' ⟨rfl, rfl⟩
  clear RA1
  go_upto_region 17 with fail
  obtain ⟨y0, y1, y2, y3, y4, y5, y6, y7, y8⟩ := SX.out _ hB1
  go_region_with (first
    | (go_at_call 39; (refine (RK.out _).mono ?_); rintro e w3 ⟨i4, g4, m4, s4, x4, rfl, b4, hs4⟩; have hB3 : Below wz.heap.size wz w3 := Below.both hB1 b4; have k4 := Lib.hid (kz1.out.below hB3); have HS4 := Lib.hid hs4; have f0 : w3.cell? ⟨w.heap.size + 1, 0, none⟩ = some (.int .i64 0) := k4.out.at_ 0; have f1 : w3.cell? ⟨w.heap.size + 1, 1, none⟩ = some (.bool false) := k4.out.at_ 1; have f2 : w3.cell? ⟨w.heap.size + 1, 2, none⟩ = some (.int .u64 0) := k4.out.at_ 2; have f3 : w3.cell? ⟨w.heap.size + 1, 3, none⟩ = some (.string ⟨#[]⟩) := k4.out.at_ 3; have r0 := CB.frozen k4.out 0; have r1 := CB.frozen k4.out 1; have r2 := CB.frozen k4.out 2; have r3 := CB.frozen k4.out 3; clear hs4)
    | fail)
  all_goals
    go_wp2_with fail
  all_goals
    exact bodyPost_ret (v := .tuple #[.agg #[.int .i64 i4, .bool g4, .int .u64 m4, .string s4], .int .i64 x4]) (results_cv rfl _ _ _ _ _ rfl rfl (k4.out.store (cs := #[.int .i64 i4, .bool g4, .int .u64 m4, .string s4]) rfl) Tryd.underlying51 rfl (by kernel_rfl)) rfl ⟨_, _, _, _, _, rfl, (BZ.out.trans (hB3.mono BZ.out.size)).trans ((((((Turned.refl _ _).setCell 0 _).setCell 1 _).setCell 2 _).setCell 3 _).below (by omega)), HS4.out⟩
set_option maxRecDepth 100000 in
set_option maxHeartbeats 8000000 in
theorem rnode_two_no {w : World} {c : Nat} {op nn na M : Int} {X : ByteArray} {b o : Nat} (ho : op = 7 ∨ op = 8) (h1 : ∀ W, Below w.heap.size w W → Calls Tryd.prog 35 #[.slice (some ⟨b, o, none⟩) 2 c, .int .i64 1] W fun e w' => e = .returned (.bool false) ∧ W = w') : Calls Tryd.prog 20 #[.agg #[.int .i64 op, .int .i64 nn, .int .u64 M, .string X, .int .i64 na], .slice (some ⟨b, o, none⟩) 2 c] w (RAt (.error 110) w) := by
  obtain ⟨wz, hww⟩ : ∃ W : World, (w.alloc (.cells #[.int .i64 op, .int .i64 nn, .int .u64 M, .string X, .int .i64 na] 27)).alloc (.cells #[.int .i64 0, .bool false, .int .u64 0, .string ⟨#[]⟩] 51) = W := ⟨_, rfl⟩
  have BZ : Hid (Below w.heap.size w wz) := by
    rw [← hww]
    exact (((Below.refl _ w).alloc (Nat.le_refl _) _).alloc (by simp) _)
  have kz0 : Hid (CB wz (w.heap.size) 27 #[.int .i64 op, .int .i64 nn, .int .u64 M, .string X, .int .i64 na]) := by
    rw [← hww]
    have h := CB.new w 27 #[.int .i64 op, .int .i64 nn, .int .u64 M, .string X, .int .i64 na]
    have h : CB (w.alloc (.cells #[.int .i64 op, .int .i64 nn, .int .u64 M, .string X, .int .i64 na] 27)) (w.heap.size) 27 #[.int .i64 op, .int .i64 nn, .int .u64 M, .string X, .int .i64 na] := by simpa using h
    exact (h.below ((Below.refl _ _).alloc (Nat.le_refl _) _))
  have kz1 : Hid (CB wz (w.heap.size + 1) 51 #[.int .i64 0, .bool false, .int .u64 0, .string ⟨#[]⟩]) := by
    rw [← hww]
    have h := CB.new (w.alloc (.cells #[.int .i64 op, .int .i64 nn, .int .u64 M, .string X, .int .i64 na] 27)) 51 #[.int .i64 0, .bool false, .int .u64 0, .string ⟨#[]⟩]
    have h : CB ((w.alloc (.cells #[.int .i64 op, .int .i64 nn, .int .u64 M, .string X, .int .i64 na] 27)).alloc (.cells #[.int .i64 0, .bool false, .int .u64 0, .string ⟨#[]⟩] 51)) (w.heap.size + 1) 51 #[.int .i64 0, .bool false, .int .u64 0, .string ⟨#[]⟩] := by simpa using h
    exact h
  have c00 : wz.cell? ⟨w.heap.size, 0, none⟩ = some (.int .i64 op) := CB.at_ kz0.out 0
  have n9 : (op == 9) = false := by rw [beq_eq_false_iff_ne]; omega
  have n10 : (op == 10) = false := by rw [beq_eq_false_iff_ne]; omega
  have n6 : (op == 6) = false := by rw [beq_eq_false_iff_ne]; omega
  clear ho
  have RA1 := Lib.hid (h1 wz BZ.out)
  have HS : Hid (Says (.error 110) 0 false 0 ⟨#[]⟩ 110) := says_err (e := 110) (by decide) rfl
  clear h1
  go_enter Tryd.func20, Tryd.ntmps20
  go_wp2_with fail
  refine RA1.out.mono ?_
  rintro e w' ⟨rfl, rfl⟩
  clear RA1
  go_upto_region 16 with fail
  go_wp2_with (refine wpList_store_cb rfl 51 (.tmp 4) (.tmp 80) rfl (w.heap.size + 1) _ #[.int .i64 0, .bool false, .int .u64 0, .string ⟨#[]⟩] rfl rfl kz1.out rfl (by kernel_rfl) (by kernel_rfl) ?_; intro w9 k9 t9)
  exact bodyPost_ret (v := .tuple #[.agg #[.int .i64 0, .bool false, .int .u64 0, .string ⟨#[]⟩], .int .i64 110]) (results_cv rfl _ _ _ _ _ rfl rfl k9 Tryd.underlying51 rfl (by kernel_rfl)) rfl ⟨_, _, _, _, _, rfl, BZ.out.trans (t9.below (by omega)), HS.out⟩
set_option maxRecDepth 100000 in
set_option maxHeartbeats 8000000 in
theorem rnode_two {w : World} {c : Nat} {op nn na M : Int} {X : ByteArray} {R : Except Nat Th} {b o : Nat} {m0 : Int} {g0 : Bool} {s0 : ByteArray} {m1 : Int} {g1 : Bool} {s1 : ByteArray} (ho : op = 7 ∨ op = 8) (ha : ∀ W, Below w.heap.size w W → Calls Tryd.prog 35 #[.slice (some ⟨b, o, none⟩) 2 c, .int .i64 1] W fun e w' => e = .returned (.bool true) ∧ W = w') (hb : b < w.heap.size) (k0 : w.cell? ⟨b, o, none⟩ = some (.int .i64 1)) (k1 : w.cell? ⟨b, o + 1, none⟩ = some (.bool g0)) (k2 : w.cell? ⟨b, o + 2, none⟩ = some (.int .u64 m0)) (k3 : w.cell? ⟨b, o + 3, none⟩ = some (.string s0)) (k4 : w.cell? ⟨b, o + 4, none⟩ = some (.int .i64 1)) (k5 : w.cell? ⟨b, o + 4 + 1, none⟩ = some (.bool g1)) (k6 : w.cell? ⟨b, o + 4 + 2, none⟩ = some (.int .u64 m1)) (k7 : w.cell? ⟨b, o + 4 + 3, none⟩ = some (.string s1)) (h : ∀ W, Calls Tryd.prog 39 #[.int .i64 op, .agg #[.int .i64 1, .bool g0, .int .u64 m0, .string s0], .agg #[.int .i64 1, .bool g1, .int .u64 m1, .string s1]] W (RAt R W)) : Calls Tryd.prog 20 #[.agg #[.int .i64 op, .int .i64 nn, .int .u64 M, .string X, .int .i64 na], .slice (some ⟨b, o, none⟩) 2 c] w (RAt R w) := by
  obtain ⟨wz, hww⟩ : ∃ W : World, (w.alloc (.cells #[.int .i64 op, .int .i64 nn, .int .u64 M, .string X, .int .i64 na] 27)).alloc (.cells #[.int .i64 0, .bool false, .int .u64 0, .string ⟨#[]⟩] 51) = W := ⟨_, rfl⟩
  have BZ : Hid (Below w.heap.size w wz) := by
    rw [← hww]
    exact (((Below.refl _ w).alloc (Nat.le_refl _) _).alloc (by simp) _)
  have kz0 : Hid (CB wz (w.heap.size) 27 #[.int .i64 op, .int .i64 nn, .int .u64 M, .string X, .int .i64 na]) := by
    rw [← hww]
    have h := CB.new w 27 #[.int .i64 op, .int .i64 nn, .int .u64 M, .string X, .int .i64 na]
    have h : CB (w.alloc (.cells #[.int .i64 op, .int .i64 nn, .int .u64 M, .string X, .int .i64 na] 27)) (w.heap.size) 27 #[.int .i64 op, .int .i64 nn, .int .u64 M, .string X, .int .i64 na] := by simpa using h
    exact (h.below ((Below.refl _ _).alloc (Nat.le_refl _) _))
  have kz1 : Hid (CB wz (w.heap.size + 1) 51 #[.int .i64 0, .bool false, .int .u64 0, .string ⟨#[]⟩]) := by
    rw [← hww]
    have h := CB.new (w.alloc (.cells #[.int .i64 op, .int .i64 nn, .int .u64 M, .string X, .int .i64 na] 27)) 51 #[.int .i64 0, .bool false, .int .u64 0, .string ⟨#[]⟩]
    have h : CB ((w.alloc (.cells #[.int .i64 op, .int .i64 nn, .int .u64 M, .string X, .int .i64 na] 27)).alloc (.cells #[.int .i64 0, .bool false, .int .u64 0, .string ⟨#[]⟩] 51)) (w.heap.size + 1) 51 #[.int .i64 0, .bool false, .int .u64 0, .string ⟨#[]⟩] := by simpa using h
    exact h
  have c00 : wz.cell? ⟨w.heap.size, 0, none⟩ = some (.int .i64 op) := CB.at_ kz0.out 0
  have n9 : (op == 9) = false := by rw [beq_eq_false_iff_ne]; omega
  have n10 : (op == 10) = false := by rw [beq_eq_false_iff_ne]; omega
  have n6 : (op == 6) = false := by rw [beq_eq_false_iff_ne]; omega
  have x0 : wz.cell? ⟨b, o, none⟩ = some (.int .i64 1) := (BZ.out.cell (p := ⟨b, o, none⟩) hb).trans k0
  have x1 : wz.cell? ⟨b, o + 1, none⟩ = some (.bool g0) := (BZ.out.cell (p := ⟨b, o + 1, none⟩) hb).trans k1
  have x2 : wz.cell? ⟨b, o + 2, none⟩ = some (.int .u64 m0) := (BZ.out.cell (p := ⟨b, o + 2, none⟩) hb).trans k2
  have x3 : wz.cell? ⟨b, o + 3, none⟩ = some (.string s0) := (BZ.out.cell (p := ⟨b, o + 3, none⟩) hb).trans k3
  have x4 : wz.cell? ⟨b, o + 4, none⟩ = some (.int .i64 1) := (BZ.out.cell (p := ⟨b, o + 4, none⟩) hb).trans k4
  have x5 : wz.cell? ⟨b, o + 4 + 1, none⟩ = some (.bool g1) := (BZ.out.cell (p := ⟨b, o + 4 + 1, none⟩) hb).trans k5
  have x6 : wz.cell? ⟨b, o + 4 + 2, none⟩ = some (.int .u64 m1) := (BZ.out.cell (p := ⟨b, o + 4 + 2, none⟩) hb).trans k6
  have x7 : wz.cell? ⟨b, o + 4 + 3, none⟩ = some (.string s1) := (BZ.out.cell (p := ⟨b, o + 4 + 3, none⟩) hb).trans k7
  have hbz : b < wz.heap.size := Nat.lt_of_lt_of_le hb BZ.out.size
  have SX : Hid (∀ W, Below wz.heap.size wz W → W.cell? ⟨w.heap.size, 0, none⟩ = some (.int .i64 op) ∧ W.cell? ⟨b, o, none⟩ = some (.int .i64 1) ∧ W.cell? ⟨b, o + 1, none⟩ = some (.bool g0) ∧ W.cell? ⟨b, o + 2, none⟩ = some (.int .u64 m0) ∧ W.cell? ⟨b, o + 3, none⟩ = some (.string s0) ∧ W.cell? ⟨b, o + 4, none⟩ = some (.int .i64 1) ∧ W.cell? ⟨b, o + 4 + 1, none⟩ = some (.bool g1) ∧ W.cell? ⟨b, o + 4 + 2, none⟩ = some (.int .u64 m1) ∧ W.cell? ⟨b, o + 4 + 3, none⟩ = some (.string s1)) := fun W hW => ⟨(kz0.out.below hW).at_ 0, (hW.cell (p := ⟨b, o, none⟩) hbz).trans x0, (hW.cell (p := ⟨b, o + 1, none⟩) hbz).trans x1, (hW.cell (p := ⟨b, o + 2, none⟩) hbz).trans x2, (hW.cell (p := ⟨b, o + 3, none⟩) hbz).trans x3, (hW.cell (p := ⟨b, o + 4, none⟩) hbz).trans x4, (hW.cell (p := ⟨b, o + 4 + 1, none⟩) hbz).trans x5, (hW.cell (p := ⟨b, o + 4 + 2, none⟩) hbz).trans x6, (hW.cell (p := ⟨b, o + 4 + 3, none⟩) hbz).trans x7⟩
  have hB1 : Below wz.heap.size wz wz.drew := Below.thenN (Below.refl _ _) 1
  clear ho
  have RA1 := Lib.hid (ha wz BZ.out)
  have RK := Lib.hid h
  clear ha h k0 k1 k2 k3 k4 k5 k6 k7
  go_enter Tryd.func20, Tryd.ntmps20
  go_wp2_with fail
  refine RA1.out.mono ?_
  rintro e w' ⟨rfl, rfl⟩
  clear RA1
  go_upto_region 17 with fail
  obtain ⟨y0, y1, y2, y3, y4, y5, y6, y7, y8⟩ := SX.out _ hB1
  go_region_with (first
    | (go_at_call 39; (refine (RK.out _).mono ?_); rintro e w3 ⟨i4, g4, m4, s4, x4, rfl, b4, hs4⟩; have hB3 : Below wz.heap.size wz w3 := Below.both hB1 b4; have k4 := Lib.hid (kz1.out.below hB3); have HS4 := Lib.hid hs4; have f0 : w3.cell? ⟨w.heap.size + 1, 0, none⟩ = some (.int .i64 0) := k4.out.at_ 0; have f1 : w3.cell? ⟨w.heap.size + 1, 1, none⟩ = some (.bool false) := k4.out.at_ 1; have f2 : w3.cell? ⟨w.heap.size + 1, 2, none⟩ = some (.int .u64 0) := k4.out.at_ 2; have f3 : w3.cell? ⟨w.heap.size + 1, 3, none⟩ = some (.string ⟨#[]⟩) := k4.out.at_ 3; have r0 := CB.frozen k4.out 0; have r1 := CB.frozen k4.out 1; have r2 := CB.frozen k4.out 2; have r3 := CB.frozen k4.out 3; clear hs4)
    | fail)
  all_goals
    go_wp2_with fail
  all_goals
    exact bodyPost_ret (v := .tuple #[.agg #[.int .i64 i4, .bool g4, .int .u64 m4, .string s4], .int .i64 x4]) (results_cv rfl _ _ _ _ _ rfl rfl (k4.out.store (cs := #[.int .i64 i4, .bool g4, .int .u64 m4, .string s4]) rfl) Tryd.underlying51 rfl (by kernel_rfl)) rfl ⟨_, _, _, _, _, rfl, (BZ.out.trans (hB3.mono BZ.out.size)).trans ((((((Turned.refl _ _).setCell 0 _).setCell 1 _).setCell 2 _).setCell 3 _).below (by omega)), HS4.out⟩
end Go.Proofs.YtmbiompmhaiehaaDoor
/- The reference's node, whatever the node. No walk here. -/
namespace Go.Proofs.YtmbiompmhaiehaaDoor
open Go.RowKit

theorem own_leaf_arity {x : Rn} (h : arity x = some 0) : x.op = 1 ∨ x.op = 2 ∨ x.op = 3 ∨ x.op = 4 := by
  rcases arity_op h with h | h | h | h | h | h | h | h | h | h | h | h <;> omega
theorem own_cat' {x : Rn} (h : x.op = 9) (l : List Th) : ownV x l = if l.all Th.isT then textE (rowL (l.map Th.s)) else .error 110 := by
  simp [ownV, h]
section
variable {w : World} {A : Option Addr} {c : Nat} {a d : Th}
theorem row_one (hR : RT w w.heap.size A [a]) : ∃ b o, A = some ⟨b, o, none⟩ ∧ b < w.heap.size ∧ w.cell? ⟨b, o, none⟩ = some (.int .i64 (isR a)) ∧ w.cell? ⟨b, o + 1, none⟩ = some (.bool (ngR a)) ∧ w.cell? ⟨b, o + 2, none⟩ = some (.int .u64 (mgR a)) ∧ w.cell? ⟨b, o + 3, none⟩ = some (.string (txR a)) := by
  obtain ⟨b, o, rfl, hb, hc⟩ := hR.at_ (i := 0) (x := a) rfl
  have e : o + 0 * 4 = o := by omega
  rw [e] at hc
  exact ⟨b, o, rfl, hb, hc 0 _ rfl, hc 1 _ rfl, hc 2 _ rfl, hc 3 _ rfl⟩
theorem row_two (hR : RT w w.heap.size A [a, d]) : ∃ b o, A = some ⟨b, o, none⟩ ∧ b < w.heap.size ∧ (w.cell? ⟨b, o, none⟩ = some (.int .i64 (isR a)) ∧ w.cell? ⟨b, o + 1, none⟩ = some (.bool (ngR a)) ∧ w.cell? ⟨b, o + 2, none⟩ = some (.int .u64 (mgR a)) ∧ w.cell? ⟨b, o + 3, none⟩ = some (.string (txR a))) ∧
    (w.cell? ⟨b, o + 4, none⟩ = some (.int .i64 (isR d)) ∧ w.cell? ⟨b, o + 4 + 1, none⟩ = some (.bool (ngR d)) ∧ w.cell? ⟨b, o + 4 + 2, none⟩ = some (.int .u64 (mgR d)) ∧ w.cell? ⟨b, o + 4 + 3, none⟩ = some (.string (txR d))) := by
  obtain ⟨b, o, rfl, hb, hc⟩ := hR.at_ (i := 0) (x := a) rfl
  obtain ⟨b', o', e', _, hc'⟩ := hR.at_ (i := 1) (x := d) rfl
  cases e'
  have e : o + 0 * 4 = o := by omega
  have e2 : o + 1 * 4 = o + 4 := by omega
  rw [e] at hc
  rw [e2] at hc'
  exact ⟨b, o, rfl, hb, ⟨hc 0 _ rfl, hc 1 _ rfl, hc 2 _ rfl, hc 3 _ rfl⟩, hc' 0 _ rfl, hc' 1 _ rfl, hc' 2 _ rfl, hc' 3 _ rfl⟩
end
theorem rnode_any {w : World} {A : Option Addr} {c : Nat} {l : List Th} (x : Rn) (hx : arity x = some l.length) (hR : RT w w.heap.size A l) (hl : l.length ≤ 2932031007402) (ht : ∀ t ∈ l, ThIn t) (hm : x.num < 18446744073709551616) :
    Calls Tryd.prog 20 #[.agg #[.int .i64 x.op, .int .i64 x.n, .int .u64 (x.num : Nat), .string (str x.t), .int .i64 x.a], .slice A l.length c] w (RAt (ownV x l) w) := by
  have hop := arity_op hx
  have later : ∀ W, Below w.heap.size w W → RT W W.heap.size A l := fun W hW => (hR.below hW).more hW.size
  by_cases h9 : x.op = 9
  · have hk1 : 1 ≤ l.length := by omega
    rw [own_cat' h9, h9]
    exact rnode_cat rfl hk1 hl hR ht
  match l, hx, hR, ht, hl, hop, later with
  | [], hx, hR, ht, hl, hop, later => exact rnode_leaf (fun W => rleaf_any W x hx hm)
  | [a], hx, hR, ht, hl, hop, later =>
    have ho : x.op = 5 ∨ x.op = 11 ∨ x.op = 12 := by simp at hop; omega
    obtain ⟨b, o, rfl, hb, c0, c1, c2, c3⟩ := row_one hR
    exact rnode_one ho hb c0 c1 c2 c3 (fun W => rone_any W x a ho (ht a (.head _)).ok)
  | [a, d], hx, hR, ht, hl, hop, later =>
    have ho : x.op = 6 ∨ x.op = 7 ∨ x.op = 8 ∨ x.op = 10 := by simp at hop; omega
    have ha := ht a (.head _)
    have hd := ht d (.tail _ (.head _))
    obtain ⟨b, o, rfl, hb, ⟨c0, c1, c2, c3⟩, e0, e1, e2, e3⟩ := row_two hR
    have hall : ∀ k, -9 ≤ k → k ≤ 9 → ∀ W, Below w.heap.size w W → Calls Tryd.prog 35 #[.slice (some ⟨b, o, none⟩) 2 c, .int .i64 k] W fun e w' => e = .returned (.bool (allR [a, d] k)) ∧ W = w' := fun k h1 h2 W hW => rall_any (c := c) (later W hW) hl k ⟨h1, h2⟩
    have h2 := hall 2 (by decide) (by decide)
    have h1 := hall 1 (by decide) (by decide)
    obtain ⟨op, nn, num, tx, na⟩ := x
    dsimp only at *
    rcases ho with rfl | ho
    · -- a sum
      cases a with
      | text s =>
        cases d with
        | text t =>
          have hW : ∀ W, Below w.heap.size w W → Calls Tryd.prog 36 #[.slice (some ⟨b, o, none⟩) 2 c] W (RAt (ownV ⟨6, nn, num, tx, na⟩ [.text s, .text t]) W) := fun W hW => by
            have := rwords_any (c := c) (later W hW) hl rfl (fun q hq => (ht q hq).len)
            rw [show ownV ⟨6, nn, num, tx, na⟩ [.text s, .text t] = textE (rowL (([.text s, .text t] : List Th).map Th.s)) by simp [ownV, rowL, Th.s]]
            exact this
          exact rnode_words h2 hW
        | _ => exact rnode_two_no6 h2 h1
      | num v =>
        cases d with
        | num u => exact rnode_two6 h2 h1 hb c0 c1 c2 c3 e0 e1 e2 e3 (fun W => rreck_any W 6 v u (.inl rfl) ha.ok hd.ok)
        | _ => exact rnode_two_no6 h2 h1
      | _ => cases d <;> exact rnode_two_no6 h2 h1
    · rcases ho with ho | ho | rfl
      · subst ho
        cases a with
        | num v =>
          cases d with
          | num u => exact rnode_two (.inl rfl) h1 hb c0 c1 c2 c3 e0 e1 e2 e3 (fun W => rreck_any W 7 v u (.inr (.inl rfl)) ha.ok hd.ok)
          | _ => exact rnode_two_no (.inl rfl) h1
        | _ => cases d <;> exact rnode_two_no (.inl rfl) h1
      · subst ho
        cases a with
        | num v =>
          cases d with
          | num u => exact rnode_two (.inr rfl) h1 hb c0 c1 c2 c3 e0 e1 e2 e3 (fun W => rreck_any W 8 v u (.inr (.inr rfl)) ha.ok hd.ok)
          | _ => exact rnode_two_no (.inr rfl) h1
        | _ => cases d <;> exact rnode_two_no (.inr rfl) h1
      · cases a with
        | text s =>
          cases d with
          | num v => exact rnode_rep hb c0 c1 c2 c3 e0 e1 e2 e3 (fun W => rrepd_any W s v ha hd.ok)
          | _ => exact rnode_rep_no hb c0 c1 c2 c3 e0 e1 e2 e3 (.inr (by simp [isR]))
        | _ => exact rnode_rep_no hb c0 c1 c2 c3 e0 e1 e2 e3 (.inl (by simp [isR]))
  | _ :: _ :: _ :: _, hx, hR, ht, hl, hop, later => simp at hop; omega
end Go.Proofs.YtmbiompmhaiehaaDoor
/- Plain: the pile of things as one goes; what a node stands for lies in the range. No walk here. -/
namespace Go.Proofs.YtmbiompmhaiehaaDoor

theorem text_in {s : List UInt8} {t : Th} (h : textE s = .ok t) : ThIn t := by
  unfold textE at h
  split at h
  · next hl =>
    cases h
    show s.length ≤ _
    omega
  · cases h
theorem num_in {v : Int} {t : Th} (h : numE v = .ok t) : ThIn t := by
  unfold numE at h
  split at h
  · next hl => cases h; exact hl
  · cases h
theorem rep_in {s : List UInt8} {v : Int} {t : Th} (h : repE' s v = .ok t) : ThIn t := by
  unfold repE' at h
  split at h
  · cases h
  · split at h
    · next hl =>
      cases h
      show (timesL s v.toNat).length ≤ _
      rw [times_len]
      omega
    · cases h
theorem hexL_short : ∀ (n : Nat) (l t : List UInt8), l.length ≤ n → hexL l = some t → t.length ≤ l.length
  | _, [], t, _, h => by simp [hexL] at h; subst h; exact Nat.le_refl _
  | _, [a], t, _, h => by simp [hexL] at h
  | 0, a :: b :: r, t, hn, h => by simp at hn
  | n + 1, a :: b :: r, t, hn, h => by
    unfold hexL at h
    split at h
    · cases h
    · cases hr : hexL r with
      | none => rw [hr] at h; cases h
      | some q =>
        rw [hr] at h
        have := hexL_short n r q (by simp at hn; omega) hr
        cases h
        simp
        omega
theorem hex_in {s : List UInt8} {t : Th} (hs : s.length ≤ 140737488355328) (h : hexE' s = .ok t) : ThIn t := by
  unfold hexE' at h
  split at h
  · next q hq =>
    cases h
    have := hexL_short s.length s q (Nat.le_refl _) hq
    show q.length ≤ _
    omega
  · cases h
theorem own_in {x : Rn} {ts : List Th} {t : Th} (hm : x.num < 18446744073709551616) (hts : ∀ q ∈ ts, ThIn q) (h : ownV x ts = .ok t) : ThIn t := by
  unfold ownV at h
  split at h
  · cases h; exact ⟨by omega, by omega⟩
  · split at h
    · exact text_in h
    · split at h
      · cases h; trivial
      · split at h
        · cases h; trivial
        · split at h
          · split at h
            · exact text_in h
            · cases h
          · split at h
            · next a =>
              have ha := hts a (.head _)
              split at h
              · cases a with
                | num v => exact num_in h
                | _ => cases h
              · split at h
                · cases a with
                  | text s => cases h; have : s.length ≤ _ := ha; exact ⟨by omega, by omega⟩
                  | bytes s => cases h; have : s.length ≤ _ := ha; exact ⟨by omega, by omega⟩
                  | _ => cases h
                · cases a with
                  | text s => exact hex_in ha h
                  | _ => cases h
            · next a b =>
              split at h
              · cases a with
                | text s =>
                  cases b with
                  | num v => exact rep_in h
                  | _ => cases h
                | _ => cases h
              · cases a with
                | num v =>
                  cases b with
                  | num u => exact num_in h
                  | _ => cases h
                | text s =>
                  cases b with
                  | text r =>
                    dsimp only at h
                    split at h
                    · exact text_in h
                    · cases h
                  | _ => cases h
                | _ => cases h
            · cases h
/-- a fault stays -/
theorem run_stay {N : List Rn} {i : Nat} {p : Nat × Nat} (h : runP N i = .error p) : ∀ d, runP N (i + d) = .error p
  | 0 => h
  | d + 1 => by
    show runP N (i + d + 1) = _
    unfold runP
    rw [run_stay h d]
/-- the pile as one goes, in memory's order -/
structure VlSt (N : List Rn) (i : Nat) (L : List Th) : Prop where
  run : ∃ T, runP N i = .ok T ∧ L = T.reverse
  pile : ∃ P, pileP N i = some P ∧ L.length = P.length
  inn : ∀ t ∈ L, ThIn t
section
variable {N : List Rn} {i k : Nat} {L : List Th} {x : Rn}
theorem vl_start (N : List Rn) : VlSt N 0 [] := ⟨⟨[], rfl, rfl⟩, ⟨[], rfl, rfl⟩, fun t h => by cases h⟩
theorem vl_kids (hg : (chkP N).2 = 0) (h : VlSt N i L) (hx : N[i]? = some x) : ∃ k : Nat, arity x = some k ∧ kidR x = (k : Nat) ∧ k ≤ L.length := by
  obtain ⟨e, he⟩ := (good_iff.1 hg).2
  have hi := (List.getElem?_eq_some_iff.1 hx).1
  obtain ⟨Q, hQ⟩ := pile_back (expr_some he) (i + 1) hi
  obtain ⟨P, y, k, hP, hy, ha, hk, _⟩ := pile_succ hQ
  obtain ⟨P', hP', hl⟩ := h.pile
  cases hP.symm.trans hP'
  cases hy.symm.trans hx
  refine ⟨k, ha, ?_, by omega⟩
  have := arity_kid x
  rw [ha] at this
  split at this
  · next hq =>
    have h1 := Option.some.inj this
    omega
  · cases this
theorem vl_ts (h : VlSt N i L) (k : Nat) : ∃ T, runP N i = .ok T ∧ L = T.reverse ∧ (T.take k).reverse = L.drop (L.length - k) := by
  obtain ⟨T, hT, rfl⟩ := h.run
  refine ⟨T, hT, rfl, ?_⟩
  rw [List.drop_reverse, List.length_reverse]
  by_cases hk : k ≤ T.length
  · rw [show T.length - (T.length - k) = k by omega]
  · rw [show T.length - k = 0 by omega, Nat.sub_zero, List.take_of_length_le (Nat.le_refl _), List.take_of_length_le (by omega)]
theorem vl_fault {e : Nat} (h : VlSt N i L) (hx : N[i]? = some x) (ha : arity x = some k) (ho : ownV x (L.drop (L.length - k)) = .error e) : runP N (i + 1) = .error (i, e) := by
  obtain ⟨T, hT, _, hq⟩ := vl_ts h k
  unfold runP
  rw [hT, hx]
  dsimp only
  rw [ha]
  dsimp only
  rw [hq, ho]
theorem vl_next {t : Th} (h : VlSt N i L) (hx : N[i]? = some x) (ha : arity x = some k) (hk : k ≤ L.length) (hm : x.num < 18446744073709551616) (ho : ownV x (L.drop (L.length - k)) = .ok t) : VlSt N (i + 1) (L.take (L.length - k) ++ [t]) := by
  obtain ⟨T, hT, hL, hq⟩ := vl_ts h k
  obtain ⟨P, hP, hl⟩ := h.pile
  refine ⟨⟨t :: T.drop k, ?_, ?_⟩, ⟨overP i x (P.take k) :: P.drop k, ?_, ?_⟩, fun q hq' => ?_⟩
  · unfold runP
    rw [hT, hx]
    dsimp only
    rw [ha]
    dsimp only
    rw [hq, ho]
  · rw [hL, List.reverse_cons, List.length_reverse, List.take_reverse]
    have : k ≤ T.length := by rw [hL] at hk; simpa using hk
    rw [show T.length - (T.length - k) = k by omega]
  · conv => lhs; unfold pileP
    rw [hP, hx]
    show pushP i x P = _
    unfold pushP
    rw [ha]
    dsimp only
    rw [if_pos (by omega)]
  · simp only [List.length_append, List.length_take, List.length_cons, List.length_nil, List.length_drop]
    omega
  · rcases List.mem_append.1 hq' with h1 | h1
    · exact h.inn q (List.mem_of_mem_take h1)
    · simp only [List.mem_singleton] at h1
      subst h1
      exact own_in hm (fun r hr => h.inn r (List.mem_of_mem_drop hr)) ho
theorem vl_bad {e : Nat} {p : Nat} (hg : (chkP N).2 = 0) (hr : runP N (i + 1) = .error (p, e)) (hi : i < N.length) {kd : Int} (h1 : 1 ≤ kd) (h2 : kd ≤ 5) : valV N kd = noneV p e := by
  obtain ⟨f, hf⟩ := (good_iff.1 hg).2
  have hall := run_stay hr (N.length - (i + 1))
  rw [show i + 1 + (N.length - (i + 1)) = N.length by omega] at hall
  have := run_vals N.length _ (expr_some hf)
  rw [hall, sem_vals hf] at this
  have hs : semR N = .error (p, e) := by
    cases hq : semR N with
    | ok t => rw [hq] at this; cases this
    | error q => rw [hq] at this; cases this; rfl
  rw [val_good hg h1 h2, hs]
theorem vl_end (hg : (chkP N).2 = 0) (h : VlSt N N.length L) : ∃ t, L = [t] ∧ semR N = .ok t := by
  obtain ⟨f, hf⟩ := (good_iff.1 hg).2
  obtain ⟨T, hT, hL⟩ := h.run
  obtain ⟨P, hP, hl⟩ := h.pile
  have hP1 := expr_some hf
  cases hP.symm.trans hP1
  have := run_vals N.length _ hP1
  rw [hT, sem_vals hf] at this
  match T, hL, this with
  | [], hL, this => cases this
  | [t], hL, this =>
    have h1 := List.cons.inj this
    exact ⟨t, hL, h1.1⟩
  | _ :: _ :: _, hL, this => have h1 := List.cons.inj this; cases h1.2
end
end Go.Proofs.YtmbiompmhaiehaaDoor
/- Things in a row of the call's own: cut and appended to. No walk here. -/
namespace Go.Proofs.YtmbiompmhaiehaaDoor
open Go.RowKit

/-- raw nodes in a row of the call's own -/
def OwnT (w : World) (B : Nat) (A : Option Addr) (c : Nat) (l : List Th) : Prop := w.ownsRow B 51 4 (.slice A l.length c) l.length (flatR thR l)
theorem infoT : (Tryd.prog.info? 51).map (fun i => (i.zero, i.size, i.bytes)) = some (some (.agg #[.int .i64 0, .bool false, .int .u64 0, .string ⟨#[]⟩]), 4, 40) := by kernel_rfl
theorem OwnT.nil (w : World) (B : Nat) : OwnT w B none 0 [] := World.ownsRow_nil w B _ 4
theorem OwnT.rt {w : World} {B c : Nat} {A : Option Addr} {l : List Th} (h : OwnT w B A c l) : RT w w.heap.size A l := by
  rcases h.2 with ⟨hv, h0⟩ | ⟨g, cap, cur, hv, hg, hc, rest⟩
  · exact .inl (List.length_eq_zero_iff.1 h0)
  · injection hv with e1 e2 e3
    subst e1
    refine .inr ⟨g, 0, rfl, (Array.getElem?_eq_some_iff.1 hc).1, fun i x hx j v hv => ?_⟩
    have hj : j < 4 := (Array.getElem?_eq_some_iff.1 hv).1
    have hf := flatR_at (f := thR) (s := 4) (fun _ => rfl) l i x hx j hj
    rw [hv] at hf
    have := World.ownsRow.cells h (g := g) rfl (i * 4 + j) _ hf
    rw [Addr.add_lit, Nat.zero_add] at this
    rw [Nat.zero_add]
    exact this
theorem thR_one (x : Th) : ∀ u ∈ (thR x).toList, u.oneCell' = true := by
  intro u hu
  simp only [thR, List.mem_cons, List.not_mem_nil, or_false] at hu
  rcases hu with rfl | rfl | rfl | rfl <;> rfl
theorem flatT_one (l : List Th) : ∀ u ∈ flatR thR l, u.oneCell' = true := by
  intro u hu
  obtain ⟨x, _, hx⟩ := List.mem_flatMap.1 hu
  exact thR_one x u hx
/-- the cells of raw nodes that stand at an address -/
theorem RT.flat {w : World} {B : Nat} {b o : Nat} {l : List Th} (h : RT w B (some ⟨b, o, none⟩) l) : ∀ j u, (flatR thR l)[j]? = some u → w.cell? ((⟨b, o, none⟩ : Addr).add j) = some u := by
  intro j u hu
  have hlen : (flatR thR l).length = l.length * 4 := flatR_len (f := thR) (s := 4) (fun _ => rfl) l
  have hj : j < l.length * 4 := by rw [← hlen]; exact (List.getElem?_eq_some_iff.1 hu).1
  have hi : j / 4 < l.length := by omega
  have hx : l[j / 4]? = some l[j / 4] := List.getElem?_eq_getElem hi
  have hf := flatR_at (f := thR) (s := 4) (fun _ => rfl) l (j / 4) _ hx (j % 4) (by omega)
  rw [show j / 4 * 4 + j % 4 = j by omega, hu] at hf
  obtain ⟨b', o', e, _, hc⟩ := h.at_ hx
  cases e
  have := hc (j % 4) u hf.symm
  rw [Addr.add_lit]
  rwa [show o + j / 4 * 4 + j % 4 = o + j by omega] at this
theorem run_app_th {w : World} {B B' c cS : Nat} {A S : Option Addr} {l N : List Th} (h : OwnT w B A c l) (hS : RT w B' S N) (h0 : N ≠ []) (hl : (l.length + N.length) * 40 ≤ 140737488355328) (hB : B ≤ w.heap.size) :
    ∃ g c' w', (Builtin.append_ #[48, 48] 48 #[.slice A l.length c, .slice S N.length cS]).run Tryd.prog w = .ok (.slice (some ⟨g, 0, none⟩) (l.length + N.length) c') w' ∧
      OwnT w' B (some ⟨g, 0, none⟩) c' (l ++ N) ∧ w.grownBy w' (obk A) ∧ Below B w w' := by
  obtain ⟨i, hi, hz, hs, hb⟩ := info_three infoT
  have hpos := List.length_pos_iff.2 h0
  obtain ⟨b, o, rfl, _, _⟩ := hS.at_ (List.getElem?_eq_getElem hpos)
  obtain ⟨g, c', w', hr, hown, hg, hat, hlt⟩ := run_append_lies (P := Tryd.prog) w 48 48 B 51 i _ 4 40 Tryd.underlying48 hi hz hs hb rfl (by decide) _ l.length (flatR thR l) h ⟨b, o, none⟩ N.length cS (flatR thR N)
    (flatR_len (f := thR) (s := 4) (fun _ => rfl) N) (RT.flat hS) (flatT_one N) hpos (by simp only [maxLen]; omega) hl hB _ rfl
  rw [obk_own] at hg
  refine ⟨g, c', w', hr, ?_, hg, ⟨hg.os, hg.tape, hg.output, hg.size, fun k hk => hg.block k (by omega) fun e => ?_⟩⟩
  · unfold OwnT
    rw [List.length_append, flatR, List.flatMap_append]
    exact hown
  · have := World.ownsRow.lt h k (by rw [obk_own]; exact e.symm)
    omega
theorem OwnT.then_ {w w' : World} {B c : Nat} {A : Option Addr} {l : List Th} (h : OwnT w B A c l) (hb : Below w.heap.size w w') : OwnT w' B A c l := ownd_then h hb
theorem flat_take (l : List Th) (k : Nat) (hk : k ≤ l.length) : flatR thR (l.take k) = (flatR thR l).take (k * 4) := by
  have hl : (flatR thR (l.take k)).length = k * 4 := by
    rw [flatR_len (f := thR) (s := 4) (fun _ => rfl), List.length_take]
    omega
  have : flatR thR l = flatR thR (l.take k) ++ flatR thR (l.drop k) := by
    unfold flatR
    rw [← List.flatMap_append, List.take_append_drop]
  rw [this, List.take_append_of_le_length (by omega)]
  exact (List.take_of_length_le (by omega)).symm
theorem OwnT.cut {w : World} {B c : Nat} {A : Option Addr} {l : List Th} (h : OwnT w B A c l) (k : Nat) (hk : k ≤ l.length) : OwnT w B A c (l.take k) := by
  have h0 := h
  have hl : (l.take k).length = k := by rw [List.length_take]; omega
  rcases h.2 with ⟨h1, h2⟩ | ⟨g, cap, cur, hv, hg, hc, h1, h2, h3, h4⟩
  · have : l = [] := List.length_eq_zero_iff.1 h2
    subst this
    rw [List.take_nil]
    exact h0
  · injection hv with e1 e2 e3
    subst e1
    subst e3
    refine ⟨by rw [flatR_len (f := thR) (s := 4) (fun _ => rfl)], .inr ⟨g, c, cur, rfl, hg, hc, by omega, h2, h3, ?_⟩⟩
    rw [hl, flat_take l k hk, ← h4, List.take_take]
    congr 1
    omega
theorem OwnT.cap {w : World} {B c : Nat} {A : Option Addr} {l : List Th} (h : OwnT w B A c l) : l.length ≤ c := by
  rcases h.2 with ⟨h1, h2⟩ | ⟨g, cap, cur, hv, _, _, hn, _⟩
  · omega
  · injection hv with _ _ e3
    omega
theorem OwnT.some_ {w : World} {B c : Nat} {A : Option Addr} {l : List Th} (h : OwnT w B A c l) (hl : 0 < l.length) : ∃ g, A = some ⟨g, 0, none⟩ := by
  rcases h.2 with ⟨h1, h2⟩ | ⟨g, cap, cur, hv, _⟩
  · omega
  · injection hv with e1 _ _
    exact ⟨g, e1⟩
/-- the end of a row -/
theorem RT.drop {w : World} {B g : Nat} {l : List Th} (h : RT w B (some ⟨g, 0, none⟩) l) (k : Nat) : RT w B (some ⟨g, k * 4, none⟩) (l.drop k) := by
  rcases h with h | ⟨b, o, e, hb, hc⟩
  · exact .inl (by rw [h, List.drop_nil])
  · cases e
    refine .inr ⟨g, k * 4, rfl, hb, fun i x hx j v hv => ?_⟩
    rw [List.getElem?_drop] at hx
    have := hc (k + i) x hx j v hv
    rw [show 0 + (k + i) * 4 + j = k * 4 + i * 4 + j by omega] at this
    exact this
end Go.Proofs.YtmbiompmhaiehaaDoor
/- The walk of the reference: Value. -/
namespace Go.Proofs.YtmbiompmhaiehaaDoor
open Go.RowKit

theorem run_cutT_h (A : Option Addr) (n c k : Nat) (hk : k ≤ c) (W : World) :
    (Instr.sliceAt 48 (.slice A n c) none (some (.int .i64 (k : Int))) none).run Tryd.prog W = .ok (.slice A k c) W := by
  have hE : Tryd.prog.elem 48 = 51 := elem_of Tryd.underlying48
  have ht' : Tryd.prog.underlying 48 = some (.slice (Tryd.prog.elem 48)) := by rw [hE]; exact Tryd.underlying48
  obtain ⟨i0, hi, _, hz1, _⟩ := info_three infoT
  have hs : (sizeOf 51).run Tryd.prog W = .ok 4 W := by simp [sizeOf, typeInfo, hi, hz1]
  rw [run_sliceAt_slice _ _ _ _ _ _ ht', run_slice_h _ _ A n c ht' .i64 k (by omega) (by omega), hE, hs]
  simp only [Result.andThen, sliced, Int.toNat_natCast, Nat.zero_mul, Nat.sub_zero, map_add_zero]
  simp
theorem run_cutT_l (A A' : Option Addr) (n c k : Nat) (hk : k ≤ n) (_hc : n ≤ c) (hA : A' = if c = k then A else A.map (·.add (k * 4))) (W : World) :
    (Instr.sliceAt 48 (.slice A n c) (some (.int .i64 (k : Int))) none none).run Tryd.prog W = .ok (.slice A' (n - k) (c - k)) W := by
  have hE : Tryd.prog.elem 48 = 51 := elem_of Tryd.underlying48
  have ht' : Tryd.prog.underlying 48 = some (.slice (Tryd.prog.elem 48)) := by rw [hE]; exact Tryd.underlying48
  obtain ⟨i0, hi, _, hz1, _⟩ := info_three infoT
  have hs : (sizeOf 51).run Tryd.prog W = .ok 4 W := by simp [sizeOf, typeInfo, hi, hz1]
  rw [run_sliceAt_slice _ _ _ _ _ _ ht', run_slice_l _ _ A n c ht' .i64 k (by omega) (by omega), hE, hs]
  simp only [Result.andThen, sliced, Int.toNat_natCast]
  rw [← hA]
/-- the end of a row as it is handed on: its address, and that the things stand there -/
theorem OwnT.rest {w : World} {B c : Nat} {A : Option Addr} {l : List Th} (h : OwnT w B A c l) (k : Nat) (hk : k ≤ l.length) : ∃ A', (∀ W, (Instr.sliceAt 48 (.slice A l.length c) (some (.int .i64 (k : Int))) none none).run Tryd.prog W = .ok (.slice A' (l.drop k).length (c - k)) W) ∧ RT w w.heap.size A' (l.drop k) := by
  rw [List.length_drop]
  refine ⟨if c = k then A else A.map (·.add (k * 4)), fun W => run_cutT_l _ _ _ _ _ hk h.cap rfl W, ?_⟩
  by_cases hl : k = l.length
  · refine .inl ?_
    rw [hl, List.drop_length]
  · obtain ⟨g, rfl⟩ := h.some_ (by omega)
    have hc := h.cap
    rw [if_neg (by omega)]
    show RT w w.heap.size (some ((⟨g, 0, none⟩ : Addr).add (k * 4))) (l.drop k)
    rw [Addr.add_lit, Nat.zero_add]
    exact h.rt.drop k
end Go.Proofs.YtmbiompmhaiehaaDoor
