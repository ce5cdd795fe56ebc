/- The walk of ExprNumbers (gen_numlaw.py). -/
import Derived.Test.YtpgljmkemmikhaaDoorExGy
namespace Go.Proofs.YtpgljmkemmikhaaDoor
open Go.RowKit

set_option maxRecDepth 100000 in
set_option maxHeartbeats 8000000 in
theorem numbers_ff {w : World} {x y : Nat} {X Y : Int} (hK : KSt w w) (hX : Hid (X = (x : Int))) (hY : Hid (Y = (y : Int))) (hx : x < 18446744073709551616) (hy : y < 18446744073709551616) :
    Calls Tryd.prog 7 #[.int .u64 X, .bool false, .int .u64 Y, .bool false] w fun e w' => e = .returned (.bool true) ∧ Below w.heap.size w w' := by
  have pa : Pk 1 [leafN x] := ⟨by simp, by simp, leaf_few hx⟩
  have pb : Pk 1 [leafN y] := ⟨by simp, by simp, leaf_few hy⟩
  obtain ⟨L, hL⟩ : ∃ L, [leafN x] ++ [leafN y] ++ [opN 6] = L := ⟨_, rfl⟩
  have pL := pk_over (o := 6) pa pb hL (by decide)
  have hS : L = sumN false x false y := by subst hL; rfl
  have F0 : Std w w [] := ⟨Below.refl _ _, fun p hp => by cases hp⟩
  have qL := Lib.hid hL
  have HS := Lib.hid hS
  clear hS
  have HX : ¬ sideBad false x := fun h => by cases h.1
  have HY : ¬ sideBad false y := fun h => by cases h.1
  clear hL
  go_enter Tryd.func7, Tryd.ntmps7
  go_wp2_with fail
  refine (lives_any hK).mono ?_
  rintro e w1 ⟨rfl, H1⟩
  go_wp2_with fail
  refine (num_leaf _ _).mono ?_
  rintro e w2 ⟨rfl, H2⟩
  have F2 := (F0.keep H1).leaf H2.out hX
  go_wp2_with fail
  refine (num_leaf _ _).mono ?_
  rintro e w3 ⟨rfl, H3⟩
  have F := Lib.hid (F2.leaf H3.out hY)
  clear F0 F2 H1 H2 H3
  go_wp2_with fail
  refine (ov_any (N := [leafN x]) (M := [leafN y]) (o := 6) F.out (by simp) (by simp) qL.out pa pb (by decide)).mono ?_
  rintro e w6 ⟨gL6, cL6, rfl, F⟩
  have FK := Lib.hid (hK.then_ F.out.1)
  go_wp2_with fail
  refine (uintK_any FK.out.k).mono ?_
  rintro e w' ⟨rfl, rfl⟩
  clear FK
  obtain ⟨z0, z1, z2, za, e1, ce1, He1⟩ := vv_any (c := cL6) (k := 1) hK F.out (.head _) pL.2.2
  go_wp2_with fail
  refine ce1.mono ?_
  rintro e w7 ⟨rfl, G7⟩
  have F := Lib.hid (F.out.keep G7.out)
  clear ce1
  have F := Lib.hid (F.out.more (.cells #[.int .i64 z0, .int .u64 (z1 : Nat), .string z2] 39))
  go_wp2_with fail
  refine (ovb_any (N := [leafN x]) (M := [leafN y]) (o := 6) F.out (by simp) (by simp) qL.out pa pb (by decide)).mono ?_
  rintro e w8 ⟨gL8, cL8, rfl, F⟩
  have G8 := Lib.hid F.out.2
  have F := Lib.hid F.out.1
  have FK := Lib.hid (hK.then_ F.out.1)
  go_wp2_with fail
  refine (intK_any FK.out.k).mono ?_
  rintro e w' ⟨rfl, rfl⟩
  clear FK
  obtain ⟨u0, u1, u2, ua, e2, ce2, He2⟩ := vv_any (c := cL8) (k := 2) hK F.out (.head _) pL.2.2
  go_wp2_with fail
  refine ce2.mono ?_
  rintro e w9 ⟨rfl, G9⟩
  have F := Lib.hid (F.out.keep G9.out)
  clear ce2
  have B9 := F.out.1.trans (((Below.refl _ w9).alloc (Nat.le_refl _) (.cells #[.int .i64 u0, .int .u64 (u1 : Nat), .string u2] 39)).mono F.out.1.size)
  have n9 := (((CB.new w7 39 #[.int .i64 z0, .int .u64 (z1 : Nat), .string z2]).below G8.out).below G9.out).below ((Below.refl _ w9).alloc (Nat.le_refl _) (.cells #[.int .i64 u0, .int .u64 (u1 : Nat), .string u2] 39))
  have m9 := CB.new w9 39 #[.int .i64 u0, .int .u64 (u1 : Nat), .string u2]
  have qz := n9.at_ 1
  have qu := m9.at_ 1
  simp only [List.getElem?_toArray, List.getElem?_cons_zero, List.getElem?_cons_succ] at qz qu
  have hs7 : w7.heap.size < (w7.alloc (.cells #[.int .i64 z0, .int .u64 (z1 : Nat), .string z2] 39)).heap.size := by simp
  have hne : w7.heap.size ≠ w9.heap.size := by
    have := G8.out.size
    have := G9.out.size
    omega
  have B9 := Lib.hid B9
  clear n9 m9 hs7 F G7 G8 G9
  have hv1 := sum_one (xn := false) (x := x) (yn := false) (y := y) HX HY rfl
  have hv2 := sum_two (xn := false) (x := x) (yn := false) (y := y) HX HY rfl
  rw [← HS.out, He1.out.2.2.2, He1.out.2.1] at hv1
  rw [← HS.out, He2.out.2.2.2, He2.out.2.1] at hv2
  simp only [sideV, if_false, Bool.false_eq_true] at hv1 hv2
  clear He1 He2 HS HX HY pL qL
  by_cases hc0 : x + y < 9223372036854775808
  case pos =>
    have hXx := hX.out
    have hYy := hY.out
    obtain ⟨S, hS⟩ : ∃ S : Int, S = X + Y := ⟨_, rfl⟩
    have hw : IntKind.u64.wrap (X + Y) = S := by show (X + Y) % 18446744073709551616 = _; omega
    have t1 : X ≤ S := by omega
    have t2 : S < 9223372036854775808 := by omega
    have ke1 : e1 = 0 := by omega
    have ce1 : ((e1 : Int) == 0) = true := by rw [beq_iff_eq]; omega
    have de1 : ((e1 : Int) != 0) = false := by rw [bne_eq_false_iff_eq]; omega
    have fe1 : ((e1 : Int) == 111) = false := by rw [beq_eq_false_iff_ne]; omega
    clear ke1
    have ke2 : e2 = 0 := by omega
    have ce2 : ((e2 : Int) == 0) = true := by rw [beq_iff_eq]; omega
    have de2 : ((e2 : Int) != 0) = false := by rw [bne_eq_false_iff_eq]; omega
    have fe2 : ((e2 : Int) == 111) = false := by rw [beq_eq_false_iff_ne]; omega
    clear ke2
    have hu : ((u1 : Int) == S) = true := by rw [beq_iff_eq]; omega
    have hz : ((z1 : Int) == S) = true := by rw [beq_iff_eq]; omega
    clear hv1 hv2 hS hXx hYy hX hY hc0
    go_wp2
    all_goals go_ret
    all_goals exact ⟨rfl, B9.out⟩
  by_cases hc1 : x + y < 18446744073709551616
  case pos =>
    have hXx := hX.out
    have hYy := hY.out
    obtain ⟨S, hS⟩ : ∃ S : Int, S = X + Y := ⟨_, rfl⟩
    have hw : IntKind.u64.wrap (X + Y) = S := by show (X + Y) % 18446744073709551616 = _; omega
    have t1 : X ≤ S := by omega
    have t2 : ¬ S < 9223372036854775808 := by omega
    have t2d : decide (S < 9223372036854775808) = false := by rw [decide_eq_false_iff_not]; omega
    have ke1 : e1 = 0 := by omega
    have ce1 : ((e1 : Int) == 0) = true := by rw [beq_iff_eq]; omega
    have de1 : ((e1 : Int) != 0) = false := by rw [bne_eq_false_iff_eq]; omega
    have fe1 : ((e1 : Int) == 111) = false := by rw [beq_eq_false_iff_ne]; omega
    clear ke1
    have ke2 : e2 = 111 := by omega
    have ce2 : ((e2 : Int) == 0) = false := by rw [beq_eq_false_iff_ne]; omega
    have de2 : ((e2 : Int) != 0) = true := by rw [bne_iff_ne]; omega
    have fe2 : ((e2 : Int) == 111) = true := by rw [beq_iff_eq]; omega
    clear ke2
    have hz : ((z1 : Int) == S) = true := by rw [beq_iff_eq]; omega
    clear hv1 hv2 hS hXx hYy hX hY hc0 hc1
    go_wp2
    all_goals go_ret
    all_goals exact ⟨rfl, B9.out⟩
  have hXx := hX.out
  have hYy := hY.out
  obtain ⟨S, hS⟩ : ∃ S : Int, S = X + Y - 18446744073709551616 := ⟨_, rfl⟩
  have hw : IntKind.u64.wrap (X + Y) = S := by show (X + Y) % 18446744073709551616 = _; omega
  have t1 : ¬ X ≤ S := by omega
  have t1d : decide (X ≤ S) = false := by rw [decide_eq_false_iff_not]; omega
  have ke1 : e1 = 111 := by omega
  have ce1 : ((e1 : Int) == 0) = false := by rw [beq_eq_false_iff_ne]; omega
  have de1 : ((e1 : Int) != 0) = true := by rw [bne_iff_ne]; omega
  have fe1 : ((e1 : Int) == 111) = true := by rw [beq_iff_eq]; omega
  clear ke1
  have ke2 : e2 = 111 := by omega
  have ce2 : ((e2 : Int) == 0) = false := by rw [beq_eq_false_iff_ne]; omega
  have de2 : ((e2 : Int) != 0) = true := by rw [bne_iff_ne]; omega
  have fe2 : ((e2 : Int) == 111) = true := by rw [beq_iff_eq]; omega
  clear ke2
  clear hv1 hv2 hS hXx hYy hX hY hc0 hc1
  go_wp2
  all_goals go_ret
  all_goals exact ⟨rfl, B9.out⟩

set_option maxRecDepth 100000 in
set_option maxHeartbeats 8000000 in
theorem numbers_ft {w : World} {x y : Nat} {X Y : Int} (hK : KSt w w) (hX : Hid (X = (x : Int))) (hY : Hid (Y = (y : Int))) (hx : x < 18446744073709551616) (hy : y < 18446744073709551616) :
    Calls Tryd.prog 7 #[.int .u64 X, .bool false, .int .u64 Y, .bool true] w fun e w' => e = .returned (.bool true) ∧ Below w.heap.size w w' := by
  have pa : Pk 1 [leafN x] := ⟨by simp, by simp, leaf_few hx⟩
  have pb : Pk 1 [leafN y] := ⟨by simp, by simp, leaf_few hy⟩
  obtain ⟨Lb, hLb⟩ : ∃ L, [leafN y] ++ [opN 5] = L := ⟨_, rfl⟩
  have pLb := pk_under (o := 5) pb hLb (by decide)
  obtain ⟨L, hL⟩ : ∃ L, [leafN x] ++ Lb ++ [opN 6] = L := ⟨_, rfl⟩
  have pL := pk_over (o := 6) pa pLb hL (by decide)
  have hS : L = sumN false x true y := by subst hLb hL; rfl
  have F0 : Std w w [] := ⟨Below.refl _ _, fun p hp => by cases hp⟩
  have qLb := Lib.hid hLb
  have qL := Lib.hid hL
  have HS := Lib.hid hS
  clear hS
  have HX : ¬ sideBad false x := fun h => by cases h.1
  clear hLb hL
  go_enter Tryd.func7, Tryd.ntmps7
  go_wp2_with fail
  refine (lives_any hK).mono ?_
  rintro e w1 ⟨rfl, H1⟩
  go_wp2_with fail
  refine (num_leaf _ _).mono ?_
  rintro e w2 ⟨rfl, H2⟩
  have F2 := (F0.keep H1).leaf H2.out hX
  go_wp2_with fail
  refine (num_leaf _ _).mono ?_
  rintro e w3 ⟨rfl, H3⟩
  have F := Lib.hid (F2.leaf H3.out hY)
  clear F0 F2 H1 H2 H3
  go_wp2_with fail
  refine (un_any (n := 1) (N := [leafN y]) (o := 5) F.out (by simp) qLb.out pb (by decide)).mono ?_
  rintro e w5 ⟨gLb, cLb, rfl, F⟩
  by_cases hby : 9223372036854775808 < y
  case pos =>
    have hzy : (9223372036854775808 : Int) < Y := by have := hY.out; omega
    go_wp2_with fail
    refine (ov_any (N := [leafN x]) (M := Lb) (o := 6) F.out (by simp) (by simp) qL.out pa pLb (by decide)).mono ?_
    rintro e w6 ⟨gL6, cL6, rfl, F⟩
    have FK := Lib.hid (hK.then_ F.out.1)
    go_wp2_with fail
    refine (intK_any FK.out.k).mono ?_
    rintro e w' ⟨rfl, rfl⟩
    clear FK
    obtain ⟨z0, z1, z2, za, e1, ce1, He1⟩ := vv_any (c := cL6) (k := 2) hK F.out (.head _) pL.2.2
    go_wp2_with fail
    refine ce1.mono ?_
    rintro e w7 ⟨rfl, G7⟩
    have F := Lib.hid (F.out.keep G7.out)
    clear ce1
    have hv := sum_bad_e (xn := false) (x := x) (yn := true) (y := y) (.inr ⟨rfl, hby⟩) (k := 2) (by decide) (by decide)
    rw [← HS.out, He1.out.2.2.2] at hv
    have c1 : ((e1 : Int) == 111) = true := by rw [beq_iff_eq]; omega
    have B9 := Lib.hid (F.out.1.trans (((Below.refl _ w7).alloc (Nat.le_refl _) (.cells #[.int .i64 z0, .int .u64 (z1 : Nat), .string z2] 39)).mono F.out.1.size))
    clear F He1 HS hv
    go_wp2
    go_ret
    exact ⟨rfl, B9.out⟩
  have hzy : ¬ (9223372036854775808 : Int) < Y := by have := hY.out; omega
  have HY : ¬ sideBad true y := fun h => hby h.2
  go_wp2_with fail
  refine (ov_any (N := [leafN x]) (M := Lb) (o := 6) F.out (by simp) (by simp) qL.out pa pLb (by decide)).mono ?_
  rintro e w6 ⟨gL6, cL6, rfl, F⟩
  have FK := Lib.hid (hK.then_ F.out.1)
  go_wp2_with fail
  refine (uintK_any FK.out.k).mono ?_
  rintro e w' ⟨rfl, rfl⟩
  clear FK
  obtain ⟨z0, z1, z2, za, e1, ce1, He1⟩ := vv_any (c := cL6) (k := 1) hK F.out (.head _) pL.2.2
  go_wp2_with fail
  refine ce1.mono ?_
  rintro e w7 ⟨rfl, G7⟩
  have F := Lib.hid (F.out.keep G7.out)
  clear ce1
  have F := Lib.hid (F.out.more (.cells #[.int .i64 z0, .int .u64 (z1 : Nat), .string z2] 39))
  go_wp2_with fail
  refine (ovb_any (N := [leafN x]) (M := Lb) (o := 6) F.out (by simp) (by simp) qL.out pa pLb (by decide)).mono ?_
  rintro e w8 ⟨gL8, cL8, rfl, F⟩
  have G8 := Lib.hid F.out.2
  have F := Lib.hid F.out.1
  have FK := Lib.hid (hK.then_ F.out.1)
  go_wp2_with fail
  refine (intK_any FK.out.k).mono ?_
  rintro e w' ⟨rfl, rfl⟩
  clear FK
  obtain ⟨u0, u1, u2, ua, e2, ce2, He2⟩ := vv_any (c := cL8) (k := 2) hK F.out (.head _) pL.2.2
  go_wp2_with fail
  refine ce2.mono ?_
  rintro e w9 ⟨rfl, G9⟩
  have F := Lib.hid (F.out.keep G9.out)
  clear ce2
  have B9 := F.out.1.trans (((Below.refl _ w9).alloc (Nat.le_refl _) (.cells #[.int .i64 u0, .int .u64 (u1 : Nat), .string u2] 39)).mono F.out.1.size)
  have n9 := (((CB.new w7 39 #[.int .i64 z0, .int .u64 (z1 : Nat), .string z2]).below G8.out).below G9.out).below ((Below.refl _ w9).alloc (Nat.le_refl _) (.cells #[.int .i64 u0, .int .u64 (u1 : Nat), .string u2] 39))
  have m9 := CB.new w9 39 #[.int .i64 u0, .int .u64 (u1 : Nat), .string u2]
  have qz := n9.at_ 1
  have qu := m9.at_ 1
  simp only [List.getElem?_toArray, List.getElem?_cons_zero, List.getElem?_cons_succ] at qz qu
  have hs7 : w7.heap.size < (w7.alloc (.cells #[.int .i64 z0, .int .u64 (z1 : Nat), .string z2] 39)).heap.size := by simp
  have hne : w7.heap.size ≠ w9.heap.size := by
    have := G8.out.size
    have := G9.out.size
    omega
  have B9 := Lib.hid B9
  clear n9 m9 hs7 F G7 G8 G9
  have hv1 := sum_one (xn := false) (x := x) (yn := true) (y := y) HX HY rfl
  have hv2 := sum_two (xn := false) (x := x) (yn := true) (y := y) HX HY rfl
  rw [← HS.out, He1.out.2.2.2, He1.out.2.1] at hv1
  rw [← HS.out, He2.out.2.2.2, He2.out.2.1] at hv2
  simp only [sideV, if_true, if_false, Bool.false_eq_true] at hv1 hv2
  clear He1 He2 HS HX HY pL qL
  by_cases hc0 : x = 0 ∧ y = 0
  case pos =>
    have hXx := hX.out
    have hYy := hY.out
    obtain ⟨S, hS⟩ : ∃ S : Int, S = 0 := ⟨_, rfl⟩
    have hw : IntKind.u64.wrap (X + Y) = S := by show (X + Y) % 18446744073709551616 = _; omega
    have pX : ¬ (0 : Int) < X := by omega
    have pXd : decide ((0 : Int) < X) = false := by rw [decide_eq_false_iff_not]; omega
    have zX : (X == 0) = true := by rw [beq_iff_eq]; omega
    have pY : ¬ (0 : Int) < Y := by omega
    have pYd : decide ((0 : Int) < Y) = false := by rw [decide_eq_false_iff_not]; omega
    have zY : (Y == 0) = true := by rw [beq_iff_eq]; omega
    have t1 : X ≤ S := by omega
    have t2 : S < 9223372036854775808 := by omega
    have ke1 : e1 = 0 := by omega
    have ce1 : ((e1 : Int) == 0) = true := by rw [beq_iff_eq]; omega
    have de1 : ((e1 : Int) != 0) = false := by rw [bne_eq_false_iff_eq]; omega
    have fe1 : ((e1 : Int) == 111) = false := by rw [beq_eq_false_iff_ne]; omega
    clear ke1
    have ke2 : e2 = 0 := by omega
    have ce2 : ((e2 : Int) == 0) = true := by rw [beq_iff_eq]; omega
    have de2 : ((e2 : Int) != 0) = false := by rw [bne_eq_false_iff_eq]; omega
    have fe2 : ((e2 : Int) == 111) = false := by rw [beq_eq_false_iff_ne]; omega
    clear ke2
    have hu : ((u1 : Int) == S) = true := by rw [beq_iff_eq]; omega
    have hz : ((z1 : Int) == S) = true := by rw [beq_iff_eq]; omega
    clear hv1 hv2 hS hXx hYy hX hY hby hzy hc0
    go_wp2
    all_goals go_ret
    all_goals exact ⟨rfl, B9.out⟩
  by_cases hc1 : x = 0
  case pos =>
    have hXx := hX.out
    have hYy := hY.out
    obtain ⟨S, hS⟩ : ∃ S : Int, S = Y := ⟨_, rfl⟩
    have hw : IntKind.u64.wrap (X + Y) = S := by show (X + Y) % 18446744073709551616 = _; omega
    have pX : ¬ (0 : Int) < X := by omega
    have pXd : decide ((0 : Int) < X) = false := by rw [decide_eq_false_iff_not]; omega
    have zX : (X == 0) = true := by rw [beq_iff_eq]; omega
    have pY : (0 : Int) < Y := by omega
    have zY : (Y == 0) = false := by rw [beq_eq_false_iff_ne]; omega
    have t1 : X ≤ S := by omega
    have t3 : S ≤ 9223372036854775808 := by omega
    have ke1 : e1 = 111 := by omega
    have ce1 : ((e1 : Int) == 0) = false := by rw [beq_eq_false_iff_ne]; omega
    have de1 : ((e1 : Int) != 0) = true := by rw [bne_iff_ne]; omega
    have fe1 : ((e1 : Int) == 111) = true := by rw [beq_iff_eq]; omega
    clear ke1
    have ke2 : e2 = 0 := by omega
    have ce2 : ((e2 : Int) == 0) = true := by rw [beq_iff_eq]; omega
    have de2 : ((e2 : Int) != 0) = false := by rw [bne_eq_false_iff_eq]; omega
    have fe2 : ((e2 : Int) == 111) = false := by rw [beq_eq_false_iff_ne]; omega
    clear ke2
    have hu : IntKind.u64.wrap (0 - S) = (u1 : Int) := by show (0 - S) % 18446744073709551616 = _; omega
    have hu2 : IntKind.u64.wrap (-S) = (u1 : Int) := by show (-S) % 18446744073709551616 = _; omega
    clear hv1 hv2 hS hXx hYy hX hY hby hzy hc0 hc1
    go_wp2
    all_goals go_ret
    all_goals exact ⟨rfl, B9.out⟩
  by_cases hc2 : y = 0 ∧ x < 9223372036854775808
  case pos =>
    have hXx := hX.out
    have hYy := hY.out
    obtain ⟨S, hS⟩ : ∃ S : Int, S = X := ⟨_, rfl⟩
    have hw : IntKind.u64.wrap (X + Y) = S := by show (X + Y) % 18446744073709551616 = _; omega
    have pX : (0 : Int) < X := by omega
    have zX : (X == 0) = false := by rw [beq_eq_false_iff_ne]; omega
    have pY : ¬ (0 : Int) < Y := by omega
    have pYd : decide ((0 : Int) < Y) = false := by rw [decide_eq_false_iff_not]; omega
    have zY : (Y == 0) = true := by rw [beq_iff_eq]; omega
    have t1 : X ≤ S := by omega
    have t2 : S < 9223372036854775808 := by omega
    have ke1 : e1 = 0 := by omega
    have ce1 : ((e1 : Int) == 0) = true := by rw [beq_iff_eq]; omega
    have de1 : ((e1 : Int) != 0) = false := by rw [bne_eq_false_iff_eq]; omega
    have fe1 : ((e1 : Int) == 111) = false := by rw [beq_eq_false_iff_ne]; omega
    clear ke1
    have ke2 : e2 = 0 := by omega
    have ce2 : ((e2 : Int) == 0) = true := by rw [beq_iff_eq]; omega
    have de2 : ((e2 : Int) != 0) = false := by rw [bne_eq_false_iff_eq]; omega
    have fe2 : ((e2 : Int) == 111) = false := by rw [beq_eq_false_iff_ne]; omega
    clear ke2
    have hu : ((u1 : Int) == S) = true := by rw [beq_iff_eq]; omega
    have hz : ((z1 : Int) == S) = true := by rw [beq_iff_eq]; omega
    clear hv1 hv2 hS hXx hYy hX hY hby hzy hc0 hc1 hc2
    go_wp2
    all_goals go_ret
    all_goals exact ⟨rfl, B9.out⟩
  by_cases hc3 : y = 0
  case pos =>
    have hXx := hX.out
    have hYy := hY.out
    obtain ⟨S, hS⟩ : ∃ S : Int, S = X := ⟨_, rfl⟩
    have hw : IntKind.u64.wrap (X + Y) = S := by show (X + Y) % 18446744073709551616 = _; omega
    have pX : (0 : Int) < X := by omega
    have zX : (X == 0) = false := by rw [beq_eq_false_iff_ne]; omega
    have pY : ¬ (0 : Int) < Y := by omega
    have pYd : decide ((0 : Int) < Y) = false := by rw [decide_eq_false_iff_not]; omega
    have zY : (Y == 0) = true := by rw [beq_iff_eq]; omega
    have t1 : X ≤ S := by omega
    have t2 : ¬ S < 9223372036854775808 := by omega
    have t2d : decide (S < 9223372036854775808) = false := by rw [decide_eq_false_iff_not]; omega
    have ke1 : e1 = 0 := by omega
    have ce1 : ((e1 : Int) == 0) = true := by rw [beq_iff_eq]; omega
    have de1 : ((e1 : Int) != 0) = false := by rw [bne_eq_false_iff_eq]; omega
    have fe1 : ((e1 : Int) == 111) = false := by rw [beq_eq_false_iff_ne]; omega
    clear ke1
    have ke2 : e2 = 111 := by omega
    have ce2 : ((e2 : Int) == 0) = false := by rw [beq_eq_false_iff_ne]; omega
    have de2 : ((e2 : Int) != 0) = true := by rw [bne_iff_ne]; omega
    have fe2 : ((e2 : Int) == 111) = true := by rw [beq_iff_eq]; omega
    clear ke2
    have hz : ((z1 : Int) == S) = true := by rw [beq_iff_eq]; omega
    clear hv1 hv2 hS hXx hYy hX hY hby hzy hc0 hc1 hc2 hc3
    go_wp2
    all_goals go_ret
    all_goals exact ⟨rfl, B9.out⟩
  by_cases hc4 : x < y
  case pos =>
    have hXx := hX.out
    have hYy := hY.out
    obtain ⟨S, hS⟩ : ∃ S : Int, S = Y - X := ⟨_, rfl⟩
    have hw : IntKind.u64.wrap (Y - X) = S := by show (Y - X) % 18446744073709551616 = _; omega
    have pX : (0 : Int) < X := by omega
    have zX : (X == 0) = false := by rw [beq_eq_false_iff_ne]; omega
    have pY : (0 : Int) < Y := by omega
    have zY : (Y == 0) = false := by rw [beq_eq_false_iff_ne]; omega
    have t1 : X < Y := by omega
    have t4 : (0 : Int) < S := by omega
    have ke1 : e1 = 111 := by omega
    have ce1 : ((e1 : Int) == 0) = false := by rw [beq_eq_false_iff_ne]; omega
    have de1 : ((e1 : Int) != 0) = true := by rw [bne_iff_ne]; omega
    have fe1 : ((e1 : Int) == 111) = true := by rw [beq_iff_eq]; omega
    clear ke1
    have ke2 : e2 = 0 := by omega
    have ce2 : ((e2 : Int) == 0) = true := by rw [beq_iff_eq]; omega
    have de2 : ((e2 : Int) != 0) = false := by rw [bne_eq_false_iff_eq]; omega
    have fe2 : ((e2 : Int) == 111) = false := by rw [beq_eq_false_iff_ne]; omega
    clear ke2
    have hu : IntKind.u64.wrap (0 - S) = (u1 : Int) := by show (0 - S) % 18446744073709551616 = _; omega
    have hu2 : IntKind.u64.wrap (-S) = (u1 : Int) := by show (-S) % 18446744073709551616 = _; omega
    clear hv1 hv2 hS hXx hYy hX hY hby hzy hc0 hc1 hc2 hc3 hc4
    go_wp2
    all_goals go_ret
    all_goals exact ⟨rfl, B9.out⟩
  by_cases hc5 : y < x ∧ x < y + 9223372036854775808
  case pos =>
    have hXx := hX.out
    have hYy := hY.out
    obtain ⟨S, hS⟩ : ∃ S : Int, S = X - Y := ⟨_, rfl⟩
    have hw : IntKind.u64.wrap (X - Y) = S := by show (X - Y) % 18446744073709551616 = _; omega
    have pX : (0 : Int) < X := by omega
    have zX : (X == 0) = false := by rw [beq_eq_false_iff_ne]; omega
    have pY : (0 : Int) < Y := by omega
    have zY : (Y == 0) = false := by rw [beq_eq_false_iff_ne]; omega
    have t1 : ¬ X < Y := by omega
    have t1d : decide (X < Y) = false := by rw [decide_eq_false_iff_not]; omega
    have t4 : (0 : Int) < S := by omega
    have t2 : S < 9223372036854775808 := by omega
    have ke1 : e1 = 0 := by omega
    have ce1 : ((e1 : Int) == 0) = true := by rw [beq_iff_eq]; omega
    have de1 : ((e1 : Int) != 0) = false := by rw [bne_eq_false_iff_eq]; omega
    have fe1 : ((e1 : Int) == 111) = false := by rw [beq_eq_false_iff_ne]; omega
    clear ke1
    have ke2 : e2 = 0 := by omega
    have ce2 : ((e2 : Int) == 0) = true := by rw [beq_iff_eq]; omega
    have de2 : ((e2 : Int) != 0) = false := by rw [bne_eq_false_iff_eq]; omega
    have fe2 : ((e2 : Int) == 111) = false := by rw [beq_eq_false_iff_ne]; omega
    clear ke2
    have hu : ((u1 : Int) == S) = true := by rw [beq_iff_eq]; omega
    have hz : ((z1 : Int) == S) = true := by rw [beq_iff_eq]; omega
    clear hv1 hv2 hS hXx hYy hX hY hby hzy hc0 hc1 hc2 hc3 hc4 hc5
    go_wp2
    all_goals go_ret
    all_goals exact ⟨rfl, B9.out⟩
  by_cases hc6 : y < x
  case pos =>
    have hXx := hX.out
    have hYy := hY.out
    obtain ⟨S, hS⟩ : ∃ S : Int, S = X - Y := ⟨_, rfl⟩
    have hw : IntKind.u64.wrap (X - Y) = S := by show (X - Y) % 18446744073709551616 = _; omega
    have pX : (0 : Int) < X := by omega
    have zX : (X == 0) = false := by rw [beq_eq_false_iff_ne]; omega
    have pY : (0 : Int) < Y := by omega
    have zY : (Y == 0) = false := by rw [beq_eq_false_iff_ne]; omega
    have t1 : ¬ X < Y := by omega
    have t1d : decide (X < Y) = false := by rw [decide_eq_false_iff_not]; omega
    have t4 : (0 : Int) < S := by omega
    have t2 : ¬ S < 9223372036854775808 := by omega
    have t2d : decide (S < 9223372036854775808) = false := by rw [decide_eq_false_iff_not]; omega
    have ke1 : e1 = 0 := by omega
    have ce1 : ((e1 : Int) == 0) = true := by rw [beq_iff_eq]; omega
    have de1 : ((e1 : Int) != 0) = false := by rw [bne_eq_false_iff_eq]; omega
    have fe1 : ((e1 : Int) == 111) = false := by rw [beq_eq_false_iff_ne]; omega
    clear ke1
    have ke2 : e2 = 111 := by omega
    have ce2 : ((e2 : Int) == 0) = false := by rw [beq_eq_false_iff_ne]; omega
    have de2 : ((e2 : Int) != 0) = true := by rw [bne_iff_ne]; omega
    have fe2 : ((e2 : Int) == 111) = true := by rw [beq_iff_eq]; omega
    clear ke2
    have hz : ((z1 : Int) == S) = true := by rw [beq_iff_eq]; omega
    clear hv1 hv2 hS hXx hYy hX hY hby hzy hc0 hc1 hc2 hc3 hc4 hc5 hc6
    go_wp2
    all_goals go_ret
    all_goals exact ⟨rfl, B9.out⟩
  have hXx := hX.out
  have hYy := hY.out
  obtain ⟨S, hS⟩ : ∃ S : Int, S = 0 := ⟨_, rfl⟩
  have hw : IntKind.u64.wrap (X - Y) = S := by show (X - Y) % 18446744073709551616 = _; omega
  have pX : (0 : Int) < X := by omega
  have zX : (X == 0) = false := by rw [beq_eq_false_iff_ne]; omega
  have pY : (0 : Int) < Y := by omega
  have zY : (Y == 0) = false := by rw [beq_eq_false_iff_ne]; omega
  have t1 : ¬ X < Y := by omega
  have t1d : decide (X < Y) = false := by rw [decide_eq_false_iff_not]; omega
  have t4 : ¬ (0 : Int) < S := by omega
  have t4d : decide ((0 : Int) < S) = false := by rw [decide_eq_false_iff_not]; omega
  have t2 : S < 9223372036854775808 := by omega
  have ke1 : e1 = 0 := by omega
  have ce1 : ((e1 : Int) == 0) = true := by rw [beq_iff_eq]; omega
  have de1 : ((e1 : Int) != 0) = false := by rw [bne_eq_false_iff_eq]; omega
  have fe1 : ((e1 : Int) == 111) = false := by rw [beq_eq_false_iff_ne]; omega
  clear ke1
  have ke2 : e2 = 0 := by omega
  have ce2 : ((e2 : Int) == 0) = true := by rw [beq_iff_eq]; omega
  have de2 : ((e2 : Int) != 0) = false := by rw [bne_eq_false_iff_eq]; omega
  have fe2 : ((e2 : Int) == 111) = false := by rw [beq_eq_false_iff_ne]; omega
  clear ke2
  have hu : ((u1 : Int) == S) = true := by rw [beq_iff_eq]; omega
  have hz : ((z1 : Int) == S) = true := by rw [beq_iff_eq]; omega
  clear hv1 hv2 hS hXx hYy hX hY hby hzy hc0 hc1 hc2 hc3 hc4 hc5 hc6
  go_wp2
  all_goals go_ret
  all_goals exact ⟨rfl, B9.out⟩

set_option maxRecDepth 100000 in
set_option maxHeartbeats 8000000 in
theorem numbers_tf {w : World} {x y : Nat} {X Y : Int} (hK : KSt w w) (hX : Hid (X = (x : Int))) (hY : Hid (Y = (y : Int))) (hx : x < 18446744073709551616) (hy : y < 18446744073709551616) :
    Calls Tryd.prog 7 #[.int .u64 X, .bool true, .int .u64 Y, .bool false] w fun e w' => e = .returned (.bool true) ∧ Below w.heap.size w w' := by
  have pa : Pk 1 [leafN x] := ⟨by simp, by simp, leaf_few hx⟩
  have pb : Pk 1 [leafN y] := ⟨by simp, by simp, leaf_few hy⟩
  obtain ⟨La, hLa⟩ : ∃ L, [leafN x] ++ [opN 5] = L := ⟨_, rfl⟩
  have pLa := pk_under (o := 5) pa hLa (by decide)
  obtain ⟨L, hL⟩ : ∃ L, La ++ [leafN y] ++ [opN 6] = L := ⟨_, rfl⟩
  have pL := pk_over (o := 6) pLa pb hL (by decide)
  have hS : L = sumN true x false y := by subst hLa hL; rfl
  have F0 : Std w w [] := ⟨Below.refl _ _, fun p hp => by cases hp⟩
  have qLa := Lib.hid hLa
  have qL := Lib.hid hL
  have HS := Lib.hid hS
  clear hS
  have HY : ¬ sideBad false y := fun h => by cases h.1
  clear hLa hL
  go_enter Tryd.func7, Tryd.ntmps7
  go_wp2_with fail
  refine (lives_any hK).mono ?_
  rintro e w1 ⟨rfl, H1⟩
  go_wp2_with fail
  refine (num_leaf _ _).mono ?_
  rintro e w2 ⟨rfl, H2⟩
  have F2 := (F0.keep H1).leaf H2.out hX
  go_wp2_with fail
  refine (num_leaf _ _).mono ?_
  rintro e w3 ⟨rfl, H3⟩
  have F := Lib.hid (F2.leaf H3.out hY)
  clear F0 F2 H1 H2 H3
  go_wp2_with fail
  refine (un_any (n := 1) (N := [leafN x]) (o := 5) F.out (by simp) qLa.out pa (by decide)).mono ?_
  rintro e w4 ⟨gLa, cLa, rfl, F⟩
  by_cases hbx : 9223372036854775808 < x
  case pos =>
    have hzx : (9223372036854775808 : Int) < X := by have := hX.out; omega
    go_wp2_with fail
    refine (ov_any (N := La) (M := [leafN y]) (o := 6) F.out (by simp) (by simp) qL.out pLa pb (by decide)).mono ?_
    rintro e w6 ⟨gL6, cL6, rfl, F⟩
    have FK := Lib.hid (hK.then_ F.out.1)
    go_wp2_with fail
    refine (intK_any FK.out.k).mono ?_
    rintro e w' ⟨rfl, rfl⟩
    clear FK
    obtain ⟨z0, z1, z2, za, e1, ce1, He1⟩ := vv_any (c := cL6) (k := 2) hK F.out (.head _) pL.2.2
    go_wp2_with fail
    refine ce1.mono ?_
    rintro e w7 ⟨rfl, G7⟩
    have F := Lib.hid (F.out.keep G7.out)
    clear ce1
    have hv := sum_bad_e (xn := true) (x := x) (yn := false) (y := y) (.inl ⟨rfl, hbx⟩) (k := 2) (by decide) (by decide)
    rw [← HS.out, He1.out.2.2.2] at hv
    have c1 : ((e1 : Int) == 111) = true := by rw [beq_iff_eq]; omega
    have B9 := Lib.hid (F.out.1.trans (((Below.refl _ w7).alloc (Nat.le_refl _) (.cells #[.int .i64 z0, .int .u64 (z1 : Nat), .string z2] 39)).mono F.out.1.size))
    clear F He1 HS hv
    go_wp2
    go_ret
    exact ⟨rfl, B9.out⟩
  have hzx : ¬ (9223372036854775808 : Int) < X := by have := hX.out; omega
  have HX : ¬ sideBad true x := fun h => hbx h.2
  go_wp2_with fail
  refine (ov_any (N := La) (M := [leafN y]) (o := 6) F.out (by simp) (by simp) qL.out pLa pb (by decide)).mono ?_
  rintro e w6 ⟨gL6, cL6, rfl, F⟩
  have FK := Lib.hid (hK.then_ F.out.1)
  go_wp2_with fail
  refine (uintK_any FK.out.k).mono ?_
  rintro e w' ⟨rfl, rfl⟩
  clear FK
  obtain ⟨z0, z1, z2, za, e1, ce1, He1⟩ := vv_any (c := cL6) (k := 1) hK F.out (.head _) pL.2.2
  go_wp2_with fail
  refine ce1.mono ?_
  rintro e w7 ⟨rfl, G7⟩
  have F := Lib.hid (F.out.keep G7.out)
  clear ce1
  have F := Lib.hid (F.out.more (.cells #[.int .i64 z0, .int .u64 (z1 : Nat), .string z2] 39))
  go_wp2_with fail
  refine (ovb_any (N := La) (M := [leafN y]) (o := 6) F.out (by simp) (by simp) qL.out pLa pb (by decide)).mono ?_
  rintro e w8 ⟨gL8, cL8, rfl, F⟩
  have G8 := Lib.hid F.out.2
  have F := Lib.hid F.out.1
  have FK := Lib.hid (hK.then_ F.out.1)
  go_wp2_with fail
  refine (intK_any FK.out.k).mono ?_
  rintro e w' ⟨rfl, rfl⟩
  clear FK
  obtain ⟨u0, u1, u2, ua, e2, ce2, He2⟩ := vv_any (c := cL8) (k := 2) hK F.out (.head _) pL.2.2
  go_wp2_with fail
  refine ce2.mono ?_
  rintro e w9 ⟨rfl, G9⟩
  have F := Lib.hid (F.out.keep G9.out)
  clear ce2
  have B9 := F.out.1.trans (((Below.refl _ w9).alloc (Nat.le_refl _) (.cells #[.int .i64 u0, .int .u64 (u1 : Nat), .string u2] 39)).mono F.out.1.size)
  have n9 := (((CB.new w7 39 #[.int .i64 z0, .int .u64 (z1 : Nat), .string z2]).below G8.out).below G9.out).below ((Below.refl _ w9).alloc (Nat.le_refl _) (.cells #[.int .i64 u0, .int .u64 (u1 : Nat), .string u2] 39))
  have m9 := CB.new w9 39 #[.int .i64 u0, .int .u64 (u1 : Nat), .string u2]
  have qz := n9.at_ 1
  have qu := m9.at_ 1
  simp only [List.getElem?_toArray, List.getElem?_cons_zero, List.getElem?_cons_succ] at qz qu
  have hs7 : w7.heap.size < (w7.alloc (.cells #[.int .i64 z0, .int .u64 (z1 : Nat), .string z2] 39)).heap.size := by simp
  have hne : w7.heap.size ≠ w9.heap.size := by
    have := G8.out.size
    have := G9.out.size
    omega
  have B9 := Lib.hid B9
  clear n9 m9 hs7 F G7 G8 G9
  have hv1 := sum_one (xn := true) (x := x) (yn := false) (y := y) HX HY rfl
  have hv2 := sum_two (xn := true) (x := x) (yn := false) (y := y) HX HY rfl
  rw [← HS.out, He1.out.2.2.2, He1.out.2.1] at hv1
  rw [← HS.out, He2.out.2.2.2, He2.out.2.1] at hv2
  simp only [sideV, if_true, if_false, Bool.false_eq_true] at hv1 hv2
  clear He1 He2 HS HX HY pL qL
  by_cases hc0 : x = 0 ∧ y < 9223372036854775808
  case pos =>
    have hXx := hX.out
    have hYy := hY.out
    obtain ⟨S, hS⟩ : ∃ S : Int, S = Y := ⟨_, rfl⟩
    have hw : IntKind.u64.wrap (X + Y) = S := by show (X + Y) % 18446744073709551616 = _; omega
    have pX : ¬ (0 : Int) < X := by omega
    have pXd : decide ((0 : Int) < X) = false := by rw [decide_eq_false_iff_not]; omega
    have zX : (X == 0) = true := by rw [beq_iff_eq]; omega
    have t1 : X ≤ S := by omega
    have t2 : S < 9223372036854775808 := by omega
    have ke1 : e1 = 0 := by omega
    have ce1 : ((e1 : Int) == 0) = true := by rw [beq_iff_eq]; omega
    have de1 : ((e1 : Int) != 0) = false := by rw [bne_eq_false_iff_eq]; omega
    have fe1 : ((e1 : Int) == 111) = false := by rw [beq_eq_false_iff_ne]; omega
    clear ke1
    have ke2 : e2 = 0 := by omega
    have ce2 : ((e2 : Int) == 0) = true := by rw [beq_iff_eq]; omega
    have de2 : ((e2 : Int) != 0) = false := by rw [bne_eq_false_iff_eq]; omega
    have fe2 : ((e2 : Int) == 111) = false := by rw [beq_eq_false_iff_ne]; omega
    clear ke2
    have hu : ((u1 : Int) == S) = true := by rw [beq_iff_eq]; omega
    have hz : ((z1 : Int) == S) = true := by rw [beq_iff_eq]; omega
    clear hv1 hv2 hS hXx hYy hX hY hbx hzx hc0
    go_wp2
    all_goals go_ret
    all_goals exact ⟨rfl, B9.out⟩
  by_cases hc1 : x = 0
  case pos =>
    have hXx := hX.out
    have hYy := hY.out
    obtain ⟨S, hS⟩ : ∃ S : Int, S = Y := ⟨_, rfl⟩
    have hw : IntKind.u64.wrap (X + Y) = S := by show (X + Y) % 18446744073709551616 = _; omega
    have pX : ¬ (0 : Int) < X := by omega
    have pXd : decide ((0 : Int) < X) = false := by rw [decide_eq_false_iff_not]; omega
    have zX : (X == 0) = true := by rw [beq_iff_eq]; omega
    have t1 : X ≤ S := by omega
    have t2 : ¬ S < 9223372036854775808 := by omega
    have t2d : decide (S < 9223372036854775808) = false := by rw [decide_eq_false_iff_not]; omega
    have ke1 : e1 = 0 := by omega
    have ce1 : ((e1 : Int) == 0) = true := by rw [beq_iff_eq]; omega
    have de1 : ((e1 : Int) != 0) = false := by rw [bne_eq_false_iff_eq]; omega
    have fe1 : ((e1 : Int) == 111) = false := by rw [beq_eq_false_iff_ne]; omega
    clear ke1
    have ke2 : e2 = 111 := by omega
    have ce2 : ((e2 : Int) == 0) = false := by rw [beq_eq_false_iff_ne]; omega
    have de2 : ((e2 : Int) != 0) = true := by rw [bne_iff_ne]; omega
    have fe2 : ((e2 : Int) == 111) = true := by rw [beq_iff_eq]; omega
    clear ke2
    have hz : ((z1 : Int) == S) = true := by rw [beq_iff_eq]; omega
    clear hv1 hv2 hS hXx hYy hX hY hbx hzx hc0 hc1
    go_wp2
    all_goals go_ret
    all_goals exact ⟨rfl, B9.out⟩
  by_cases hc2 : y = 0
  case pos =>
    have hXx := hX.out
    have hYy := hY.out
    obtain ⟨S, hS⟩ : ∃ S : Int, S = X := ⟨_, rfl⟩
    have hw : IntKind.u64.wrap (X + Y) = S := by show (X + Y) % 18446744073709551616 = _; omega
    have pX : (0 : Int) < X := by omega
    have zX : (X == 0) = false := by rw [beq_eq_false_iff_ne]; omega
    have pY : ¬ (0 : Int) < Y := by omega
    have pYd : decide ((0 : Int) < Y) = false := by rw [decide_eq_false_iff_not]; omega
    have zY : (Y == 0) = true := by rw [beq_iff_eq]; omega
    have t1 : X ≤ S := by omega
    have t3 : S ≤ 9223372036854775808 := by omega
    have ke1 : e1 = 111 := by omega
    have ce1 : ((e1 : Int) == 0) = false := by rw [beq_eq_false_iff_ne]; omega
    have de1 : ((e1 : Int) != 0) = true := by rw [bne_iff_ne]; omega
    have fe1 : ((e1 : Int) == 111) = true := by rw [beq_iff_eq]; omega
    clear ke1
    have ke2 : e2 = 0 := by omega
    have ce2 : ((e2 : Int) == 0) = true := by rw [beq_iff_eq]; omega
    have de2 : ((e2 : Int) != 0) = false := by rw [bne_eq_false_iff_eq]; omega
    have fe2 : ((e2 : Int) == 111) = false := by rw [beq_eq_false_iff_ne]; omega
    clear ke2
    have hu : IntKind.u64.wrap (0 - S) = (u1 : Int) := by show (0 - S) % 18446744073709551616 = _; omega
    have hu2 : IntKind.u64.wrap (-S) = (u1 : Int) := by show (-S) % 18446744073709551616 = _; omega
    clear hv1 hv2 hS hXx hYy hX hY hbx hzx hc0 hc1 hc2
    go_wp2
    all_goals go_ret
    all_goals exact ⟨rfl, B9.out⟩
  by_cases hc3 : x < y ∧ y < x + 9223372036854775808
  case pos =>
    have hXx := hX.out
    have hYy := hY.out
    obtain ⟨S, hS⟩ : ∃ S : Int, S = Y - X := ⟨_, rfl⟩
    have hw : IntKind.u64.wrap (Y - X) = S := by show (Y - X) % 18446744073709551616 = _; omega
    have pX : (0 : Int) < X := by omega
    have zX : (X == 0) = false := by rw [beq_eq_false_iff_ne]; omega
    have pY : (0 : Int) < Y := by omega
    have zY : (Y == 0) = false := by rw [beq_eq_false_iff_ne]; omega
    have t1 : X < Y := by omega
    have t4 : (0 : Int) < S := by omega
    have t2 : S < 9223372036854775808 := by omega
    have ke1 : e1 = 0 := by omega
    have ce1 : ((e1 : Int) == 0) = true := by rw [beq_iff_eq]; omega
    have de1 : ((e1 : Int) != 0) = false := by rw [bne_eq_false_iff_eq]; omega
    have fe1 : ((e1 : Int) == 111) = false := by rw [beq_eq_false_iff_ne]; omega
    clear ke1
    have ke2 : e2 = 0 := by omega
    have ce2 : ((e2 : Int) == 0) = true := by rw [beq_iff_eq]; omega
    have de2 : ((e2 : Int) != 0) = false := by rw [bne_eq_false_iff_eq]; omega
    have fe2 : ((e2 : Int) == 111) = false := by rw [beq_eq_false_iff_ne]; omega
    clear ke2
    have hu : ((u1 : Int) == S) = true := by rw [beq_iff_eq]; omega
    have hz : ((z1 : Int) == S) = true := by rw [beq_iff_eq]; omega
    clear hv1 hv2 hS hXx hYy hX hY hbx hzx hc0 hc1 hc2 hc3
    go_wp2
    all_goals go_ret
    all_goals exact ⟨rfl, B9.out⟩
  by_cases hc4 : x < y
  case pos =>
    have hXx := hX.out
    have hYy := hY.out
    obtain ⟨S, hS⟩ : ∃ S : Int, S = Y - X := ⟨_, rfl⟩
    have hw : IntKind.u64.wrap (Y - X) = S := by show (Y - X) % 18446744073709551616 = _; omega
    have pX : (0 : Int) < X := by omega
    have zX : (X == 0) = false := by rw [beq_eq_false_iff_ne]; omega
    have pY : (0 : Int) < Y := by omega
    have zY : (Y == 0) = false := by rw [beq_eq_false_iff_ne]; omega
    have t1 : X < Y := by omega
    have t4 : (0 : Int) < S := by omega
    have t2 : ¬ S < 9223372036854775808 := by omega
    have t2d : decide (S < 9223372036854775808) = false := by rw [decide_eq_false_iff_not]; omega
    have ke1 : e1 = 0 := by omega
    have ce1 : ((e1 : Int) == 0) = true := by rw [beq_iff_eq]; omega
    have de1 : ((e1 : Int) != 0) = false := by rw [bne_eq_false_iff_eq]; omega
    have fe1 : ((e1 : Int) == 111) = false := by rw [beq_eq_false_iff_ne]; omega
    clear ke1
    have ke2 : e2 = 111 := by omega
    have ce2 : ((e2 : Int) == 0) = false := by rw [beq_eq_false_iff_ne]; omega
    have de2 : ((e2 : Int) != 0) = true := by rw [bne_iff_ne]; omega
    have fe2 : ((e2 : Int) == 111) = true := by rw [beq_iff_eq]; omega
    clear ke2
    have hz : ((z1 : Int) == S) = true := by rw [beq_iff_eq]; omega
    clear hv1 hv2 hS hXx hYy hX hY hbx hzx hc0 hc1 hc2 hc3 hc4
    go_wp2
    all_goals go_ret
    all_goals exact ⟨rfl, B9.out⟩
  by_cases hc5 : y < x
  case pos =>
    have hXx := hX.out
    have hYy := hY.out
    obtain ⟨S, hS⟩ : ∃ S : Int, S = X - Y := ⟨_, rfl⟩
    have hw : IntKind.u64.wrap (X - Y) = S := by show (X - Y) % 18446744073709551616 = _; omega
    have pX : (0 : Int) < X := by omega
    have zX : (X == 0) = false := by rw [beq_eq_false_iff_ne]; omega
    have pY : (0 : Int) < Y := by omega
    have zY : (Y == 0) = false := by rw [beq_eq_false_iff_ne]; omega
    have t1 : ¬ X < Y := by omega
    have t1d : decide (X < Y) = false := by rw [decide_eq_false_iff_not]; omega
    have t4 : (0 : Int) < S := by omega
    have ke1 : e1 = 111 := by omega
    have ce1 : ((e1 : Int) == 0) = false := by rw [beq_eq_false_iff_ne]; omega
    have de1 : ((e1 : Int) != 0) = true := by rw [bne_iff_ne]; omega
    have fe1 : ((e1 : Int) == 111) = true := by rw [beq_iff_eq]; omega
    clear ke1
    have ke2 : e2 = 0 := by omega
    have ce2 : ((e2 : Int) == 0) = true := by rw [beq_iff_eq]; omega
    have de2 : ((e2 : Int) != 0) = false := by rw [bne_eq_false_iff_eq]; omega
    have fe2 : ((e2 : Int) == 111) = false := by rw [beq_eq_false_iff_ne]; omega
    clear ke2
    have hu : IntKind.u64.wrap (0 - S) = (u1 : Int) := by show (0 - S) % 18446744073709551616 = _; omega
    have hu2 : IntKind.u64.wrap (-S) = (u1 : Int) := by show (-S) % 18446744073709551616 = _; omega
    clear hv1 hv2 hS hXx hYy hX hY hbx hzx hc0 hc1 hc2 hc3 hc4 hc5
    go_wp2
    all_goals go_ret
    all_goals exact ⟨rfl, B9.out⟩
  have hXx := hX.out
  have hYy := hY.out
  obtain ⟨S, hS⟩ : ∃ S : Int, S = 0 := ⟨_, rfl⟩
  have hw : IntKind.u64.wrap (X - Y) = S := by show (X - Y) % 18446744073709551616 = _; omega
  have pX : (0 : Int) < X := by omega
  have zX : (X == 0) = false := by rw [beq_eq_false_iff_ne]; omega
  have pY : (0 : Int) < Y := by omega
  have zY : (Y == 0) = false := by rw [beq_eq_false_iff_ne]; omega
  have t1 : ¬ X < Y := by omega
  have t1d : decide (X < Y) = false := by rw [decide_eq_false_iff_not]; omega
  have t4 : ¬ (0 : Int) < S := by omega
  have t4d : decide ((0 : Int) < S) = false := by rw [decide_eq_false_iff_not]; omega
  have t2 : S < 9223372036854775808 := by omega
  have ke1 : e1 = 0 := by omega
  have ce1 : ((e1 : Int) == 0) = true := by rw [beq_iff_eq]; omega
  have de1 : ((e1 : Int) != 0) = false := by rw [bne_eq_false_iff_eq]; omega
  have fe1 : ((e1 : Int) == 111) = false := by rw [beq_eq_false_iff_ne]; omega
  clear ke1
  have ke2 : e2 = 0 := by omega
  have ce2 : ((e2 : Int) == 0) = true := by rw [beq_iff_eq]; omega
  have de2 : ((e2 : Int) != 0) = false := by rw [bne_eq_false_iff_eq]; omega
  have fe2 : ((e2 : Int) == 111) = false := by rw [beq_eq_false_iff_ne]; omega
  clear ke2
  have hu : ((u1 : Int) == S) = true := by rw [beq_iff_eq]; omega
  have hz : ((z1 : Int) == S) = true := by rw [beq_iff_eq]; omega
  clear hv1 hv2 hS hXx hYy hX hY hbx hzx hc0 hc1 hc2 hc3 hc4 hc5
  go_wp2
  all_goals go_ret
  all_goals exact ⟨rfl, B9.out⟩

set_option maxRecDepth 100000 in
set_option maxHeartbeats 8000000 in
theorem numbers_tt {w : World} {x y : Nat} {X Y : Int} (hK : KSt w w) (hX : Hid (X = (x : Int))) (hY : Hid (Y = (y : Int))) (hx : x < 18446744073709551616) (hy : y < 18446744073709551616) :
    Calls Tryd.prog 7 #[.int .u64 X, .bool true, .int .u64 Y, .bool true] w fun e w' => e = .returned (.bool true) ∧ Below w.heap.size w w' := by
  have pa : Pk 1 [leafN x] := ⟨by simp, by simp, leaf_few hx⟩
  have pb : Pk 1 [leafN y] := ⟨by simp, by simp, leaf_few hy⟩
  obtain ⟨La, hLa⟩ : ∃ L, [leafN x] ++ [opN 5] = L := ⟨_, rfl⟩
  have pLa := pk_under (o := 5) pa hLa (by decide)
  obtain ⟨Lb, hLb⟩ : ∃ L, [leafN y] ++ [opN 5] = L := ⟨_, rfl⟩
  have pLb := pk_under (o := 5) pb hLb (by decide)
  obtain ⟨L, hL⟩ : ∃ L, La ++ Lb ++ [opN 6] = L := ⟨_, rfl⟩
  have pL := pk_over (o := 6) pLa pLb hL (by decide)
  have hS : L = sumN true x true y := by subst hLa hLb hL; rfl
  have F0 : Std w w [] := ⟨Below.refl _ _, fun p hp => by cases hp⟩
  have qLa := Lib.hid hLa
  have qLb := Lib.hid hLb
  have qL := Lib.hid hL
  have HS := Lib.hid hS
  clear hS
  clear hLa hLb hL
  go_enter Tryd.func7, Tryd.ntmps7
  go_wp2_with fail
  refine (lives_any hK).mono ?_
  rintro e w1 ⟨rfl, H1⟩
  go_wp2_with fail
  refine (num_leaf _ _).mono ?_
  rintro e w2 ⟨rfl, H2⟩
  have F2 := (F0.keep H1).leaf H2.out hX
  go_wp2_with fail
  refine (num_leaf _ _).mono ?_
  rintro e w3 ⟨rfl, H3⟩
  have F := Lib.hid (F2.leaf H3.out hY)
  clear F0 F2 H1 H2 H3
  go_wp2_with fail
  refine (un_any (n := 1) (N := [leafN x]) (o := 5) F.out (by simp) qLa.out pa (by decide)).mono ?_
  rintro e w4 ⟨gLa, cLa, rfl, F⟩
  go_wp2_with fail
  refine (un_any (n := 1) (N := [leafN y]) (o := 5) F.out (by simp) qLb.out pb (by decide)).mono ?_
  rintro e w5 ⟨gLb, cLb, rfl, F⟩
  by_cases hbx : 9223372036854775808 < x
  case pos =>
    have hzx : (9223372036854775808 : Int) < X := by have := hX.out; omega
    go_wp2_with fail
    refine (ov_any (N := La) (M := Lb) (o := 6) F.out (by simp) (by simp) qL.out pLa pLb (by decide)).mono ?_
    rintro e w6 ⟨gL6, cL6, rfl, F⟩
    have FK := Lib.hid (hK.then_ F.out.1)
    go_wp2_with fail
    refine (intK_any FK.out.k).mono ?_
    rintro e w' ⟨rfl, rfl⟩
    clear FK
    obtain ⟨z0, z1, z2, za, e1, ce1, He1⟩ := vv_any (c := cL6) (k := 2) hK F.out (.head _) pL.2.2
    go_wp2_with fail
    refine ce1.mono ?_
    rintro e w7 ⟨rfl, G7⟩
    have F := Lib.hid (F.out.keep G7.out)
    clear ce1
    have hv := sum_bad_e (xn := true) (x := x) (yn := true) (y := y) (.inl ⟨rfl, hbx⟩) (k := 2) (by decide) (by decide)
    rw [← HS.out, He1.out.2.2.2] at hv
    have c1 : ((e1 : Int) == 111) = true := by rw [beq_iff_eq]; omega
    have B9 := Lib.hid (F.out.1.trans (((Below.refl _ w7).alloc (Nat.le_refl _) (.cells #[.int .i64 z0, .int .u64 (z1 : Nat), .string z2] 39)).mono F.out.1.size))
    clear F He1 HS hv
    go_wp2
    go_ret
    exact ⟨rfl, B9.out⟩
  have hzx : ¬ (9223372036854775808 : Int) < X := by have := hX.out; omega
  have HX : ¬ sideBad true x := fun h => hbx h.2
  by_cases hby : 9223372036854775808 < y
  case pos =>
    have hzy : (9223372036854775808 : Int) < Y := by have := hY.out; omega
    go_wp2_with fail
    refine (ov_any (N := La) (M := Lb) (o := 6) F.out (by simp) (by simp) qL.out pLa pLb (by decide)).mono ?_
    rintro e w6 ⟨gL6, cL6, rfl, F⟩
    have FK := Lib.hid (hK.then_ F.out.1)
    go_wp2_with fail
    refine (intK_any FK.out.k).mono ?_
    rintro e w' ⟨rfl, rfl⟩
    clear FK
    obtain ⟨z0, z1, z2, za, e1, ce1, He1⟩ := vv_any (c := cL6) (k := 2) hK F.out (.head _) pL.2.2
    go_wp2_with fail
    refine ce1.mono ?_
    rintro e w7 ⟨rfl, G7⟩
    have F := Lib.hid (F.out.keep G7.out)
    clear ce1
    have hv := sum_bad_e (xn := true) (x := x) (yn := true) (y := y) (.inr ⟨rfl, hby⟩) (k := 2) (by decide) (by decide)
    rw [← HS.out, He1.out.2.2.2] at hv
    have c1 : ((e1 : Int) == 111) = true := by rw [beq_iff_eq]; omega
    have B9 := Lib.hid (F.out.1.trans (((Below.refl _ w7).alloc (Nat.le_refl _) (.cells #[.int .i64 z0, .int .u64 (z1 : Nat), .string z2] 39)).mono F.out.1.size))
    clear F He1 HS hv
    go_wp2
    go_ret
    exact ⟨rfl, B9.out⟩
  have hzy : ¬ (9223372036854775808 : Int) < Y := by have := hY.out; omega
  have HY : ¬ sideBad true y := fun h => hby h.2
  go_wp2_with fail
  refine (ov_any (N := La) (M := Lb) (o := 6) F.out (by simp) (by simp) qL.out pLa pLb (by decide)).mono ?_
  rintro e w6 ⟨gL6, cL6, rfl, F⟩
  have FK := Lib.hid (hK.then_ F.out.1)
  go_wp2_with fail
  refine (uintK_any FK.out.k).mono ?_
  rintro e w' ⟨rfl, rfl⟩
  clear FK
  obtain ⟨z0, z1, z2, za, e1, ce1, He1⟩ := vv_any (c := cL6) (k := 1) hK F.out (.head _) pL.2.2
  go_wp2_with fail
  refine ce1.mono ?_
  rintro e w7 ⟨rfl, G7⟩
  have F := Lib.hid (F.out.keep G7.out)
  clear ce1
  have F := Lib.hid (F.out.more (.cells #[.int .i64 z0, .int .u64 (z1 : Nat), .string z2] 39))
  go_wp2_with fail
  refine (ovb_any (N := La) (M := Lb) (o := 6) F.out (by simp) (by simp) qL.out pLa pLb (by decide)).mono ?_
  rintro e w8 ⟨gL8, cL8, rfl, F⟩
  have G8 := Lib.hid F.out.2
  have F := Lib.hid F.out.1
  have FK := Lib.hid (hK.then_ F.out.1)
  go_wp2_with fail
  refine (intK_any FK.out.k).mono ?_
  rintro e w' ⟨rfl, rfl⟩
  clear FK
  obtain ⟨u0, u1, u2, ua, e2, ce2, He2⟩ := vv_any (c := cL8) (k := 2) hK F.out (.head _) pL.2.2
  go_wp2_with fail
  refine ce2.mono ?_
  rintro e w9 ⟨rfl, G9⟩
  have F := Lib.hid (F.out.keep G9.out)
  clear ce2
  have B9 := F.out.1.trans (((Below.refl _ w9).alloc (Nat.le_refl _) (.cells #[.int .i64 u0, .int .u64 (u1 : Nat), .string u2] 39)).mono F.out.1.size)
  have n9 := (((CB.new w7 39 #[.int .i64 z0, .int .u64 (z1 : Nat), .string z2]).below G8.out).below G9.out).below ((Below.refl _ w9).alloc (Nat.le_refl _) (.cells #[.int .i64 u0, .int .u64 (u1 : Nat), .string u2] 39))
  have m9 := CB.new w9 39 #[.int .i64 u0, .int .u64 (u1 : Nat), .string u2]
  have qz := n9.at_ 1
  have qu := m9.at_ 1
  simp only [List.getElem?_toArray, List.getElem?_cons_zero, List.getElem?_cons_succ] at qz qu
  have hs7 : w7.heap.size < (w7.alloc (.cells #[.int .i64 z0, .int .u64 (z1 : Nat), .string z2] 39)).heap.size := by simp
  have hne : w7.heap.size ≠ w9.heap.size := by
    have := G8.out.size
    have := G9.out.size
    omega
  have B9 := Lib.hid B9
  clear n9 m9 hs7 F G7 G8 G9
  have hv1 := sum_one (xn := true) (x := x) (yn := true) (y := y) HX HY rfl
  have hv2 := sum_two (xn := true) (x := x) (yn := true) (y := y) HX HY rfl
  rw [← HS.out, He1.out.2.2.2, He1.out.2.1] at hv1
  rw [← HS.out, He2.out.2.2.2, He2.out.2.1] at hv2
  simp only [sideV, if_true] at hv1 hv2
  clear He1 He2 HS HX HY pL qL
  by_cases hc0 : x = 0 ∧ y = 0
  case pos =>
    have hXx := hX.out
    have hYy := hY.out
    obtain ⟨S, hS⟩ : ∃ S : Int, S = 0 := ⟨_, rfl⟩
    have hw : IntKind.u64.wrap (X + Y) = S := by show (X + Y) % 18446744073709551616 = _; omega
    have pX : ¬ (0 : Int) < X := by omega
    have pXd : decide ((0 : Int) < X) = false := by rw [decide_eq_false_iff_not]; omega
    have pY : ¬ (0 : Int) < Y := by omega
    have pYd : decide ((0 : Int) < Y) = false := by rw [decide_eq_false_iff_not]; omega
    have t1 : X ≤ S := by omega
    have t2 : S < 9223372036854775808 := by omega
    have ke1 : e1 = 0 := by omega
    have ce1 : ((e1 : Int) == 0) = true := by rw [beq_iff_eq]; omega
    have de1 : ((e1 : Int) != 0) = false := by rw [bne_eq_false_iff_eq]; omega
    have fe1 : ((e1 : Int) == 111) = false := by rw [beq_eq_false_iff_ne]; omega
    clear ke1
    have ke2 : e2 = 0 := by omega
    have ce2 : ((e2 : Int) == 0) = true := by rw [beq_iff_eq]; omega
    have de2 : ((e2 : Int) != 0) = false := by rw [bne_eq_false_iff_eq]; omega
    have fe2 : ((e2 : Int) == 111) = false := by rw [beq_eq_false_iff_ne]; omega
    clear ke2
    have hu : ((u1 : Int) == S) = true := by rw [beq_iff_eq]; omega
    have hz : ((z1 : Int) == S) = true := by rw [beq_iff_eq]; omega
    clear hv1 hv2 hS hXx hYy hX hY hbx hzx hby hzy hc0
    go_wp2
    all_goals go_ret
    all_goals exact ⟨rfl, B9.out⟩
  by_cases hc1 : x = 0
  case pos =>
    have hXx := hX.out
    have hYy := hY.out
    obtain ⟨S, hS⟩ : ∃ S : Int, S = X + Y := ⟨_, rfl⟩
    have hw : IntKind.u64.wrap (X + Y) = S := by show (X + Y) % 18446744073709551616 = _; omega
    have pX : ¬ (0 : Int) < X := by omega
    have pXd : decide ((0 : Int) < X) = false := by rw [decide_eq_false_iff_not]; omega
    have pY : (0 : Int) < Y := by omega
    have t1 : X ≤ S := by omega
    have t3 : S ≤ 9223372036854775808 := by omega
    have ke1 : e1 = 111 := by omega
    have ce1 : ((e1 : Int) == 0) = false := by rw [beq_eq_false_iff_ne]; omega
    have de1 : ((e1 : Int) != 0) = true := by rw [bne_iff_ne]; omega
    have fe1 : ((e1 : Int) == 111) = true := by rw [beq_iff_eq]; omega
    clear ke1
    have ke2 : e2 = 0 := by omega
    have ce2 : ((e2 : Int) == 0) = true := by rw [beq_iff_eq]; omega
    have de2 : ((e2 : Int) != 0) = false := by rw [bne_eq_false_iff_eq]; omega
    have fe2 : ((e2 : Int) == 111) = false := by rw [beq_eq_false_iff_ne]; omega
    clear ke2
    have hu : IntKind.u64.wrap (0 - S) = (u1 : Int) := by show (0 - S) % 18446744073709551616 = _; omega
    have hu2 : IntKind.u64.wrap (-S) = (u1 : Int) := by show (-S) % 18446744073709551616 = _; omega
    clear hv1 hv2 hS hXx hYy hX hY hbx hzx hby hzy hc0 hc1
    go_wp2
    all_goals go_ret
    all_goals exact ⟨rfl, B9.out⟩
  by_cases hc2 : x + y ≤ 9223372036854775808
  case pos =>
    have hXx := hX.out
    have hYy := hY.out
    obtain ⟨S, hS⟩ : ∃ S : Int, S = X + Y := ⟨_, rfl⟩
    have hw : IntKind.u64.wrap (X + Y) = S := by show (X + Y) % 18446744073709551616 = _; omega
    have pX : (0 : Int) < X := by omega
    have t1 : X ≤ S := by omega
    have t3 : S ≤ 9223372036854775808 := by omega
    have ke1 : e1 = 111 := by omega
    have ce1 : ((e1 : Int) == 0) = false := by rw [beq_eq_false_iff_ne]; omega
    have de1 : ((e1 : Int) != 0) = true := by rw [bne_iff_ne]; omega
    have fe1 : ((e1 : Int) == 111) = true := by rw [beq_iff_eq]; omega
    clear ke1
    have ke2 : e2 = 0 := by omega
    have ce2 : ((e2 : Int) == 0) = true := by rw [beq_iff_eq]; omega
    have de2 : ((e2 : Int) != 0) = false := by rw [bne_eq_false_iff_eq]; omega
    have fe2 : ((e2 : Int) == 111) = false := by rw [beq_eq_false_iff_ne]; omega
    clear ke2
    have hu : IntKind.u64.wrap (0 - S) = (u1 : Int) := by show (0 - S) % 18446744073709551616 = _; omega
    have hu2 : IntKind.u64.wrap (-S) = (u1 : Int) := by show (-S) % 18446744073709551616 = _; omega
    clear hv1 hv2 hS hXx hYy hX hY hbx hzx hby hzy hc0 hc1 hc2
    go_wp2
    all_goals go_ret
    all_goals exact ⟨rfl, B9.out⟩
  by_cases hc3 : x + y < 18446744073709551616
  case pos =>
    have hXx := hX.out
    have hYy := hY.out
    obtain ⟨S, hS⟩ : ∃ S : Int, S = X + Y := ⟨_, rfl⟩
    have hw : IntKind.u64.wrap (X + Y) = S := by show (X + Y) % 18446744073709551616 = _; omega
    have pX : (0 : Int) < X := by omega
    have t1 : X ≤ S := by omega
    have t3 : ¬ S ≤ 9223372036854775808 := by omega
    have t3d : decide (S ≤ 9223372036854775808) = false := by rw [decide_eq_false_iff_not]; omega
    have ke1 : e1 = 111 := by omega
    have ce1 : ((e1 : Int) == 0) = false := by rw [beq_eq_false_iff_ne]; omega
    have de1 : ((e1 : Int) != 0) = true := by rw [bne_iff_ne]; omega
    have fe1 : ((e1 : Int) == 111) = true := by rw [beq_iff_eq]; omega
    clear ke1
    have ke2 : e2 = 111 := by omega
    have ce2 : ((e2 : Int) == 0) = false := by rw [beq_eq_false_iff_ne]; omega
    have de2 : ((e2 : Int) != 0) = true := by rw [bne_iff_ne]; omega
    have fe2 : ((e2 : Int) == 111) = true := by rw [beq_iff_eq]; omega
    clear ke2
    clear hv1 hv2 hS hXx hYy hX hY hbx hzx hby hzy hc0 hc1 hc2 hc3
    go_wp2
    all_goals go_ret
    all_goals exact ⟨rfl, B9.out⟩
  have hXx := hX.out
  have hYy := hY.out
  obtain ⟨S, hS⟩ : ∃ S : Int, S = 0 := ⟨_, rfl⟩
  have hw : IntKind.u64.wrap (X + Y) = S := by show (X + Y) % 18446744073709551616 = _; omega
  have pX : (0 : Int) < X := by omega
  have t1 : ¬ X ≤ S := by omega
  have t1d : decide (X ≤ S) = false := by rw [decide_eq_false_iff_not]; omega
  have ke1 : e1 = 111 := by omega
  have ce1 : ((e1 : Int) == 0) = false := by rw [beq_eq_false_iff_ne]; omega
  have de1 : ((e1 : Int) != 0) = true := by rw [bne_iff_ne]; omega
  have fe1 : ((e1 : Int) == 111) = true := by rw [beq_iff_eq]; omega
  clear ke1
  have ke2 : e2 = 111 := by omega
  have ce2 : ((e2 : Int) == 0) = false := by rw [beq_eq_false_iff_ne]; omega
  have de2 : ((e2 : Int) != 0) = true := by rw [bne_iff_ne]; omega
  have fe2 : ((e2 : Int) == 111) = true := by rw [beq_iff_eq]; omega
  clear ke2
  clear hv1 hv2 hS hXx hYy hX hY hbx hzx hby hzy hc0 hc1 hc2 hc3
  go_wp2
  all_goals go_ret
  all_goals exact ⟨rfl, B9.out⟩

theorem numbers_any {w : World} (hK : KSt w w) (X Y : Int) (xn yn : Bool) (hX : 0 ≤ X ∧ X ≤ 18446744073709551615) (hY : 0 ≤ Y ∧ Y ≤ 18446744073709551615) :
    Calls Tryd.prog 7 #[.int .u64 X, .bool xn, .int .u64 Y, .bool yn] w fun e w' => e = .returned (.bool true) ∧ Below w.heap.size w w' := by
  have qx : Hid (X = (X.toNat : Int)) := by show X = _; omega
  have qy : Hid (Y = (Y.toNat : Int)) := by show Y = _; omega
  have hx : X.toNat < 18446744073709551616 := by omega
  have hy : Y.toNat < 18446744073709551616 := by omega
  cases xn <;> cases yn
  · exact numbers_ff hK qx qy hx hy
  · exact numbers_ft hK qx qy hx hy
  · exact numbers_tf hK qx qy hx hy
  · exact numbers_tt hK qx qy hx hy
end Go.Proofs.YtpgljmkemmikhaaDoor
