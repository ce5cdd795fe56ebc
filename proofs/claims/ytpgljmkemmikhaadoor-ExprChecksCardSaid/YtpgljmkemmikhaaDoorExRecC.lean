/- The walk of the code: the reckoning, differences and products. -/
import Derived.Test.YtpgljmkemmikhaaDoorExRecM
namespace Go.Proofs.YtpgljmkemmikhaaDoor
open Go.RowKit

set_option maxRecDepth 100000 in
set_option maxHeartbeats 8000000 in
theorem reckon7_any {w : World} {x f d : Nat} {A : Option Addr} {c : Nat} {N : List Rn} {F D : List Nat} {r : Nat} {y : Rn} (hE : Ex w x f d A c N F D) (hy : N[r]? = some y) (ho : y.op = 7) (EE : Ending) (z1 z2 : Res) (hEE : comb2 r (arF (· - ·)) z1 z2 = EE) (hz1 : ∀ t, z1 = .ok t → t.Ok) (hz2 : ∀ t, z2 = .ok t → t.Ok) (hc : ∀ W, Ex W x f d A c N F D → Calls Tryd.prog 62 #[.agg #[.pointer (some ⟨x, 0, none⟩), .int .i64 (r : Nat)]] W fun e w' => e = endTwo z1 z2 ∧ Below W.heap.size W w') :
    Calls Tryd.prog 40 #[.agg #[.pointer (some ⟨x, 0, none⟩), .int .i64 (r : Nat)]] w fun e w' => e = EE ∧ Below w.heap.size w w' := by
  obtain ⟨w2, hw2, b2, s2, k0, k1⟩ := sub_mean w x r
  have c0 : w2.cell? ⟨w.heap.size, 0, none⟩ = some (.pointer (some ⟨x, 0, none⟩)) := k0.at_ 0
  have c1 : w2.cell? ⟨w.heap.size, 1, none⟩ = some (.int .i64 (r : Nat)) := k0.at_ 1
  have hE2 := hE.below b2
  obtain ⟨nv, hnv⟩ : ∃ n, y.n = n := ⟨_, rfl⟩
  obtain ⟨mv, hmv⟩ : ∃ n, y.num = n := ⟨_, rfl⟩
  obtain ⟨S, hS⟩ : ∃ S, str y.t = S := ⟨_, rfl⟩
  obtain ⟨av, hav⟩ : ∃ n, y.a = n := ⟨_, rfl⟩
  have CN : Hid (Calls Tryd.prog 58 #[.agg #[.pointer (some ⟨x, 0, none⟩), .int .i64 (r : Nat)]] w2 fun e w3 => e = .returned (.agg #[.int .i64 7, .int .i64 nv, .int .u64 (mv : Nat), .string S, .int .i64 av]) ∧ Below w2.heap.size w2 w3) := by
    have := pnode_any hE2.xb hE2.rn (Nat.le_refl _) hy
    rw [ho, hnv, hmv, hS, hav] at this
    exact this
  have AX : Hid (∀ w3, Below w2.heap.size w2 w3 → ∃ w4, w3.alloc (.cells #[.int .i64 7, .int .i64 nv, .int .u64 (mv : Nat), .string S, .int .i64 av] 37) = w4 ∧ ∀ W, Below w4.heap.size w4 W → (W.cell? ⟨w.heap.size, 0, none⟩ = some (.pointer (some ⟨x, 0, none⟩)) ∧ W.cell? ⟨w.heap.size, 1, none⟩ = some (.int .i64 (r : Nat))) ∧
      (W.cell? ⟨w3.heap.size, 0, none⟩ = some (.int .i64 7) ∧ W.cell? ⟨w3.heap.size, 2, none⟩ = some (.int .u64 (mv : Nat)) ∧ W.cell? ⟨w3.heap.size, 3, none⟩ = some (.string S)) ∧
      CB W (w.heap.size + 1) 75 #[.int .i64 0, .bool false, .int .u64 0, .string ⟨#[]⟩] ∧ Below w.heap.size w W) := fun w3 hb => after_node k0 k1 b2 hb
  clear k0 k1
  have CC : Hid (∀ W, Below w.heap.size w W → Calls Tryd.prog 62 #[.agg #[.pointer (some ⟨x, 0, none⟩), .int .i64 (r : Nat)]] W fun e w' => e = endTwo z1 z2 ∧ Below W.heap.size W w') := fun W hW => hc W (hE.below hW)
  clear hc
  have FLT : ∀ za ze, endTwo z1 z2 = .panicked [faultV za ze] → .panicked [faultV za ze] = EE → Calls Tryd.prog 40 #[.agg #[.pointer (some ⟨x, 0, none⟩), .int .i64 (r : Nat)]] w fun e w' => e = EE ∧ Below w.heap.size w w' := by
    intro za ze g1 g2
    rw [g1] at CC
    have HE9 := Lib.hid g2
    clear hE hE2 hy ho hnv hmv hS hav hEE hz1 hz2 g1 g2
    go_enter Tryd.func40, Tryd.ntmps40
    go_wp2_with (first
      | (go_at_call 58; refine CN.out.mono ?_; rintro e w3 ⟨rfl, hb3⟩; obtain ⟨w4, hw4, FX⟩ := AX.out w3 hb3; have FX := Lib.hid FX; obtain ⟨⟨p0, p1⟩, ⟨q0, q2, q3⟩, h4, hz4⟩ := FX.out w4 (Below.refl _ _))
      | (go_at_call 62; refine (CC.out w4 hz4).mono ?_; rintro e w5 ⟨rfl, hb5⟩; obtain ⟨_, _, _, hz⟩ := FX.out w5 hb5)
      | fail)
    exact ⟨rfl, HE9.out, hz⟩
  cases z1 with
  | error z => exact FLT z.1 z.2 rfl hEE
  | ok a =>
  cases z2 with
  | error z => exact FLT z.1 z.2 rfl hEE
  | ok b =>
  clear FLT
  have hokA := hz1 a rfl
  have hokB := hz2 b rfl
  obtain ⟨so1, bl1, nn1, S1, e1⟩ := thC_four a
  obtain ⟨so2, bl2, nn2, S2, e2⟩ := thC_four b
  have he : endTwo (.ok a) (.ok b) = .returned (.tuple #[.agg #[.int .i64 so1, .bool bl1, .int .u64 (nn1 : Nat), .string S1], .agg #[.int .i64 so2, .bool bl2, .int .u64 (nn2 : Nat), .string S2]]) := by rw [← e1, ← e2]; rfl
  rw [he] at CC
  have CA : Hid (∀ W, Calls Tryd.prog 63 #[.agg #[.pointer (some ⟨x, 0, none⟩), .int .i64 (r : Nat)], .agg #[.int .i64 so1, .bool bl1, .int .u64 (nn1 : Nat), .string S1], .agg #[.int .i64 so2, .bool bl2, .int .u64 (nn2 : Nat), .string S2], .func (.func 64) #[] #[]] W fun e w' => e = endO r (arF (· - ·) a b) ∧ Below W.heap.size W w') := fun W => by
    have := arith_any W x r 64 (· - ·) (enters_of Tryd.func64 (by kernel_rfl) rfl) difference_any a b hokA hokB
    rw [e1, e2] at this
    exact this
  have hEE : endO r (arF (· - ·) a b) = EE := hEE
  obtain ⟨R, hR⟩ : ∃ R, arF (· - ·) a b = R := ⟨_, rfl⟩
  rw [hR] at CA hEE
  -- both kids' things in their blocks
  have TX : Hid (∀ w4 w5, Below w4.heap.size w4 w5 → ∃ w6, (w5.alloc (.cells #[.int .i64 so1, .bool bl1, .int .u64 (nn1 : Nat), .string S1] 75)).alloc (.cells #[.int .i64 so2, .bool bl2, .int .u64 (nn2 : Nat), .string S2] 75) = w6 ∧ Below w4.heap.size w4 w6 ∧
      (w6.cell? ⟨w5.heap.size, 0, none⟩ = some (.int .i64 so1) ∧ w6.cell? ⟨w5.heap.size, 1, none⟩ = some (.bool bl1) ∧ w6.cell? ⟨w5.heap.size, 2, none⟩ = some (.int .u64 (nn1 : Nat)) ∧ w6.cell? ⟨w5.heap.size, 3, none⟩ = some (.string S1)) ∧
      (w6.cell? ⟨w5.heap.size + 1, 0, none⟩ = some (.int .i64 so2) ∧ w6.cell? ⟨w5.heap.size + 1, 1, none⟩ = some (.bool bl2) ∧ w6.cell? ⟨w5.heap.size + 1, 2, none⟩ = some (.int .u64 (nn2 : Nat)) ∧ w6.cell? ⟨w5.heap.size + 1, 3, none⟩ = some (.string S2))) := fun w4 w5 hb => by
    have hb1 : Below w5.heap.size w5 (w5.alloc (.cells #[.int .i64 so1, .bool bl1, .int .u64 (nn1 : Nat), .string S1] 75)) := (Below.refl _ w5).alloc (Nat.le_refl _) _
    have q1 := CB.new w5 75 #[.int .i64 so1, .bool bl1, .int .u64 (nn1 : Nat), .string S1]
    obtain ⟨v5, hv5⟩ : ∃ v5, v5 = w5.alloc (.cells #[.int .i64 so1, .bool bl1, .int .u64 (nn1 : Nat), .string S1] 75) := ⟨_, rfl⟩
    rw [← hv5] at hb1 q1 ⊢
    have s5 : v5.heap.size = w5.heap.size + 1 := by rw [hv5]; simp
    have hb2 : Below v5.heap.size v5 (v5.alloc (.cells #[.int .i64 so2, .bool bl2, .int .u64 (nn2 : Nat), .string S2] 75)) := (Below.refl _ v5).alloc (Nat.le_refl _) _
    have q2 := CB.new v5 75 #[.int .i64 so2, .bool bl2, .int .u64 (nn2 : Nat), .string S2]
    rw [s5] at q2
    have q3 := q1.below hb2
    exact ⟨_, rfl, Below.both hb (Below.both hb1 hb2), ⟨q3.at_ 0, q3.at_ 1, q3.at_ 2, q3.at_ 3⟩, ⟨q2.at_ 0, q2.at_ 1, q2.at_ 2, q2.at_ 3⟩⟩
  clear hE hE2 hy ho hnv hmv hS hav hz1 hz2 hokA hokB e1 e2 he hR
  cases R with
  | error ze =>
    have he : endO r (.error ze) = .panicked [faultV r ze] := rfl
    rw [he] at CA hEE
    have HE9 := Lib.hid hEE
    clear he hEE
    go_enter Tryd.func40, Tryd.ntmps40
    go_wp2_with (first
      | (go_at_call 58; refine CN.out.mono ?_; rintro e w3 ⟨rfl, hb3⟩; obtain ⟨w4, hw4, FX⟩ := AX.out w3 hb3; have FX := Lib.hid FX; obtain ⟨⟨p0, p1⟩, ⟨q0, q2, q3⟩, h4, hz4⟩ := FX.out w4 (Below.refl _ _))
      | (go_at_call 62; refine (CC.out w4 hz4).mono ?_; rintro e w5 ⟨rfl, hb5⟩; obtain ⟨w6, hw6, hb6, ⟨l0, l1, l2, l3⟩, ⟨m0, m1, m2, m3⟩⟩ := TX.out w4 w5 hb5; clear p0 p1 q0 q2 q3; obtain ⟨⟨p0, p1⟩, _, _, _⟩ := FX.out w6 hb6)
      | (go_at_call 63; refine (CA.out w6).mono ?_; rintro e w7 ⟨rfl, hb7⟩; obtain ⟨_, _, _, hz⟩ := FX.out w7 (Below.both hb6 hb7))
      | fail)
    exact ⟨rfl, HE9.out, hz⟩
  | ok t =>
    obtain ⟨so9, bl9, nn9, S9, hth⟩ := thC_four t
    have he : endO r (.ok t) = .returned (.agg #[.int .i64 so9, .bool bl9, .int .u64 (nn9 : Nat), .string S9]) := by rw [← hth]; rfl
    rw [he] at CA hEE
    have HE9 := Lib.hid hEE
    clear he hEE hth
    go_enter Tryd.func40, Tryd.ntmps40
    go_wp2_with (first
      | (go_at_call 58; refine CN.out.mono ?_; rintro e w3 ⟨rfl, hb3⟩; obtain ⟨w4, hw4, FX⟩ := AX.out w3 hb3; have FX := Lib.hid FX; obtain ⟨⟨p0, p1⟩, ⟨q0, q2, q3⟩, h4, hz4⟩ := FX.out w4 (Below.refl _ _))
      | (go_at_call 62; refine (CC.out w4 hz4).mono ?_; rintro e w5 ⟨rfl, hb5⟩; obtain ⟨w6, hw6, hb6, ⟨l0, l1, l2, l3⟩, ⟨m0, m1, m2, m3⟩⟩ := TX.out w4 w5 hb5; clear p0 p1 q0 q2 q3; obtain ⟨⟨p0, p1⟩, _, _, _⟩ := FX.out w6 hb6)
      | (go_at_call 63; refine (CA.out w6).mono ?_; rintro e w7 ⟨rfl, hb7⟩; obtain ⟨_, _, h9, hz⟩ := FX.out w7 (Below.both hb6 hb7))
      | (refine wpList_store_cb rfl 75 (.tmp 2) (.tmp 51) rfl (w.heap.size + 1) _ #[.int .i64 so9, .bool bl9, .int .u64 (nn9 : Nat), .string S9] rfl rfl h9 rfl (by kernel_rfl) (by kernel_rfl) ?_; intro w9 k9 t9)
      | fail)
    exact bodyPost_ret (results_cb rfl _ _ _ _ rfl k9 Tryd.underlying75 rfl (by kernel_rfl)) rfl ⟨HE9.out, hz.trans (t9.below (by omega))⟩
set_option maxRecDepth 100000 in
set_option maxHeartbeats 8000000 in
theorem reckon8_any {w : World} {x f d : Nat} {A : Option Addr} {c : Nat} {N : List Rn} {F D : List Nat} {r : Nat} {y : Rn} (hE : Ex w x f d A c N F D) (hy : N[r]? = some y) (ho : y.op = 8) (EE : Ending) (z1 z2 : Res) (hEE : comb2 r (arF (· * ·)) z1 z2 = EE) (hz1 : ∀ t, z1 = .ok t → t.Ok) (hz2 : ∀ t, z2 = .ok t → t.Ok) (hc : ∀ W, Ex W x f d A c N F D → Calls Tryd.prog 62 #[.agg #[.pointer (some ⟨x, 0, none⟩), .int .i64 (r : Nat)]] W fun e w' => e = endTwo z1 z2 ∧ Below W.heap.size W w') :
    Calls Tryd.prog 40 #[.agg #[.pointer (some ⟨x, 0, none⟩), .int .i64 (r : Nat)]] w fun e w' => e = EE ∧ Below w.heap.size w w' := by
  obtain ⟨w2, hw2, b2, s2, k0, k1⟩ := sub_mean w x r
  have c0 : w2.cell? ⟨w.heap.size, 0, none⟩ = some (.pointer (some ⟨x, 0, none⟩)) := k0.at_ 0
  have c1 : w2.cell? ⟨w.heap.size, 1, none⟩ = some (.int .i64 (r : Nat)) := k0.at_ 1
  have hE2 := hE.below b2
  obtain ⟨nv, hnv⟩ : ∃ n, y.n = n := ⟨_, rfl⟩
  obtain ⟨mv, hmv⟩ : ∃ n, y.num = n := ⟨_, rfl⟩
  obtain ⟨S, hS⟩ : ∃ S, str y.t = S := ⟨_, rfl⟩
  obtain ⟨av, hav⟩ : ∃ n, y.a = n := ⟨_, rfl⟩
  have CN : Hid (Calls Tryd.prog 58 #[.agg #[.pointer (some ⟨x, 0, none⟩), .int .i64 (r : Nat)]] w2 fun e w3 => e = .returned (.agg #[.int .i64 8, .int .i64 nv, .int .u64 (mv : Nat), .string S, .int .i64 av]) ∧ Below w2.heap.size w2 w3) := by
    have := pnode_any hE2.xb hE2.rn (Nat.le_refl _) hy
    rw [ho, hnv, hmv, hS, hav] at this
    exact this
  have AX : Hid (∀ w3, Below w2.heap.size w2 w3 → ∃ w4, w3.alloc (.cells #[.int .i64 8, .int .i64 nv, .int .u64 (mv : Nat), .string S, .int .i64 av] 37) = w4 ∧ ∀ W, Below w4.heap.size w4 W → (W.cell? ⟨w.heap.size, 0, none⟩ = some (.pointer (some ⟨x, 0, none⟩)) ∧ W.cell? ⟨w.heap.size, 1, none⟩ = some (.int .i64 (r : Nat))) ∧
      (W.cell? ⟨w3.heap.size, 0, none⟩ = some (.int .i64 8) ∧ W.cell? ⟨w3.heap.size, 2, none⟩ = some (.int .u64 (mv : Nat)) ∧ W.cell? ⟨w3.heap.size, 3, none⟩ = some (.string S)) ∧
      CB W (w.heap.size + 1) 75 #[.int .i64 0, .bool false, .int .u64 0, .string ⟨#[]⟩] ∧ Below w.heap.size w W) := fun w3 hb => after_node k0 k1 b2 hb
  clear k0 k1
  have CC : Hid (∀ W, Below w.heap.size w W → Calls Tryd.prog 62 #[.agg #[.pointer (some ⟨x, 0, none⟩), .int .i64 (r : Nat)]] W fun e w' => e = endTwo z1 z2 ∧ Below W.heap.size W w') := fun W hW => hc W (hE.below hW)
  clear hc
  have FLT : ∀ za ze, endTwo z1 z2 = .panicked [faultV za ze] → .panicked [faultV za ze] = EE → Calls Tryd.prog 40 #[.agg #[.pointer (some ⟨x, 0, none⟩), .int .i64 (r : Nat)]] w fun e w' => e = EE ∧ Below w.heap.size w w' := by
    intro za ze g1 g2
    rw [g1] at CC
    have HE9 := Lib.hid g2
    clear hE hE2 hy ho hnv hmv hS hav hEE hz1 hz2 g1 g2
    go_enter Tryd.func40, Tryd.ntmps40
    go_wp2_with (first
      | (go_at_call 58; refine CN.out.mono ?_; rintro e w3 ⟨rfl, hb3⟩; obtain ⟨w4, hw4, FX⟩ := AX.out w3 hb3; have FX := Lib.hid FX; obtain ⟨⟨p0, p1⟩, ⟨q0, q2, q3⟩, h4, hz4⟩ := FX.out w4 (Below.refl _ _))
      | (go_at_call 62; refine (CC.out w4 hz4).mono ?_; rintro e w5 ⟨rfl, hb5⟩; obtain ⟨_, _, _, hz⟩ := FX.out w5 hb5)
      | fail)
    exact ⟨rfl, HE9.out, hz⟩
  cases z1 with
  | error z => exact FLT z.1 z.2 rfl hEE
  | ok a =>
  cases z2 with
  | error z => exact FLT z.1 z.2 rfl hEE
  | ok b =>
  clear FLT
  have hokA := hz1 a rfl
  have hokB := hz2 b rfl
  obtain ⟨so1, bl1, nn1, S1, e1⟩ := thC_four a
  obtain ⟨so2, bl2, nn2, S2, e2⟩ := thC_four b
  have he : endTwo (.ok a) (.ok b) = .returned (.tuple #[.agg #[.int .i64 so1, .bool bl1, .int .u64 (nn1 : Nat), .string S1], .agg #[.int .i64 so2, .bool bl2, .int .u64 (nn2 : Nat), .string S2]]) := by rw [← e1, ← e2]; rfl
  rw [he] at CC
  have CA : Hid (∀ W, Calls Tryd.prog 63 #[.agg #[.pointer (some ⟨x, 0, none⟩), .int .i64 (r : Nat)], .agg #[.int .i64 so1, .bool bl1, .int .u64 (nn1 : Nat), .string S1], .agg #[.int .i64 so2, .bool bl2, .int .u64 (nn2 : Nat), .string S2], .func (.func 65) #[] #[]] W fun e w' => e = endO r (arF (· * ·) a b) ∧ Below W.heap.size W w') := fun W => by
    have := arith_any W x r 65 (· * ·) (enters_of Tryd.func65 (by kernel_rfl) rfl) product_any a b hokA hokB
    rw [e1, e2] at this
    exact this
  have hEE : endO r (arF (· * ·) a b) = EE := hEE
  obtain ⟨R, hR⟩ : ∃ R, arF (· * ·) a b = R := ⟨_, rfl⟩
  rw [hR] at CA hEE
  -- both kids' things in their blocks
  have TX : Hid (∀ w4 w5, Below w4.heap.size w4 w5 → ∃ w6, (w5.alloc (.cells #[.int .i64 so1, .bool bl1, .int .u64 (nn1 : Nat), .string S1] 75)).alloc (.cells #[.int .i64 so2, .bool bl2, .int .u64 (nn2 : Nat), .string S2] 75) = w6 ∧ Below w4.heap.size w4 w6 ∧
      (w6.cell? ⟨w5.heap.size, 0, none⟩ = some (.int .i64 so1) ∧ w6.cell? ⟨w5.heap.size, 1, none⟩ = some (.bool bl1) ∧ w6.cell? ⟨w5.heap.size, 2, none⟩ = some (.int .u64 (nn1 : Nat)) ∧ w6.cell? ⟨w5.heap.size, 3, none⟩ = some (.string S1)) ∧
      (w6.cell? ⟨w5.heap.size + 1, 0, none⟩ = some (.int .i64 so2) ∧ w6.cell? ⟨w5.heap.size + 1, 1, none⟩ = some (.bool bl2) ∧ w6.cell? ⟨w5.heap.size + 1, 2, none⟩ = some (.int .u64 (nn2 : Nat)) ∧ w6.cell? ⟨w5.heap.size + 1, 3, none⟩ = some (.string S2))) := fun w4 w5 hb => by
    have hb1 : Below w5.heap.size w5 (w5.alloc (.cells #[.int .i64 so1, .bool bl1, .int .u64 (nn1 : Nat), .string S1] 75)) := (Below.refl _ w5).alloc (Nat.le_refl _) _
    have q1 := CB.new w5 75 #[.int .i64 so1, .bool bl1, .int .u64 (nn1 : Nat), .string S1]
    obtain ⟨v5, hv5⟩ : ∃ v5, v5 = w5.alloc (.cells #[.int .i64 so1, .bool bl1, .int .u64 (nn1 : Nat), .string S1] 75) := ⟨_, rfl⟩
    rw [← hv5] at hb1 q1 ⊢
    have s5 : v5.heap.size = w5.heap.size + 1 := by rw [hv5]; simp
    have hb2 : Below v5.heap.size v5 (v5.alloc (.cells #[.int .i64 so2, .bool bl2, .int .u64 (nn2 : Nat), .string S2] 75)) := (Below.refl _ v5).alloc (Nat.le_refl _) _
    have q2 := CB.new v5 75 #[.int .i64 so2, .bool bl2, .int .u64 (nn2 : Nat), .string S2]
    rw [s5] at q2
    have q3 := q1.below hb2
    exact ⟨_, rfl, Below.both hb (Below.both hb1 hb2), ⟨q3.at_ 0, q3.at_ 1, q3.at_ 2, q3.at_ 3⟩, ⟨q2.at_ 0, q2.at_ 1, q2.at_ 2, q2.at_ 3⟩⟩
  clear hE hE2 hy ho hnv hmv hS hav hz1 hz2 hokA hokB e1 e2 he hR
  cases R with
  | error ze =>
    have he : endO r (.error ze) = .panicked [faultV r ze] := rfl
    rw [he] at CA hEE
    have HE9 := Lib.hid hEE
    clear he hEE
    go_enter Tryd.func40, Tryd.ntmps40
    go_wp2_with (first
      | (go_at_call 58; refine CN.out.mono ?_; rintro e w3 ⟨rfl, hb3⟩; obtain ⟨w4, hw4, FX⟩ := AX.out w3 hb3; have FX := Lib.hid FX; obtain ⟨⟨p0, p1⟩, ⟨q0, q2, q3⟩, h4, hz4⟩ := FX.out w4 (Below.refl _ _))
      | (go_at_call 62; refine (CC.out w4 hz4).mono ?_; rintro e w5 ⟨rfl, hb5⟩; obtain ⟨w6, hw6, hb6, ⟨l0, l1, l2, l3⟩, ⟨m0, m1, m2, m3⟩⟩ := TX.out w4 w5 hb5; clear p0 p1 q0 q2 q3; obtain ⟨⟨p0, p1⟩, _, _, _⟩ := FX.out w6 hb6)
      | (go_at_call 63; refine (CA.out w6).mono ?_; rintro e w7 ⟨rfl, hb7⟩; obtain ⟨_, _, _, hz⟩ := FX.out w7 (Below.both hb6 hb7))
      | fail)
    exact ⟨rfl, HE9.out, hz⟩
  | ok t =>
    obtain ⟨so9, bl9, nn9, S9, hth⟩ := thC_four t
    have he : endO r (.ok t) = .returned (.agg #[.int .i64 so9, .bool bl9, .int .u64 (nn9 : Nat), .string S9]) := by rw [← hth]; rfl
    rw [he] at CA hEE
    have HE9 := Lib.hid hEE
    clear he hEE hth
    go_enter Tryd.func40, Tryd.ntmps40
    go_wp2_with (first
      | (go_at_call 58; refine CN.out.mono ?_; rintro e w3 ⟨rfl, hb3⟩; obtain ⟨w4, hw4, FX⟩ := AX.out w3 hb3; have FX := Lib.hid FX; obtain ⟨⟨p0, p1⟩, ⟨q0, q2, q3⟩, h4, hz4⟩ := FX.out w4 (Below.refl _ _))
      | (go_at_call 62; refine (CC.out w4 hz4).mono ?_; rintro e w5 ⟨rfl, hb5⟩; obtain ⟨w6, hw6, hb6, ⟨l0, l1, l2, l3⟩, ⟨m0, m1, m2, m3⟩⟩ := TX.out w4 w5 hb5; clear p0 p1 q0 q2 q3; obtain ⟨⟨p0, p1⟩, _, _, _⟩ := FX.out w6 hb6)
      | (go_at_call 63; refine (CA.out w6).mono ?_; rintro e w7 ⟨rfl, hb7⟩; obtain ⟨_, _, h9, hz⟩ := FX.out w7 (Below.both hb6 hb7))
      | (refine wpList_store_cb rfl 75 (.tmp 2) (.tmp 62) rfl (w.heap.size + 1) _ #[.int .i64 so9, .bool bl9, .int .u64 (nn9 : Nat), .string S9] rfl rfl h9 rfl (by kernel_rfl) (by kernel_rfl) ?_; intro w9 k9 t9)
      | fail)
    exact bodyPost_ret (results_cb rfl _ _ _ _ rfl k9 Tryd.underlying75 rfl (by kernel_rfl)) rfl ⟨HE9.out, hz.trans (t9.below (by omega))⟩
end Go.Proofs.YtpgljmkemmikhaaDoor
