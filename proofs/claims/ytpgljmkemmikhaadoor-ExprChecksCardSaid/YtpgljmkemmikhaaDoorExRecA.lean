/- The walk of the code: the reckoning, leaves. -/
import Derived.Test.YtpgljmkemmikhaaDoorExRecM
namespace Go.Proofs.YtpgljmkemmikhaaDoor
open Go.RowKit

set_option maxRecDepth 100000 in
set_option maxHeartbeats 8000000 in
theorem reckon1_any {w : World} {x f d : Nat} {A : Option Addr} {c : Nat} {N : List Rn} {F D : List Nat} {r : Nat} {y : Rn} (hE : Ex w x f d A c N F D) (hy : N[r]? = some y) (ho : y.op = 1) (EE : Ending) (hEE : .returned (.agg #[.int .i64 1, .bool false, .int .u64 (y.num : Nat), .string ⟨#[]⟩]) = EE) :
    Calls Tryd.prog 40 #[.agg #[.pointer (some ⟨x, 0, none⟩), .int .i64 (r : Nat)]] w fun e w' => e = EE ∧ Below w.heap.size w w' := by
  obtain ⟨w2, hw2, b2, s2, k0, k1⟩ := sub_mean w x r
  have c0 : w2.cell? ⟨w.heap.size, 0, none⟩ = some (.pointer (some ⟨x, 0, none⟩)) := k0.at_ 0
  have c1 : w2.cell? ⟨w.heap.size, 1, none⟩ = some (.int .i64 (r : Nat)) := k0.at_ 1
  have hE2 := hE.below b2
  obtain ⟨nv, hnv⟩ : ∃ n, y.n = n := ⟨_, rfl⟩
  obtain ⟨mv, hmv⟩ : ∃ n, y.num = n := ⟨_, rfl⟩
  obtain ⟨S, hS⟩ : ∃ S, str y.t = S := ⟨_, rfl⟩
  obtain ⟨av, hav⟩ : ∃ n, y.a = n := ⟨_, rfl⟩
  have CN : Hid (Calls Tryd.prog 58 #[.agg #[.pointer (some ⟨x, 0, none⟩), .int .i64 (r : Nat)]] w2 fun e w3 => e = .returned (.agg #[.int .i64 1, .int .i64 nv, .int .u64 (mv : Nat), .string S, .int .i64 av]) ∧ Below w2.heap.size w2 w3) := by
    have := pnode_any hE2.xb hE2.rn (Nat.le_refl _) hy
    rw [ho, hnv, hmv, hS, hav] at this
    exact this
  have AX : Hid (∀ w3, Below w2.heap.size w2 w3 → ∃ w4, w3.alloc (.cells #[.int .i64 1, .int .i64 nv, .int .u64 (mv : Nat), .string S, .int .i64 av] 37) = w4 ∧ ∀ W, Below w4.heap.size w4 W → (W.cell? ⟨w.heap.size, 0, none⟩ = some (.pointer (some ⟨x, 0, none⟩)) ∧ W.cell? ⟨w.heap.size, 1, none⟩ = some (.int .i64 (r : Nat))) ∧
      (W.cell? ⟨w3.heap.size, 0, none⟩ = some (.int .i64 1) ∧ W.cell? ⟨w3.heap.size, 2, none⟩ = some (.int .u64 (mv : Nat)) ∧ W.cell? ⟨w3.heap.size, 3, none⟩ = some (.string S)) ∧
      CB W (w.heap.size + 1) 75 #[.int .i64 0, .bool false, .int .u64 0, .string ⟨#[]⟩] ∧ Below w.heap.size w W) := fun w3 hb => after_node k0 k1 b2 hb
  clear k0 k1
  rw [hmv] at hEE
  have HE9 := Lib.hid hEE
  clear hE hE2 hy ho hnv hmv hS hav hEE
  go_enter Tryd.func40, Tryd.ntmps40
  go_wp2_with (first
    | (go_at_call 58; refine CN.out.mono ?_; rintro e w3 ⟨rfl, hb3⟩; obtain ⟨w4, hw4, FX⟩ := AX.out w3 hb3; have FX := Lib.hid FX; obtain ⟨⟨p0, p1⟩, ⟨q0, q2, q3⟩, h4, hz4⟩ := FX.out w4 (Below.refl _ _))
    | (refine wpList_store_cb rfl 75 (.tmp 2) (.tmp 19) rfl (w.heap.size + 1) _ #[.int .i64 1, .bool false, .int .u64 (mv : Nat), .string ⟨#[]⟩] rfl rfl h4 rfl (by kernel_rfl) (by kernel_rfl) ?_; intro w9 k9 t9)
    | fail)
  exact bodyPost_ret (results_cb rfl _ _ _ _ rfl k9 Tryd.underlying75 rfl (by kernel_rfl)) rfl ⟨HE9.out, hz4.trans (t9.below (by omega))⟩
set_option maxRecDepth 100000 in
set_option maxHeartbeats 8000000 in
theorem reckon3_any {w : World} {x f d : Nat} {A : Option Addr} {c : Nat} {N : List Rn} {F D : List Nat} {r : Nat} {y : Rn} (hE : Ex w x f d A c N F D) (hy : N[r]? = some y) (ho : y.op = 3) (EE : Ending) (hEE : .returned (.agg #[.int .i64 3, .bool false, .int .u64 1, .string ⟨#[]⟩]) = EE) :
    Calls Tryd.prog 40 #[.agg #[.pointer (some ⟨x, 0, none⟩), .int .i64 (r : Nat)]] w fun e w' => e = EE ∧ Below w.heap.size w w' := by
  obtain ⟨w2, hw2, b2, s2, k0, k1⟩ := sub_mean w x r
  have c0 : w2.cell? ⟨w.heap.size, 0, none⟩ = some (.pointer (some ⟨x, 0, none⟩)) := k0.at_ 0
  have c1 : w2.cell? ⟨w.heap.size, 1, none⟩ = some (.int .i64 (r : Nat)) := k0.at_ 1
  have hE2 := hE.below b2
  obtain ⟨nv, hnv⟩ : ∃ n, y.n = n := ⟨_, rfl⟩
  obtain ⟨mv, hmv⟩ : ∃ n, y.num = n := ⟨_, rfl⟩
  obtain ⟨S, hS⟩ : ∃ S, str y.t = S := ⟨_, rfl⟩
  obtain ⟨av, hav⟩ : ∃ n, y.a = n := ⟨_, rfl⟩
  have CN : Hid (Calls Tryd.prog 58 #[.agg #[.pointer (some ⟨x, 0, none⟩), .int .i64 (r : Nat)]] w2 fun e w3 => e = .returned (.agg #[.int .i64 3, .int .i64 nv, .int .u64 (mv : Nat), .string S, .int .i64 av]) ∧ Below w2.heap.size w2 w3) := by
    have := pnode_any hE2.xb hE2.rn (Nat.le_refl _) hy
    rw [ho, hnv, hmv, hS, hav] at this
    exact this
  have AX : Hid (∀ w3, Below w2.heap.size w2 w3 → ∃ w4, w3.alloc (.cells #[.int .i64 3, .int .i64 nv, .int .u64 (mv : Nat), .string S, .int .i64 av] 37) = w4 ∧ ∀ W, Below w4.heap.size w4 W → (W.cell? ⟨w.heap.size, 0, none⟩ = some (.pointer (some ⟨x, 0, none⟩)) ∧ W.cell? ⟨w.heap.size, 1, none⟩ = some (.int .i64 (r : Nat))) ∧
      (W.cell? ⟨w3.heap.size, 0, none⟩ = some (.int .i64 3) ∧ W.cell? ⟨w3.heap.size, 2, none⟩ = some (.int .u64 (mv : Nat)) ∧ W.cell? ⟨w3.heap.size, 3, none⟩ = some (.string S)) ∧
      CB W (w.heap.size + 1) 75 #[.int .i64 0, .bool false, .int .u64 0, .string ⟨#[]⟩] ∧ Below w.heap.size w W) := fun w3 hb => after_node k0 k1 b2 hb
  clear k0 k1
  have HE9 := Lib.hid hEE
  clear hE hE2 hy ho hnv hmv hS hav hEE
  go_enter Tryd.func40, Tryd.ntmps40
  go_wp2_with (first
    | (go_at_call 58; refine CN.out.mono ?_; rintro e w3 ⟨rfl, hb3⟩; obtain ⟨w4, hw4, FX⟩ := AX.out w3 hb3; have FX := Lib.hid FX; obtain ⟨⟨p0, p1⟩, ⟨q0, q2, q3⟩, h4, hz4⟩ := FX.out w4 (Below.refl _ _))
    | (refine wpList_store_cb rfl 75 (.tmp 2) (.tmp 29) rfl (w.heap.size + 1) _ #[.int .i64 3, .bool false, .int .u64 1, .string ⟨#[]⟩] rfl rfl h4 rfl (by kernel_rfl) (by kernel_rfl) ?_; intro w9 k9 t9)
    | fail)
  exact bodyPost_ret (results_cb rfl _ _ _ _ rfl k9 Tryd.underlying75 rfl (by kernel_rfl)) rfl ⟨HE9.out, hz4.trans (t9.below (by omega))⟩
set_option maxRecDepth 100000 in
set_option maxHeartbeats 8000000 in
theorem reckon4_any {w : World} {x f d : Nat} {A : Option Addr} {c : Nat} {N : List Rn} {F D : List Nat} {r : Nat} {y : Rn} (hE : Ex w x f d A c N F D) (hy : N[r]? = some y) (ho : y.op = 4) (EE : Ending) (hEE : .returned (.agg #[.int .i64 3, .bool false, .int .u64 0, .string ⟨#[]⟩]) = EE) :
    Calls Tryd.prog 40 #[.agg #[.pointer (some ⟨x, 0, none⟩), .int .i64 (r : Nat)]] w fun e w' => e = EE ∧ Below w.heap.size w w' := by
  obtain ⟨w2, hw2, b2, s2, k0, k1⟩ := sub_mean w x r
  have c0 : w2.cell? ⟨w.heap.size, 0, none⟩ = some (.pointer (some ⟨x, 0, none⟩)) := k0.at_ 0
  have c1 : w2.cell? ⟨w.heap.size, 1, none⟩ = some (.int .i64 (r : Nat)) := k0.at_ 1
  have hE2 := hE.below b2
  obtain ⟨nv, hnv⟩ : ∃ n, y.n = n := ⟨_, rfl⟩
  obtain ⟨mv, hmv⟩ : ∃ n, y.num = n := ⟨_, rfl⟩
  obtain ⟨S, hS⟩ : ∃ S, str y.t = S := ⟨_, rfl⟩
  obtain ⟨av, hav⟩ : ∃ n, y.a = n := ⟨_, rfl⟩
  have CN : Hid (Calls Tryd.prog 58 #[.agg #[.pointer (some ⟨x, 0, none⟩), .int .i64 (r : Nat)]] w2 fun e w3 => e = .returned (.agg #[.int .i64 4, .int .i64 nv, .int .u64 (mv : Nat), .string S, .int .i64 av]) ∧ Below w2.heap.size w2 w3) := by
    have := pnode_any hE2.xb hE2.rn (Nat.le_refl _) hy
    rw [ho, hnv, hmv, hS, hav] at this
    exact this
  have AX : Hid (∀ w3, Below w2.heap.size w2 w3 → ∃ w4, w3.alloc (.cells #[.int .i64 4, .int .i64 nv, .int .u64 (mv : Nat), .string S, .int .i64 av] 37) = w4 ∧ ∀ W, Below w4.heap.size w4 W → (W.cell? ⟨w.heap.size, 0, none⟩ = some (.pointer (some ⟨x, 0, none⟩)) ∧ W.cell? ⟨w.heap.size, 1, none⟩ = some (.int .i64 (r : Nat))) ∧
      (W.cell? ⟨w3.heap.size, 0, none⟩ = some (.int .i64 4) ∧ W.cell? ⟨w3.heap.size, 2, none⟩ = some (.int .u64 (mv : Nat)) ∧ W.cell? ⟨w3.heap.size, 3, none⟩ = some (.string S)) ∧
      CB W (w.heap.size + 1) 75 #[.int .i64 0, .bool false, .int .u64 0, .string ⟨#[]⟩] ∧ Below w.heap.size w W) := fun w3 hb => after_node k0 k1 b2 hb
  clear k0 k1
  have HE9 := Lib.hid hEE
  clear hE hE2 hy ho hnv hmv hS hav hEE
  go_enter Tryd.func40, Tryd.ntmps40
  go_wp2_with (first
    | (go_at_call 58; refine CN.out.mono ?_; rintro e w3 ⟨rfl, hb3⟩; obtain ⟨w4, hw4, FX⟩ := AX.out w3 hb3; have FX := Lib.hid FX; obtain ⟨⟨p0, p1⟩, ⟨q0, q2, q3⟩, h4, hz4⟩ := FX.out w4 (Below.refl _ _))
    | (refine wpList_store_cb rfl 75 (.tmp 2) (.tmp 32) rfl (w.heap.size + 1) _ #[.int .i64 3, .bool false, .int .u64 0, .string ⟨#[]⟩] rfl rfl h4 rfl (by kernel_rfl) (by kernel_rfl) ?_; intro w9 k9 t9)
    | fail)
  exact bodyPost_ret (results_cb rfl _ _ _ _ rfl k9 Tryd.underlying75 rfl (by kernel_rfl)) rfl ⟨HE9.out, hz4.trans (t9.below (by omega))⟩
set_option maxRecDepth 100000 in
set_option maxHeartbeats 8000000 in
theorem reckon2_any {w : World} {x f d : Nat} {A : Option Addr} {c : Nat} {N : List Rn} {F D : List Nat} {r : Nat} {y : Rn} (hE : Ex w x f d A c N F D) (hy : N[r]? = some y) (ho : y.op = 2) (EE : Ending) (R : Res) (hEE : endR R = EE) (hc : ∀ W, Ex W x f d A c N F D → Calls Tryd.prog 59 #[.agg #[.pointer (some ⟨x, 0, none⟩), .int .i64 (r : Nat)], .string (str y.t)] W fun e w' => e = endR R ∧ Below W.heap.size W w') :
    Calls Tryd.prog 40 #[.agg #[.pointer (some ⟨x, 0, none⟩), .int .i64 (r : Nat)]] w fun e w' => e = EE ∧ Below w.heap.size w w' := by
  obtain ⟨w2, hw2, b2, s2, k0, k1⟩ := sub_mean w x r
  have c0 : w2.cell? ⟨w.heap.size, 0, none⟩ = some (.pointer (some ⟨x, 0, none⟩)) := k0.at_ 0
  have c1 : w2.cell? ⟨w.heap.size, 1, none⟩ = some (.int .i64 (r : Nat)) := k0.at_ 1
  have hE2 := hE.below b2
  obtain ⟨nv, hnv⟩ : ∃ n, y.n = n := ⟨_, rfl⟩
  obtain ⟨mv, hmv⟩ : ∃ n, y.num = n := ⟨_, rfl⟩
  obtain ⟨S, hS⟩ : ∃ S, str y.t = S := ⟨_, rfl⟩
  obtain ⟨av, hav⟩ : ∃ n, y.a = n := ⟨_, rfl⟩
  have CN : Hid (Calls Tryd.prog 58 #[.agg #[.pointer (some ⟨x, 0, none⟩), .int .i64 (r : Nat)]] w2 fun e w3 => e = .returned (.agg #[.int .i64 2, .int .i64 nv, .int .u64 (mv : Nat), .string S, .int .i64 av]) ∧ Below w2.heap.size w2 w3) := by
    have := pnode_any hE2.xb hE2.rn (Nat.le_refl _) hy
    rw [ho, hnv, hmv, hS, hav] at this
    exact this
  have AX : Hid (∀ w3, Below w2.heap.size w2 w3 → ∃ w4, w3.alloc (.cells #[.int .i64 2, .int .i64 nv, .int .u64 (mv : Nat), .string S, .int .i64 av] 37) = w4 ∧ ∀ W, Below w4.heap.size w4 W → (W.cell? ⟨w.heap.size, 0, none⟩ = some (.pointer (some ⟨x, 0, none⟩)) ∧ W.cell? ⟨w.heap.size, 1, none⟩ = some (.int .i64 (r : Nat))) ∧
      (W.cell? ⟨w3.heap.size, 0, none⟩ = some (.int .i64 2) ∧ W.cell? ⟨w3.heap.size, 2, none⟩ = some (.int .u64 (mv : Nat)) ∧ W.cell? ⟨w3.heap.size, 3, none⟩ = some (.string S)) ∧
      CB W (w.heap.size + 1) 75 #[.int .i64 0, .bool false, .int .u64 0, .string ⟨#[]⟩] ∧ Below w.heap.size w W) := fun w3 hb => after_node k0 k1 b2 hb
  clear k0 k1
  have FE : ∀ {w4 W}, Below w.heap.size w w4 → Below w4.heap.size w4 W → Ex W x f d A c N F D := fun h1 h2 => (hE.below h1).below h2
  have CC : Hid (∀ W, Below w.heap.size w W → Calls Tryd.prog 59 #[.agg #[.pointer (some ⟨x, 0, none⟩), .int .i64 (r : Nat)], .string S] W fun e w' => e = endR R ∧ Below W.heap.size W w') := fun W hW => by
    have := hc W (hE.below hW)
    rw [hS] at this
    exact this
  clear FE hc
  cases R with
  | error z =>
    obtain ⟨za, ze⟩ := z
    have he : endR (.error (za, ze)) = .panicked [faultV za ze] := rfl
    rw [he] at CC hEE
    have HE9 := Lib.hid hEE
    clear hE hE2 hy ho hnv hmv hS hav hEE he
    go_enter Tryd.func40, Tryd.ntmps40
    go_wp2_with (first
      | (go_at_call 58; refine CN.out.mono ?_; rintro e w3 ⟨rfl, hb3⟩; obtain ⟨w4, hw4, FX⟩ := AX.out w3 hb3; have FX := Lib.hid FX; obtain ⟨⟨p0, p1⟩, ⟨q0, q2, q3⟩, h4, hz4⟩ := FX.out w4 (Below.refl _ _))
      | (go_at_call 59; refine (CC.out w4 hz4).mono ?_; rintro e w5 ⟨rfl, hb5⟩; obtain ⟨_, _, _, hz⟩ := FX.out w5 hb5)
      | fail)
    exact ⟨rfl, HE9.out, hz⟩
  | ok t =>
    obtain ⟨so9, bl9, nn9, S9, hth⟩ := thC_four t
    have he : endR (.ok t) = .returned (.agg #[.int .i64 so9, .bool bl9, .int .u64 (nn9 : Nat), .string S9]) := by rw [← hth]; rfl
    rw [he] at CC hEE
    have HE9 := Lib.hid hEE
    clear hE hE2 hy ho hnv hmv hS hav hEE he hth
    go_enter Tryd.func40, Tryd.ntmps40
    go_wp2_with (first
      | (go_at_call 58; refine CN.out.mono ?_; rintro e w3 ⟨rfl, hb3⟩; obtain ⟨w4, hw4, FX⟩ := AX.out w3 hb3; have FX := Lib.hid FX; obtain ⟨⟨p0, p1⟩, ⟨q0, q2, q3⟩, h4, hz4⟩ := FX.out w4 (Below.refl _ _))
      | (go_at_call 59; refine (CC.out w4 hz4).mono ?_; rintro e w5 ⟨rfl, hb5⟩; obtain ⟨_, _, h9, hz⟩ := FX.out w5 hb5)
      | (refine wpList_store_cb rfl 75 (.tmp 2) (.tmp 25) rfl (w.heap.size + 1) _ #[.int .i64 so9, .bool bl9, .int .u64 (nn9 : Nat), .string S9] rfl rfl h9 rfl (by kernel_rfl) (by kernel_rfl) ?_; intro w9 k9 t9)
      | fail)
    exact bodyPost_ret (results_cb rfl _ _ _ _ rfl k9 Tryd.underlying75 rfl (by kernel_rfl)) rfl ⟨HE9.out, hz.trans (t9.below (by omega))⟩
end Go.Proofs.YtpgljmkemmikhaaDoor
