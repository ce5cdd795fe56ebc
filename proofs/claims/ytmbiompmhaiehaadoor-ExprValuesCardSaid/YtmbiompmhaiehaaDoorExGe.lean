/- The walk of the code: the reckoning's beginning. No walk here. -/
import Derived.Test.YtmbiompmhaiehaaDoorExAdd
import Derived.Test.YtmbiompmhaiehaaDoorExRep
import Derived.Test.YtmbiompmhaiehaaDoorExGd
namespace Go.Proofs.YtmbiompmhaiehaaDoor
open Go.RowKit

theorem endR_own (r : Nat) (v : Except Nat Th) : endR (match v with | .error e => .error (r, e) | .ok t => .ok t) = endO r v := by cases v <;> rfl
theorem comb1_eq {r : Nat} {y : Rn} {f : Th → Except Nat Th} (h : ∀ t, ownV y [t] = f t) (z : Res) : endR (combR r y [z]) = comb1 r f z := by
  cases z with
  | error z => rfl
  | ok t =>
    show endR (match ownV y [t] with | .error e => .error (r, e) | .ok t => .ok t) = endO r (f t)
    rw [h, endR_own]
theorem comb2_eq {r : Nat} {y : Rn} {f : Th → Th → Except Nat Th} (h : ∀ t u, ownV y [t, u] = f t u) (z1 z2 : Res) : endR (combR r y [z1, z2]) = comb2 r f z1 z2 := by
  cases z1 with
  | error z => rfl
  | ok t =>
    cases z2 with
    | error z => rfl
    | ok u =>
      show endR (match ownV y [t, u] with | .error e => .error (r, e) | .ok t => .ok t) = endO r (f t u)
      rw [h, endR_own]
theorem comb0_eq {r : Nat} {y : Rn} : endR (combR r y []) = endO r (ownV y []) := by
  show endR (match ownV y [] with | .error e => .error (r, e) | .ok t => .ok t) = _
  rw [endR_own]
theorem catR_eq {r : Nat} {y : Rn} (h : y.op = 9) (rs : List Res) : endR (combR r y rs) = catEnd r rs := by
  unfold combR catEnd
  cases collect rs with
  | error e => rfl
  | ok ts =>
    refine (endR_own r (ownV y ts)).trans ?_
    unfold ownV
    rw [h]
    rfl
theorem kidRes_one {N : List Rn} {P : List Pe} (hk : 1 ≤ P.length) : kidRes N P 1 = [resAt N P[0].r] := by
  cases P with
  | nil => simp at hk
  | cons a l => rfl
theorem kidRes_two {N : List Rn} {P : List Pe} (hk : 2 ≤ P.length) : kidRes N P 2 = [resAt N P[1].r, resAt N P[0].r] := by
  cases P with
  | nil => simp at hk
  | cons a l =>
    cases l with
    | nil => simp at hk
    | cons b l => rfl
/-- what stands behind the node's load -/
theorem after_node {w w2 w3 : World} {x r : Nat} {o n a : Int} {m : Nat} {S : ByteArray} (k0 : CB w2 w.heap.size 43 #[.pointer (some ⟨x, 0, none⟩), .int .i64 (r : Nat)]) (k1 : CB w2 (w.heap.size + 1) 64 #[.int .i64 0, .bool false, .int .u64 0, .string ⟨#[]⟩]) (b2 : Below w.heap.size w w2) (hb : Below w2.heap.size w2 w3) :
    ∃ w4, w3.alloc (.cells #[.int .i64 o, .int .i64 n, .int .u64 (m : Nat), .string S, .int .i64 a] 27) = w4 ∧ ∀ W, Below w4.heap.size w4 W → (W.cell? ⟨w.heap.size, 0, none⟩ = some (.pointer (some ⟨x, 0, none⟩)) ∧ W.cell? ⟨w.heap.size, 1, none⟩ = some (.int .i64 (r : Nat))) ∧
      (W.cell? ⟨w3.heap.size, 0, none⟩ = some (.int .i64 o) ∧ W.cell? ⟨w3.heap.size, 2, none⟩ = some (.int .u64 (m : Nat)) ∧ W.cell? ⟨w3.heap.size, 3, none⟩ = some (.string S)) ∧
      CB W (w.heap.size + 1) 64 #[.int .i64 0, .bool false, .int .u64 0, .string ⟨#[]⟩] ∧ Below w.heap.size w W := by
  have hb4 : Below w3.heap.size w3 (w3.alloc (.cells #[.int .i64 o, .int .i64 n, .int .u64 (m : Nat), .string S, .int .i64 a] 27)) := (Below.refl _ w3).alloc (Nat.le_refl _) _
  refine ⟨_, rfl, fun W hW => ?_⟩
  have a0 := ((k0.below hb).below hb4).below hW
  have a1 := ((k1.below hb).below hb4).below hW
  have a2 := (CB.new w3 27 #[.int .i64 o, .int .i64 n, .int .u64 (m : Nat), .string S, .int .i64 a]).below hW
  refine ⟨⟨a0.at_ 0, a0.at_ 1⟩, ⟨a2.at_ 0, a2.at_ 2, a2.at_ 3⟩, a1, ?_⟩
  have h3 := b2.trans (hb.mono b2.size)
  exact (h3.trans (hb4.mono h3.size)).trans (hW.mono (Nat.le_trans h3.size hb4.size))
end Go.Proofs.YtmbiompmhaiehaaDoor
/- The walk of the code: the reckoning, leaves. -/
namespace Go.Proofs.YtmbiompmhaiehaaDoor
open Go.RowKit

set_option maxRecDepth 100000 in
set_option maxHeartbeats 8000000 in
theorem reckon1_any {w : World} {x f d : Nat} {A : Option Addr} {c : Nat} {N : List Rn} {F D : List Nat} {r : Nat} {y : Rn} (hE : Ex w x f d A c N F D) (hy : N[r]? = some y) (ho : y.op = 1) (EE : Ending) (hEE : .returned (.agg #[.int .i64 1, .bool false, .int .u64 (y.num : Nat), .string ⟨#[]⟩]) = EE) :
    Calls Tryd.prog 26 #[.agg #[.pointer (some ⟨x, 0, none⟩), .int .i64 (r : Nat)]] w fun e w' => e = EE ∧ Below w.heap.size w w' := by
  obtain ⟨w2, hw2, b2, s2, k0, k1⟩ := sub_mean w x r
  have c0 : w2.cell? ⟨w.heap.size, 0, none⟩ = some (.pointer (some ⟨x, 0, none⟩)) := k0.at_ 0
  have c1 : w2.cell? ⟨w.heap.size, 1, none⟩ = some (.int .i64 (r : Nat)) := k0.at_ 1
  have hE2 := hE.below b2
  obtain ⟨nv, hnv⟩ : ∃ n, y.n = n := ⟨_, rfl⟩
  obtain ⟨mv, hmv⟩ : ∃ n, y.num = n := ⟨_, rfl⟩
  obtain ⟨S, hS⟩ : ∃ S, str y.t = S := ⟨_, rfl⟩
  obtain ⟨av, hav⟩ : ∃ n, y.a = n := ⟨_, rfl⟩
  have CN : Hid (Calls Tryd.prog 45 #[.agg #[.pointer (some ⟨x, 0, none⟩), .int .i64 (r : Nat)]] w2 fun e w3 => e = .returned (.agg #[.int .i64 1, .int .i64 nv, .int .u64 (mv : Nat), .string S, .int .i64 av]) ∧ Below w2.heap.size w2 w3) := by
    have := pnode_any hE2.xb hE2.rn (Nat.le_refl _) hy
    rw [ho, hnv, hmv, hS, hav] at this
    exact this
  have AX : Hid (∀ w3, Below w2.heap.size w2 w3 → ∃ w4, w3.alloc (.cells #[.int .i64 1, .int .i64 nv, .int .u64 (mv : Nat), .string S, .int .i64 av] 27) = w4 ∧ ∀ W, Below w4.heap.size w4 W → (W.cell? ⟨w.heap.size, 0, none⟩ = some (.pointer (some ⟨x, 0, none⟩)) ∧ W.cell? ⟨w.heap.size, 1, none⟩ = some (.int .i64 (r : Nat))) ∧
      (W.cell? ⟨w3.heap.size, 0, none⟩ = some (.int .i64 1) ∧ W.cell? ⟨w3.heap.size, 2, none⟩ = some (.int .u64 (mv : Nat)) ∧ W.cell? ⟨w3.heap.size, 3, none⟩ = some (.string S)) ∧
      CB W (w.heap.size + 1) 64 #[.int .i64 0, .bool false, .int .u64 0, .string ⟨#[]⟩] ∧ Below w.heap.size w W) := fun w3 hb => after_node k0 k1 b2 hb
  clear k0 k1
  rw [hmv] at hEE
  have HE9 := Lib.hid hEE
  clear hE hE2 hy ho hnv hmv hS hav hEE
  go_enter Tryd.func26, Tryd.ntmps26
  go_wp2_with (first
    | (go_at_call 45; refine CN.out.mono ?_; rintro e w3 ⟨rfl, hb3⟩; obtain ⟨w4, hw4, FX⟩ := AX.out w3 hb3; have FX := Lib.hid FX; obtain ⟨⟨p0, p1⟩, ⟨q0, q2, q3⟩, h4, hz4⟩ := FX.out w4 (Below.refl _ _))
    | (refine wpList_store_cb rfl 64 (.tmp 2) (.tmp 19) rfl (w.heap.size + 1) _ #[.int .i64 1, .bool false, .int .u64 (mv : Nat), .string ⟨#[]⟩] rfl rfl h4 rfl (by kernel_rfl) (by kernel_rfl) ?_; intro w9 k9 t9)
    | fail)
  exact bodyPost_ret (results_cb rfl _ _ _ _ rfl k9 Tryd.underlying64 rfl (by kernel_rfl)) rfl ⟨HE9.out, hz4.trans (t9.below (by omega))⟩
set_option maxRecDepth 100000 in
set_option maxHeartbeats 8000000 in
theorem reckon3_any {w : World} {x f d : Nat} {A : Option Addr} {c : Nat} {N : List Rn} {F D : List Nat} {r : Nat} {y : Rn} (hE : Ex w x f d A c N F D) (hy : N[r]? = some y) (ho : y.op = 3) (EE : Ending) (hEE : .returned (.agg #[.int .i64 3, .bool false, .int .u64 1, .string ⟨#[]⟩]) = EE) :
    Calls Tryd.prog 26 #[.agg #[.pointer (some ⟨x, 0, none⟩), .int .i64 (r : Nat)]] w fun e w' => e = EE ∧ Below w.heap.size w w' := by
  obtain ⟨w2, hw2, b2, s2, k0, k1⟩ := sub_mean w x r
  have c0 : w2.cell? ⟨w.heap.size, 0, none⟩ = some (.pointer (some ⟨x, 0, none⟩)) := k0.at_ 0
  have c1 : w2.cell? ⟨w.heap.size, 1, none⟩ = some (.int .i64 (r : Nat)) := k0.at_ 1
  have hE2 := hE.below b2
  obtain ⟨nv, hnv⟩ : ∃ n, y.n = n := ⟨_, rfl⟩
  obtain ⟨mv, hmv⟩ : ∃ n, y.num = n := ⟨_, rfl⟩
  obtain ⟨S, hS⟩ : ∃ S, str y.t = S := ⟨_, rfl⟩
  obtain ⟨av, hav⟩ : ∃ n, y.a = n := ⟨_, rfl⟩
  have CN : Hid (Calls Tryd.prog 45 #[.agg #[.pointer (some ⟨x, 0, none⟩), .int .i64 (r : Nat)]] w2 fun e w3 => e = .returned (.agg #[.int .i64 3, .int .i64 nv, .int .u64 (mv : Nat), .string S, .int .i64 av]) ∧ Below w2.heap.size w2 w3) := by
    have := pnode_any hE2.xb hE2.rn (Nat.le_refl _) hy
    rw [ho, hnv, hmv, hS, hav] at this
    exact this
  have AX : Hid (∀ w3, Below w2.heap.size w2 w3 → ∃ w4, w3.alloc (.cells #[.int .i64 3, .int .i64 nv, .int .u64 (mv : Nat), .string S, .int .i64 av] 27) = w4 ∧ ∀ W, Below w4.heap.size w4 W → (W.cell? ⟨w.heap.size, 0, none⟩ = some (.pointer (some ⟨x, 0, none⟩)) ∧ W.cell? ⟨w.heap.size, 1, none⟩ = some (.int .i64 (r : Nat))) ∧
      (W.cell? ⟨w3.heap.size, 0, none⟩ = some (.int .i64 3) ∧ W.cell? ⟨w3.heap.size, 2, none⟩ = some (.int .u64 (mv : Nat)) ∧ W.cell? ⟨w3.heap.size, 3, none⟩ = some (.string S)) ∧
      CB W (w.heap.size + 1) 64 #[.int .i64 0, .bool false, .int .u64 0, .string ⟨#[]⟩] ∧ Below w.heap.size w W) := fun w3 hb => after_node k0 k1 b2 hb
  clear k0 k1
  have HE9 := Lib.hid hEE
  clear hE hE2 hy ho hnv hmv hS hav hEE
  go_enter Tryd.func26, Tryd.ntmps26
  go_wp2_with (first
    | (go_at_call 45; refine CN.out.mono ?_; rintro e w3 ⟨rfl, hb3⟩; obtain ⟨w4, hw4, FX⟩ := AX.out w3 hb3; have FX := Lib.hid FX; obtain ⟨⟨p0, p1⟩, ⟨q0, q2, q3⟩, h4, hz4⟩ := FX.out w4 (Below.refl _ _))
    | (refine wpList_store_cb rfl 64 (.tmp 2) (.tmp 29) rfl (w.heap.size + 1) _ #[.int .i64 3, .bool false, .int .u64 1, .string ⟨#[]⟩] rfl rfl h4 rfl (by kernel_rfl) (by kernel_rfl) ?_; intro w9 k9 t9)
    | fail)
  exact bodyPost_ret (results_cb rfl _ _ _ _ rfl k9 Tryd.underlying64 rfl (by kernel_rfl)) rfl ⟨HE9.out, hz4.trans (t9.below (by omega))⟩
set_option maxRecDepth 100000 in
set_option maxHeartbeats 8000000 in
theorem reckon4_any {w : World} {x f d : Nat} {A : Option Addr} {c : Nat} {N : List Rn} {F D : List Nat} {r : Nat} {y : Rn} (hE : Ex w x f d A c N F D) (hy : N[r]? = some y) (ho : y.op = 4) (EE : Ending) (hEE : .returned (.agg #[.int .i64 3, .bool false, .int .u64 0, .string ⟨#[]⟩]) = EE) :
    Calls Tryd.prog 26 #[.agg #[.pointer (some ⟨x, 0, none⟩), .int .i64 (r : Nat)]] w fun e w' => e = EE ∧ Below w.heap.size w w' := by
  obtain ⟨w2, hw2, b2, s2, k0, k1⟩ := sub_mean w x r
  have c0 : w2.cell? ⟨w.heap.size, 0, none⟩ = some (.pointer (some ⟨x, 0, none⟩)) := k0.at_ 0
  have c1 : w2.cell? ⟨w.heap.size, 1, none⟩ = some (.int .i64 (r : Nat)) := k0.at_ 1
  have hE2 := hE.below b2
  obtain ⟨nv, hnv⟩ : ∃ n, y.n = n := ⟨_, rfl⟩
  obtain ⟨mv, hmv⟩ : ∃ n, y.num = n := ⟨_, rfl⟩
  obtain ⟨S, hS⟩ : ∃ S, str y.t = S := ⟨_, rfl⟩
  obtain ⟨av, hav⟩ : ∃ n, y.a = n := ⟨_, rfl⟩
  have CN : Hid (Calls Tryd.prog 45 #[.agg #[.pointer (some ⟨x, 0, none⟩), .int .i64 (r : Nat)]] w2 fun e w3 => e = .returned (.agg #[.int .i64 4, .int .i64 nv, .int .u64 (mv : Nat), .string S, .int .i64 av]) ∧ Below w2.heap.size w2 w3) := by
    have := pnode_any hE2.xb hE2.rn (Nat.le_refl _) hy
    rw [ho, hnv, hmv, hS, hav] at this
    exact this
  have AX : Hid (∀ w3, Below w2.heap.size w2 w3 → ∃ w4, w3.alloc (.cells #[.int .i64 4, .int .i64 nv, .int .u64 (mv : Nat), .string S, .int .i64 av] 27) = w4 ∧ ∀ W, Below w4.heap.size w4 W → (W.cell? ⟨w.heap.size, 0, none⟩ = some (.pointer (some ⟨x, 0, none⟩)) ∧ W.cell? ⟨w.heap.size, 1, none⟩ = some (.int .i64 (r : Nat))) ∧
      (W.cell? ⟨w3.heap.size, 0, none⟩ = some (.int .i64 4) ∧ W.cell? ⟨w3.heap.size, 2, none⟩ = some (.int .u64 (mv : Nat)) ∧ W.cell? ⟨w3.heap.size, 3, none⟩ = some (.string S)) ∧
      CB W (w.heap.size + 1) 64 #[.int .i64 0, .bool false, .int .u64 0, .string ⟨#[]⟩] ∧ Below w.heap.size w W) := fun w3 hb => after_node k0 k1 b2 hb
  clear k0 k1
  have HE9 := Lib.hid hEE
  clear hE hE2 hy ho hnv hmv hS hav hEE
  go_enter Tryd.func26, Tryd.ntmps26
  go_wp2_with (first
    | (go_at_call 45; refine CN.out.mono ?_; rintro e w3 ⟨rfl, hb3⟩; obtain ⟨w4, hw4, FX⟩ := AX.out w3 hb3; have FX := Lib.hid FX; obtain ⟨⟨p0, p1⟩, ⟨q0, q2, q3⟩, h4, hz4⟩ := FX.out w4 (Below.refl _ _))
    | (refine wpList_store_cb rfl 64 (.tmp 2) (.tmp 32) rfl (w.heap.size + 1) _ #[.int .i64 3, .bool false, .int .u64 0, .string ⟨#[]⟩] rfl rfl h4 rfl (by kernel_rfl) (by kernel_rfl) ?_; intro w9 k9 t9)
    | fail)
  exact bodyPost_ret (results_cb rfl _ _ _ _ rfl k9 Tryd.underlying64 rfl (by kernel_rfl)) rfl ⟨HE9.out, hz4.trans (t9.below (by omega))⟩
set_option maxRecDepth 100000 in
set_option maxHeartbeats 8000000 in
theorem reckon2_any {w : World} {x f d : Nat} {A : Option Addr} {c : Nat} {N : List Rn} {F D : List Nat} {r : Nat} {y : Rn} (hE : Ex w x f d A c N F D) (hy : N[r]? = some y) (ho : y.op = 2) (EE : Ending) (R : Res) (hEE : endR R = EE) (hc : ∀ W, Ex W x f d A c N F D → Calls Tryd.prog 46 #[.agg #[.pointer (some ⟨x, 0, none⟩), .int .i64 (r : Nat)], .string (str y.t)] W fun e w' => e = endR R ∧ Below W.heap.size W w') :
    Calls Tryd.prog 26 #[.agg #[.pointer (some ⟨x, 0, none⟩), .int .i64 (r : Nat)]] w fun e w' => e = EE ∧ Below w.heap.size w w' := by
  obtain ⟨w2, hw2, b2, s2, k0, k1⟩ := sub_mean w x r
  have c0 : w2.cell? ⟨w.heap.size, 0, none⟩ = some (.pointer (some ⟨x, 0, none⟩)) := k0.at_ 0
  have c1 : w2.cell? ⟨w.heap.size, 1, none⟩ = some (.int .i64 (r : Nat)) := k0.at_ 1
  have hE2 := hE.below b2
  obtain ⟨nv, hnv⟩ : ∃ n, y.n = n := ⟨_, rfl⟩
  obtain ⟨mv, hmv⟩ : ∃ n, y.num = n := ⟨_, rfl⟩
  obtain ⟨S, hS⟩ : ∃ S, str y.t = S := ⟨_, rfl⟩
  obtain ⟨av, hav⟩ : ∃ n, y.a = n := ⟨_, rfl⟩
  have CN : Hid (Calls Tryd.prog 45 #[.agg #[.pointer (some ⟨x, 0, none⟩), .int .i64 (r : Nat)]] w2 fun e w3 => e = .returned (.agg #[.int .i64 2, .int .i64 nv, .int .u64 (mv : Nat), .string S, .int .i64 av]) ∧ Below w2.heap.size w2 w3) := by
    have := pnode_any hE2.xb hE2.rn (Nat.le_refl _) hy
    rw [ho, hnv, hmv, hS, hav] at this
    exact this
  have AX : Hid (∀ w3, Below w2.heap.size w2 w3 → ∃ w4, w3.alloc (.cells #[.int .i64 2, .int .i64 nv, .int .u64 (mv : Nat), .string S, .int .i64 av] 27) = w4 ∧ ∀ W, Below w4.heap.size w4 W → (W.cell? ⟨w.heap.size, 0, none⟩ = some (.pointer (some ⟨x, 0, none⟩)) ∧ W.cell? ⟨w.heap.size, 1, none⟩ = some (.int .i64 (r : Nat))) ∧
      (W.cell? ⟨w3.heap.size, 0, none⟩ = some (.int .i64 2) ∧ W.cell? ⟨w3.heap.size, 2, none⟩ = some (.int .u64 (mv : Nat)) ∧ W.cell? ⟨w3.heap.size, 3, none⟩ = some (.string S)) ∧
      CB W (w.heap.size + 1) 64 #[.int .i64 0, .bool false, .int .u64 0, .string ⟨#[]⟩] ∧ Below w.heap.size w W) := fun w3 hb => after_node k0 k1 b2 hb
  clear k0 k1
  have FE : ∀ {w4 W}, Below w.heap.size w w4 → Below w4.heap.size w4 W → Ex W x f d A c N F D := fun h1 h2 => (hE.below h1).below h2
  have CC : Hid (∀ W, Below w.heap.size w W → Calls Tryd.prog 46 #[.agg #[.pointer (some ⟨x, 0, none⟩), .int .i64 (r : Nat)], .string S] W fun e w' => e = endR R ∧ Below W.heap.size W w') := fun W hW => by
    have := hc W (hE.below hW)
    rw [hS] at this
    exact this
  clear FE hc
  cases R with
  | error z =>
    obtain ⟨za, ze⟩ := z
    have he : endR (.error (za, ze)) = .panicked [faultV za ze] := rfl
    rw [he] at CC hEE
    have HE9 := Lib.hid hEE
    clear hE hE2 hy ho hnv hmv hS hav hEE he
    go_enter Tryd.func26, Tryd.ntmps26
    go_wp2_with (first
      | (go_at_call 45; refine CN.out.mono ?_; rintro e w3 ⟨rfl, hb3⟩; obtain ⟨w4, hw4, FX⟩ := AX.out w3 hb3; have FX := Lib.hid FX; obtain ⟨⟨p0, p1⟩, ⟨q0, q2, q3⟩, h4, hz4⟩ := FX.out w4 (Below.refl _ _))
      | (go_at_call 46; refine (CC.out w4 hz4).mono ?_; rintro e w5 ⟨rfl, hb5⟩; obtain ⟨_, _, _, hz⟩ := FX.out w5 hb5)
      | fail)
    exact ⟨rfl, HE9.out, hz⟩
  | ok t =>
    obtain ⟨so9, bl9, nn9, S9, hth⟩ := thC_four t
    have he : endR (.ok t) = .returned (.agg #[.int .i64 so9, .bool bl9, .int .u64 (nn9 : Nat), .string S9]) := by rw [← hth]; rfl
    rw [he] at CC hEE
    have HE9 := Lib.hid hEE
    clear hE hE2 hy ho hnv hmv hS hav hEE he hth
    go_enter Tryd.func26, Tryd.ntmps26
    go_wp2_with (first
      | (go_at_call 45; refine CN.out.mono ?_; rintro e w3 ⟨rfl, hb3⟩; obtain ⟨w4, hw4, FX⟩ := AX.out w3 hb3; have FX := Lib.hid FX; obtain ⟨⟨p0, p1⟩, ⟨q0, q2, q3⟩, h4, hz4⟩ := FX.out w4 (Below.refl _ _))
      | (go_at_call 46; refine (CC.out w4 hz4).mono ?_; rintro e w5 ⟨rfl, hb5⟩; obtain ⟨_, _, h9, hz⟩ := FX.out w5 hb5)
      | (refine wpList_store_cb rfl 64 (.tmp 2) (.tmp 25) rfl (w.heap.size + 1) _ #[.int .i64 so9, .bool bl9, .int .u64 (nn9 : Nat), .string S9] rfl rfl h9 rfl (by kernel_rfl) (by kernel_rfl) ?_; intro w9 k9 t9)
      | fail)
    exact bodyPost_ret (results_cb rfl _ _ _ _ rfl k9 Tryd.underlying64 rfl (by kernel_rfl)) rfl ⟨HE9.out, hz.trans (t9.below (by omega))⟩
end Go.Proofs.YtmbiompmhaiehaaDoor
/- The walk of the code: the reckoning, nodes of one call. -/
namespace Go.Proofs.YtmbiompmhaiehaaDoor
open Go.RowKit

set_option maxRecDepth 100000 in
set_option maxHeartbeats 8000000 in
theorem reckon5_any {w : World} {x f d : Nat} {A : Option Addr} {c : Nat} {N : List Rn} {F D : List Nat} {r : Nat} {y : Rn} (hE : Ex w x f d A c N F D) (hy : N[r]? = some y) (ho : y.op = 5) (EE : Ending) (R : Res) (hEE : endR R = EE) (hc : ∀ W, Ex W x f d A c N F D → Calls Tryd.prog 47 #[.agg #[.pointer (some ⟨x, 0, none⟩), .int .i64 (r : Nat)]] W fun e w' => e = endR R ∧ Below W.heap.size W w') :
    Calls Tryd.prog 26 #[.agg #[.pointer (some ⟨x, 0, none⟩), .int .i64 (r : Nat)]] w fun e w' => e = EE ∧ Below w.heap.size w w' := by
  obtain ⟨w2, hw2, b2, s2, k0, k1⟩ := sub_mean w x r
  have c0 : w2.cell? ⟨w.heap.size, 0, none⟩ = some (.pointer (some ⟨x, 0, none⟩)) := k0.at_ 0
  have c1 : w2.cell? ⟨w.heap.size, 1, none⟩ = some (.int .i64 (r : Nat)) := k0.at_ 1
  have hE2 := hE.below b2
  obtain ⟨nv, hnv⟩ : ∃ n, y.n = n := ⟨_, rfl⟩
  obtain ⟨mv, hmv⟩ : ∃ n, y.num = n := ⟨_, rfl⟩
  obtain ⟨S, hS⟩ : ∃ S, str y.t = S := ⟨_, rfl⟩
  obtain ⟨av, hav⟩ : ∃ n, y.a = n := ⟨_, rfl⟩
  have CN : Hid (Calls Tryd.prog 45 #[.agg #[.pointer (some ⟨x, 0, none⟩), .int .i64 (r : Nat)]] w2 fun e w3 => e = .returned (.agg #[.int .i64 5, .int .i64 nv, .int .u64 (mv : Nat), .string S, .int .i64 av]) ∧ Below w2.heap.size w2 w3) := by
    have := pnode_any hE2.xb hE2.rn (Nat.le_refl _) hy
    rw [ho, hnv, hmv, hS, hav] at this
    exact this
  have AX : Hid (∀ w3, Below w2.heap.size w2 w3 → ∃ w4, w3.alloc (.cells #[.int .i64 5, .int .i64 nv, .int .u64 (mv : Nat), .string S, .int .i64 av] 27) = w4 ∧ ∀ W, Below w4.heap.size w4 W → (W.cell? ⟨w.heap.size, 0, none⟩ = some (.pointer (some ⟨x, 0, none⟩)) ∧ W.cell? ⟨w.heap.size, 1, none⟩ = some (.int .i64 (r : Nat))) ∧
      (W.cell? ⟨w3.heap.size, 0, none⟩ = some (.int .i64 5) ∧ W.cell? ⟨w3.heap.size, 2, none⟩ = some (.int .u64 (mv : Nat)) ∧ W.cell? ⟨w3.heap.size, 3, none⟩ = some (.string S)) ∧
      CB W (w.heap.size + 1) 64 #[.int .i64 0, .bool false, .int .u64 0, .string ⟨#[]⟩] ∧ Below w.heap.size w W) := fun w3 hb => after_node k0 k1 b2 hb
  clear k0 k1
  have FE : ∀ {w4 W}, Below w.heap.size w w4 → Below w4.heap.size w4 W → Ex W x f d A c N F D := fun h1 h2 => (hE.below h1).below h2
  have CC : Hid (∀ W, Below w.heap.size w W → Calls Tryd.prog 47 #[.agg #[.pointer (some ⟨x, 0, none⟩), .int .i64 (r : Nat)]] W fun e w' => e = endR R ∧ Below W.heap.size W w') := fun W hW => by
    have := hc W (hE.below hW)
    skip
    exact this
  clear FE hc
  cases R with
  | error z =>
    obtain ⟨za, ze⟩ := z
    have he : endR (.error (za, ze)) = .panicked [faultV za ze] := rfl
    rw [he] at CC hEE
    have HE9 := Lib.hid hEE
    clear hE hE2 hy ho hnv hmv hS hav hEE he
    go_enter Tryd.func26, Tryd.ntmps26
    go_wp2_with (first
      | (go_at_call 45; refine CN.out.mono ?_; rintro e w3 ⟨rfl, hb3⟩; obtain ⟨w4, hw4, FX⟩ := AX.out w3 hb3; have FX := Lib.hid FX; obtain ⟨⟨p0, p1⟩, ⟨q0, q2, q3⟩, h4, hz4⟩ := FX.out w4 (Below.refl _ _))
      | (go_at_call 47; refine (CC.out w4 hz4).mono ?_; rintro e w5 ⟨rfl, hb5⟩; obtain ⟨_, _, _, hz⟩ := FX.out w5 hb5)
      | fail)
    exact ⟨rfl, HE9.out, hz⟩
  | ok t =>
    obtain ⟨so9, bl9, nn9, S9, hth⟩ := thC_four t
    have he : endR (.ok t) = .returned (.agg #[.int .i64 so9, .bool bl9, .int .u64 (nn9 : Nat), .string S9]) := by rw [← hth]; rfl
    rw [he] at CC hEE
    have HE9 := Lib.hid hEE
    clear hE hE2 hy ho hnv hmv hS hav hEE he hth
    go_enter Tryd.func26, Tryd.ntmps26
    go_wp2_with (first
      | (go_at_call 45; refine CN.out.mono ?_; rintro e w3 ⟨rfl, hb3⟩; obtain ⟨w4, hw4, FX⟩ := AX.out w3 hb3; have FX := Lib.hid FX; obtain ⟨⟨p0, p1⟩, ⟨q0, q2, q3⟩, h4, hz4⟩ := FX.out w4 (Below.refl _ _))
      | (go_at_call 47; refine (CC.out w4 hz4).mono ?_; rintro e w5 ⟨rfl, hb5⟩; obtain ⟨_, _, h9, hz⟩ := FX.out w5 hb5)
      | (refine wpList_store_cb rfl 64 (.tmp 2) (.tmp 36) rfl (w.heap.size + 1) _ #[.int .i64 so9, .bool bl9, .int .u64 (nn9 : Nat), .string S9] rfl rfl h9 rfl (by kernel_rfl) (by kernel_rfl) ?_; intro w9 k9 t9)
      | fail)
    exact bodyPost_ret (results_cb rfl _ _ _ _ rfl k9 Tryd.underlying64 rfl (by kernel_rfl)) rfl ⟨HE9.out, hz.trans (t9.below (by omega))⟩
set_option maxRecDepth 100000 in
set_option maxHeartbeats 8000000 in
theorem reckon6_any {w : World} {x f d : Nat} {A : Option Addr} {c : Nat} {N : List Rn} {F D : List Nat} {r : Nat} {y : Rn} (hE : Ex w x f d A c N F D) (hy : N[r]? = some y) (ho : y.op = 6) (EE : Ending) (R : Res) (hEE : endR R = EE) (hc : ∀ W, Ex W x f d A c N F D → Calls Tryd.prog 48 #[.agg #[.pointer (some ⟨x, 0, none⟩), .int .i64 (r : Nat)]] W fun e w' => e = endR R ∧ Below W.heap.size W w') :
    Calls Tryd.prog 26 #[.agg #[.pointer (some ⟨x, 0, none⟩), .int .i64 (r : Nat)]] w fun e w' => e = EE ∧ Below w.heap.size w w' := by
  obtain ⟨w2, hw2, b2, s2, k0, k1⟩ := sub_mean w x r
  have c0 : w2.cell? ⟨w.heap.size, 0, none⟩ = some (.pointer (some ⟨x, 0, none⟩)) := k0.at_ 0
  have c1 : w2.cell? ⟨w.heap.size, 1, none⟩ = some (.int .i64 (r : Nat)) := k0.at_ 1
  have hE2 := hE.below b2
  obtain ⟨nv, hnv⟩ : ∃ n, y.n = n := ⟨_, rfl⟩
  obtain ⟨mv, hmv⟩ : ∃ n, y.num = n := ⟨_, rfl⟩
  obtain ⟨S, hS⟩ : ∃ S, str y.t = S := ⟨_, rfl⟩
  obtain ⟨av, hav⟩ : ∃ n, y.a = n := ⟨_, rfl⟩
  have CN : Hid (Calls Tryd.prog 45 #[.agg #[.pointer (some ⟨x, 0, none⟩), .int .i64 (r : Nat)]] w2 fun e w3 => e = .returned (.agg #[.int .i64 6, .int .i64 nv, .int .u64 (mv : Nat), .string S, .int .i64 av]) ∧ Below w2.heap.size w2 w3) := by
    have := pnode_any hE2.xb hE2.rn (Nat.le_refl _) hy
    rw [ho, hnv, hmv, hS, hav] at this
    exact this
  have AX : Hid (∀ w3, Below w2.heap.size w2 w3 → ∃ w4, w3.alloc (.cells #[.int .i64 6, .int .i64 nv, .int .u64 (mv : Nat), .string S, .int .i64 av] 27) = w4 ∧ ∀ W, Below w4.heap.size w4 W → (W.cell? ⟨w.heap.size, 0, none⟩ = some (.pointer (some ⟨x, 0, none⟩)) ∧ W.cell? ⟨w.heap.size, 1, none⟩ = some (.int .i64 (r : Nat))) ∧
      (W.cell? ⟨w3.heap.size, 0, none⟩ = some (.int .i64 6) ∧ W.cell? ⟨w3.heap.size, 2, none⟩ = some (.int .u64 (mv : Nat)) ∧ W.cell? ⟨w3.heap.size, 3, none⟩ = some (.string S)) ∧
      CB W (w.heap.size + 1) 64 #[.int .i64 0, .bool false, .int .u64 0, .string ⟨#[]⟩] ∧ Below w.heap.size w W) := fun w3 hb => after_node k0 k1 b2 hb
  clear k0 k1
  have FE : ∀ {w4 W}, Below w.heap.size w w4 → Below w4.heap.size w4 W → Ex W x f d A c N F D := fun h1 h2 => (hE.below h1).below h2
  have CC : Hid (∀ W, Below w.heap.size w W → Calls Tryd.prog 48 #[.agg #[.pointer (some ⟨x, 0, none⟩), .int .i64 (r : Nat)]] W fun e w' => e = endR R ∧ Below W.heap.size W w') := fun W hW => by
    have := hc W (hE.below hW)
    skip
    exact this
  clear FE hc
  cases R with
  | error z =>
    obtain ⟨za, ze⟩ := z
    have he : endR (.error (za, ze)) = .panicked [faultV za ze] := rfl
    rw [he] at CC hEE
    have HE9 := Lib.hid hEE
    clear hE hE2 hy ho hnv hmv hS hav hEE he
    go_enter Tryd.func26, Tryd.ntmps26
    go_wp2_with (first
      | (go_at_call 45; refine CN.out.mono ?_; rintro e w3 ⟨rfl, hb3⟩; obtain ⟨w4, hw4, FX⟩ := AX.out w3 hb3; have FX := Lib.hid FX; obtain ⟨⟨p0, p1⟩, ⟨q0, q2, q3⟩, h4, hz4⟩ := FX.out w4 (Below.refl _ _))
      | (go_at_call 48; refine (CC.out w4 hz4).mono ?_; rintro e w5 ⟨rfl, hb5⟩; obtain ⟨_, _, _, hz⟩ := FX.out w5 hb5)
      | fail)
    exact ⟨rfl, HE9.out, hz⟩
  | ok t =>
    obtain ⟨so9, bl9, nn9, S9, hth⟩ := thC_four t
    have he : endR (.ok t) = .returned (.agg #[.int .i64 so9, .bool bl9, .int .u64 (nn9 : Nat), .string S9]) := by rw [← hth]; rfl
    rw [he] at CC hEE
    have HE9 := Lib.hid hEE
    clear hE hE2 hy ho hnv hmv hS hav hEE he hth
    go_enter Tryd.func26, Tryd.ntmps26
    go_wp2_with (first
      | (go_at_call 45; refine CN.out.mono ?_; rintro e w3 ⟨rfl, hb3⟩; obtain ⟨w4, hw4, FX⟩ := AX.out w3 hb3; have FX := Lib.hid FX; obtain ⟨⟨p0, p1⟩, ⟨q0, q2, q3⟩, h4, hz4⟩ := FX.out w4 (Below.refl _ _))
      | (go_at_call 48; refine (CC.out w4 hz4).mono ?_; rintro e w5 ⟨rfl, hb5⟩; obtain ⟨_, _, h9, hz⟩ := FX.out w5 hb5)
      | (refine wpList_store_cb rfl 64 (.tmp 2) (.tmp 40) rfl (w.heap.size + 1) _ #[.int .i64 so9, .bool bl9, .int .u64 (nn9 : Nat), .string S9] rfl rfl h9 rfl (by kernel_rfl) (by kernel_rfl) ?_; intro w9 k9 t9)
      | fail)
    exact bodyPost_ret (results_cb rfl _ _ _ _ rfl k9 Tryd.underlying64 rfl (by kernel_rfl)) rfl ⟨HE9.out, hz.trans (t9.below (by omega))⟩
set_option maxRecDepth 100000 in
set_option maxHeartbeats 8000000 in
theorem reckon9_any {w : World} {x f d : Nat} {A : Option Addr} {c : Nat} {N : List Rn} {F D : List Nat} {r : Nat} {y : Rn} (hE : Ex w x f d A c N F D) (hy : N[r]? = some y) (ho : y.op = 9) (EE : Ending) (R : Res) (hEE : endR R = EE) (hc : ∀ W, Ex W x f d A c N F D → Calls Tryd.prog 53 #[.agg #[.pointer (some ⟨x, 0, none⟩), .int .i64 (r : Nat)]] W fun e w' => e = endR R ∧ Below W.heap.size W w') :
    Calls Tryd.prog 26 #[.agg #[.pointer (some ⟨x, 0, none⟩), .int .i64 (r : Nat)]] w fun e w' => e = EE ∧ Below w.heap.size w w' := by
  obtain ⟨w2, hw2, b2, s2, k0, k1⟩ := sub_mean w x r
  have c0 : w2.cell? ⟨w.heap.size, 0, none⟩ = some (.pointer (some ⟨x, 0, none⟩)) := k0.at_ 0
  have c1 : w2.cell? ⟨w.heap.size, 1, none⟩ = some (.int .i64 (r : Nat)) := k0.at_ 1
  have hE2 := hE.below b2
  obtain ⟨nv, hnv⟩ : ∃ n, y.n = n := ⟨_, rfl⟩
  obtain ⟨mv, hmv⟩ : ∃ n, y.num = n := ⟨_, rfl⟩
  obtain ⟨S, hS⟩ : ∃ S, str y.t = S := ⟨_, rfl⟩
  obtain ⟨av, hav⟩ : ∃ n, y.a = n := ⟨_, rfl⟩
  have CN : Hid (Calls Tryd.prog 45 #[.agg #[.pointer (some ⟨x, 0, none⟩), .int .i64 (r : Nat)]] w2 fun e w3 => e = .returned (.agg #[.int .i64 9, .int .i64 nv, .int .u64 (mv : Nat), .string S, .int .i64 av]) ∧ Below w2.heap.size w2 w3) := by
    have := pnode_any hE2.xb hE2.rn (Nat.le_refl _) hy
    rw [ho, hnv, hmv, hS, hav] at this
    exact this
  have AX : Hid (∀ w3, Below w2.heap.size w2 w3 → ∃ w4, w3.alloc (.cells #[.int .i64 9, .int .i64 nv, .int .u64 (mv : Nat), .string S, .int .i64 av] 27) = w4 ∧ ∀ W, Below w4.heap.size w4 W → (W.cell? ⟨w.heap.size, 0, none⟩ = some (.pointer (some ⟨x, 0, none⟩)) ∧ W.cell? ⟨w.heap.size, 1, none⟩ = some (.int .i64 (r : Nat))) ∧
      (W.cell? ⟨w3.heap.size, 0, none⟩ = some (.int .i64 9) ∧ W.cell? ⟨w3.heap.size, 2, none⟩ = some (.int .u64 (mv : Nat)) ∧ W.cell? ⟨w3.heap.size, 3, none⟩ = some (.string S)) ∧
      CB W (w.heap.size + 1) 64 #[.int .i64 0, .bool false, .int .u64 0, .string ⟨#[]⟩] ∧ Below w.heap.size w W) := fun w3 hb => after_node k0 k1 b2 hb
  clear k0 k1
  have FE : ∀ {w4 W}, Below w.heap.size w w4 → Below w4.heap.size w4 W → Ex W x f d A c N F D := fun h1 h2 => (hE.below h1).below h2
  have CC : Hid (∀ W, Below w.heap.size w W → Calls Tryd.prog 53 #[.agg #[.pointer (some ⟨x, 0, none⟩), .int .i64 (r : Nat)]] W fun e w' => e = endR R ∧ Below W.heap.size W w') := fun W hW => by
    have := hc W (hE.below hW)
    skip
    exact this
  clear FE hc
  cases R with
  | error z =>
    obtain ⟨za, ze⟩ := z
    have he : endR (.error (za, ze)) = .panicked [faultV za ze] := rfl
    rw [he] at CC hEE
    have HE9 := Lib.hid hEE
    clear hE hE2 hy ho hnv hmv hS hav hEE he
    go_enter Tryd.func26, Tryd.ntmps26
    go_wp2_with (first
      | (go_at_call 45; refine CN.out.mono ?_; rintro e w3 ⟨rfl, hb3⟩; obtain ⟨w4, hw4, FX⟩ := AX.out w3 hb3; have FX := Lib.hid FX; obtain ⟨⟨p0, p1⟩, ⟨q0, q2, q3⟩, h4, hz4⟩ := FX.out w4 (Below.refl _ _))
      | (go_at_call 53; refine (CC.out w4 hz4).mono ?_; rintro e w5 ⟨rfl, hb5⟩; obtain ⟨_, _, _, hz⟩ := FX.out w5 hb5)
      | fail)
    exact ⟨rfl, HE9.out, hz⟩
  | ok t =>
    obtain ⟨so9, bl9, nn9, S9, hth⟩ := thC_four t
    have he : endR (.ok t) = .returned (.agg #[.int .i64 so9, .bool bl9, .int .u64 (nn9 : Nat), .string S9]) := by rw [← hth]; rfl
    rw [he] at CC hEE
    have HE9 := Lib.hid hEE
    clear hE hE2 hy ho hnv hmv hS hav hEE he hth
    go_enter Tryd.func26, Tryd.ntmps26
    go_wp2_with (first
      | (go_at_call 45; refine CN.out.mono ?_; rintro e w3 ⟨rfl, hb3⟩; obtain ⟨w4, hw4, FX⟩ := AX.out w3 hb3; have FX := Lib.hid FX; obtain ⟨⟨p0, p1⟩, ⟨q0, q2, q3⟩, h4, hz4⟩ := FX.out w4 (Below.refl _ _))
      | (go_at_call 53; refine (CC.out w4 hz4).mono ?_; rintro e w5 ⟨rfl, hb5⟩; obtain ⟨_, _, h9, hz⟩ := FX.out w5 hb5)
      | (refine wpList_store_cb rfl 64 (.tmp 2) (.tmp 66) rfl (w.heap.size + 1) _ #[.int .i64 so9, .bool bl9, .int .u64 (nn9 : Nat), .string S9] rfl rfl h9 rfl (by kernel_rfl) (by kernel_rfl) ?_; intro w9 k9 t9)
      | fail)
    exact bodyPost_ret (results_cb rfl _ _ _ _ rfl k9 Tryd.underlying64 rfl (by kernel_rfl)) rfl ⟨HE9.out, hz.trans (t9.below (by omega))⟩
set_option maxRecDepth 100000 in
set_option maxHeartbeats 8000000 in
theorem reckon10_any {w : World} {x f d : Nat} {A : Option Addr} {c : Nat} {N : List Rn} {F D : List Nat} {r : Nat} {y : Rn} (hE : Ex w x f d A c N F D) (hy : N[r]? = some y) (ho : y.op = 10) (EE : Ending) (R : Res) (hEE : endR R = EE) (hc : ∀ W, Ex W x f d A c N F D → Calls Tryd.prog 54 #[.agg #[.pointer (some ⟨x, 0, none⟩), .int .i64 (r : Nat)]] W fun e w' => e = endR R ∧ Below W.heap.size W w') :
    Calls Tryd.prog 26 #[.agg #[.pointer (some ⟨x, 0, none⟩), .int .i64 (r : Nat)]] w fun e w' => e = EE ∧ Below w.heap.size w w' := by
  obtain ⟨w2, hw2, b2, s2, k0, k1⟩ := sub_mean w x r
  have c0 : w2.cell? ⟨w.heap.size, 0, none⟩ = some (.pointer (some ⟨x, 0, none⟩)) := k0.at_ 0
  have c1 : w2.cell? ⟨w.heap.size, 1, none⟩ = some (.int .i64 (r : Nat)) := k0.at_ 1
  have hE2 := hE.below b2
  obtain ⟨nv, hnv⟩ : ∃ n, y.n = n := ⟨_, rfl⟩
  obtain ⟨mv, hmv⟩ : ∃ n, y.num = n := ⟨_, rfl⟩
  obtain ⟨S, hS⟩ : ∃ S, str y.t = S := ⟨_, rfl⟩
  obtain ⟨av, hav⟩ : ∃ n, y.a = n := ⟨_, rfl⟩
  have CN : Hid (Calls Tryd.prog 45 #[.agg #[.pointer (some ⟨x, 0, none⟩), .int .i64 (r : Nat)]] w2 fun e w3 => e = .returned (.agg #[.int .i64 10, .int .i64 nv, .int .u64 (mv : Nat), .string S, .int .i64 av]) ∧ Below w2.heap.size w2 w3) := by
    have := pnode_any hE2.xb hE2.rn (Nat.le_refl _) hy
    rw [ho, hnv, hmv, hS, hav] at this
    exact this
  have AX : Hid (∀ w3, Below w2.heap.size w2 w3 → ∃ w4, w3.alloc (.cells #[.int .i64 10, .int .i64 nv, .int .u64 (mv : Nat), .string S, .int .i64 av] 27) = w4 ∧ ∀ W, Below w4.heap.size w4 W → (W.cell? ⟨w.heap.size, 0, none⟩ = some (.pointer (some ⟨x, 0, none⟩)) ∧ W.cell? ⟨w.heap.size, 1, none⟩ = some (.int .i64 (r : Nat))) ∧
      (W.cell? ⟨w3.heap.size, 0, none⟩ = some (.int .i64 10) ∧ W.cell? ⟨w3.heap.size, 2, none⟩ = some (.int .u64 (mv : Nat)) ∧ W.cell? ⟨w3.heap.size, 3, none⟩ = some (.string S)) ∧
      CB W (w.heap.size + 1) 64 #[.int .i64 0, .bool false, .int .u64 0, .string ⟨#[]⟩] ∧ Below w.heap.size w W) := fun w3 hb => after_node k0 k1 b2 hb
  clear k0 k1
  have FE : ∀ {w4 W}, Below w.heap.size w w4 → Below w4.heap.size w4 W → Ex W x f d A c N F D := fun h1 h2 => (hE.below h1).below h2
  have CC : Hid (∀ W, Below w.heap.size w W → Calls Tryd.prog 54 #[.agg #[.pointer (some ⟨x, 0, none⟩), .int .i64 (r : Nat)]] W fun e w' => e = endR R ∧ Below W.heap.size W w') := fun W hW => by
    have := hc W (hE.below hW)
    skip
    exact this
  clear FE hc
  cases R with
  | error z =>
    obtain ⟨za, ze⟩ := z
    have he : endR (.error (za, ze)) = .panicked [faultV za ze] := rfl
    rw [he] at CC hEE
    have HE9 := Lib.hid hEE
    clear hE hE2 hy ho hnv hmv hS hav hEE he
    go_enter Tryd.func26, Tryd.ntmps26
    go_wp2_with (first
      | (go_at_call 45; refine CN.out.mono ?_; rintro e w3 ⟨rfl, hb3⟩; obtain ⟨w4, hw4, FX⟩ := AX.out w3 hb3; have FX := Lib.hid FX; obtain ⟨⟨p0, p1⟩, ⟨q0, q2, q3⟩, h4, hz4⟩ := FX.out w4 (Below.refl _ _))
      | (go_at_call 54; refine (CC.out w4 hz4).mono ?_; rintro e w5 ⟨rfl, hb5⟩; obtain ⟨_, _, _, hz⟩ := FX.out w5 hb5)
      | fail)
    exact ⟨rfl, HE9.out, hz⟩
  | ok t =>
    obtain ⟨so9, bl9, nn9, S9, hth⟩ := thC_four t
    have he : endR (.ok t) = .returned (.agg #[.int .i64 so9, .bool bl9, .int .u64 (nn9 : Nat), .string S9]) := by rw [← hth]; rfl
    rw [he] at CC hEE
    have HE9 := Lib.hid hEE
    clear hE hE2 hy ho hnv hmv hS hav hEE he hth
    go_enter Tryd.func26, Tryd.ntmps26
    go_wp2_with (first
      | (go_at_call 45; refine CN.out.mono ?_; rintro e w3 ⟨rfl, hb3⟩; obtain ⟨w4, hw4, FX⟩ := AX.out w3 hb3; have FX := Lib.hid FX; obtain ⟨⟨p0, p1⟩, ⟨q0, q2, q3⟩, h4, hz4⟩ := FX.out w4 (Below.refl _ _))
      | (go_at_call 54; refine (CC.out w4 hz4).mono ?_; rintro e w5 ⟨rfl, hb5⟩; obtain ⟨_, _, h9, hz⟩ := FX.out w5 hb5)
      | (refine wpList_store_cb rfl 64 (.tmp 2) (.tmp 70) rfl (w.heap.size + 1) _ #[.int .i64 so9, .bool bl9, .int .u64 (nn9 : Nat), .string S9] rfl rfl h9 rfl (by kernel_rfl) (by kernel_rfl) ?_; intro w9 k9 t9)
      | fail)
    exact bodyPost_ret (results_cb rfl _ _ _ _ rfl k9 Tryd.underlying64 rfl (by kernel_rfl)) rfl ⟨HE9.out, hz.trans (t9.below (by omega))⟩
set_option maxRecDepth 100000 in
set_option maxHeartbeats 8000000 in
theorem reckon11_any {w : World} {x f d : Nat} {A : Option Addr} {c : Nat} {N : List Rn} {F D : List Nat} {r : Nat} {y : Rn} (hE : Ex w x f d A c N F D) (hy : N[r]? = some y) (ho : y.op = 11) (EE : Ending) (R : Res) (hEE : endR R = EE) (hc : ∀ W, Ex W x f d A c N F D → Calls Tryd.prog 55 #[.agg #[.pointer (some ⟨x, 0, none⟩), .int .i64 (r : Nat)]] W fun e w' => e = endR R ∧ Below W.heap.size W w') :
    Calls Tryd.prog 26 #[.agg #[.pointer (some ⟨x, 0, none⟩), .int .i64 (r : Nat)]] w fun e w' => e = EE ∧ Below w.heap.size w w' := by
  obtain ⟨w2, hw2, b2, s2, k0, k1⟩ := sub_mean w x r
  have c0 : w2.cell? ⟨w.heap.size, 0, none⟩ = some (.pointer (some ⟨x, 0, none⟩)) := k0.at_ 0
  have c1 : w2.cell? ⟨w.heap.size, 1, none⟩ = some (.int .i64 (r : Nat)) := k0.at_ 1
  have hE2 := hE.below b2
  obtain ⟨nv, hnv⟩ : ∃ n, y.n = n := ⟨_, rfl⟩
  obtain ⟨mv, hmv⟩ : ∃ n, y.num = n := ⟨_, rfl⟩
  obtain ⟨S, hS⟩ : ∃ S, str y.t = S := ⟨_, rfl⟩
  obtain ⟨av, hav⟩ : ∃ n, y.a = n := ⟨_, rfl⟩
  have CN : Hid (Calls Tryd.prog 45 #[.agg #[.pointer (some ⟨x, 0, none⟩), .int .i64 (r : Nat)]] w2 fun e w3 => e = .returned (.agg #[.int .i64 11, .int .i64 nv, .int .u64 (mv : Nat), .string S, .int .i64 av]) ∧ Below w2.heap.size w2 w3) := by
    have := pnode_any hE2.xb hE2.rn (Nat.le_refl _) hy
    rw [ho, hnv, hmv, hS, hav] at this
    exact this
  have AX : Hid (∀ w3, Below w2.heap.size w2 w3 → ∃ w4, w3.alloc (.cells #[.int .i64 11, .int .i64 nv, .int .u64 (mv : Nat), .string S, .int .i64 av] 27) = w4 ∧ ∀ W, Below w4.heap.size w4 W → (W.cell? ⟨w.heap.size, 0, none⟩ = some (.pointer (some ⟨x, 0, none⟩)) ∧ W.cell? ⟨w.heap.size, 1, none⟩ = some (.int .i64 (r : Nat))) ∧
      (W.cell? ⟨w3.heap.size, 0, none⟩ = some (.int .i64 11) ∧ W.cell? ⟨w3.heap.size, 2, none⟩ = some (.int .u64 (mv : Nat)) ∧ W.cell? ⟨w3.heap.size, 3, none⟩ = some (.string S)) ∧
      CB W (w.heap.size + 1) 64 #[.int .i64 0, .bool false, .int .u64 0, .string ⟨#[]⟩] ∧ Below w.heap.size w W) := fun w3 hb => after_node k0 k1 b2 hb
  clear k0 k1
  have FE : ∀ {w4 W}, Below w.heap.size w w4 → Below w4.heap.size w4 W → Ex W x f d A c N F D := fun h1 h2 => (hE.below h1).below h2
  have CC : Hid (∀ W, Below w.heap.size w W → Calls Tryd.prog 55 #[.agg #[.pointer (some ⟨x, 0, none⟩), .int .i64 (r : Nat)]] W fun e w' => e = endR R ∧ Below W.heap.size W w') := fun W hW => by
    have := hc W (hE.below hW)
    skip
    exact this
  clear FE hc
  cases R with
  | error z =>
    obtain ⟨za, ze⟩ := z
    have he : endR (.error (za, ze)) = .panicked [faultV za ze] := rfl
    rw [he] at CC hEE
    have HE9 := Lib.hid hEE
    clear hE hE2 hy ho hnv hmv hS hav hEE he
    go_enter Tryd.func26, Tryd.ntmps26
    go_wp2_with (first
      | (go_at_call 45; refine CN.out.mono ?_; rintro e w3 ⟨rfl, hb3⟩; obtain ⟨w4, hw4, FX⟩ := AX.out w3 hb3; have FX := Lib.hid FX; obtain ⟨⟨p0, p1⟩, ⟨q0, q2, q3⟩, h4, hz4⟩ := FX.out w4 (Below.refl _ _))
      | (go_at_call 55; refine (CC.out w4 hz4).mono ?_; rintro e w5 ⟨rfl, hb5⟩; obtain ⟨_, _, _, hz⟩ := FX.out w5 hb5)
      | fail)
    exact ⟨rfl, HE9.out, hz⟩
  | ok t =>
    obtain ⟨so9, bl9, nn9, S9, hth⟩ := thC_four t
    have he : endR (.ok t) = .returned (.agg #[.int .i64 so9, .bool bl9, .int .u64 (nn9 : Nat), .string S9]) := by rw [← hth]; rfl
    rw [he] at CC hEE
    have HE9 := Lib.hid hEE
    clear hE hE2 hy ho hnv hmv hS hav hEE he hth
    go_enter Tryd.func26, Tryd.ntmps26
    go_wp2_with (first
      | (go_at_call 45; refine CN.out.mono ?_; rintro e w3 ⟨rfl, hb3⟩; obtain ⟨w4, hw4, FX⟩ := AX.out w3 hb3; have FX := Lib.hid FX; obtain ⟨⟨p0, p1⟩, ⟨q0, q2, q3⟩, h4, hz4⟩ := FX.out w4 (Below.refl _ _))
      | (go_at_call 55; refine (CC.out w4 hz4).mono ?_; rintro e w5 ⟨rfl, hb5⟩; obtain ⟨_, _, h9, hz⟩ := FX.out w5 hb5)
      | (refine wpList_store_cb rfl 64 (.tmp 2) (.tmp 74) rfl (w.heap.size + 1) _ #[.int .i64 so9, .bool bl9, .int .u64 (nn9 : Nat), .string S9] rfl rfl h9 rfl (by kernel_rfl) (by kernel_rfl) ?_; intro w9 k9 t9)
      | fail)
    exact bodyPost_ret (results_cb rfl _ _ _ _ rfl k9 Tryd.underlying64 rfl (by kernel_rfl)) rfl ⟨HE9.out, hz.trans (t9.below (by omega))⟩
set_option maxRecDepth 100000 in
set_option maxHeartbeats 8000000 in
theorem reckon12_any {w : World} {x f d : Nat} {A : Option Addr} {c : Nat} {N : List Rn} {F D : List Nat} {r : Nat} {y : Rn} (hE : Ex w x f d A c N F D) (hy : N[r]? = some y) (ho : y.op = 12) (EE : Ending) (R : Res) (hEE : endR R = EE) (hc : ∀ W, Ex W x f d A c N F D → Calls Tryd.prog 56 #[.agg #[.pointer (some ⟨x, 0, none⟩), .int .i64 (r : Nat)]] W fun e w' => e = endR R ∧ Below W.heap.size W w') :
    Calls Tryd.prog 26 #[.agg #[.pointer (some ⟨x, 0, none⟩), .int .i64 (r : Nat)]] w fun e w' => e = EE ∧ Below w.heap.size w w' := by
  obtain ⟨w2, hw2, b2, s2, k0, k1⟩ := sub_mean w x r
  have c0 : w2.cell? ⟨w.heap.size, 0, none⟩ = some (.pointer (some ⟨x, 0, none⟩)) := k0.at_ 0
  have c1 : w2.cell? ⟨w.heap.size, 1, none⟩ = some (.int .i64 (r : Nat)) := k0.at_ 1
  have hE2 := hE.below b2
  obtain ⟨nv, hnv⟩ : ∃ n, y.n = n := ⟨_, rfl⟩
  obtain ⟨mv, hmv⟩ : ∃ n, y.num = n := ⟨_, rfl⟩
  obtain ⟨S, hS⟩ : ∃ S, str y.t = S := ⟨_, rfl⟩
  obtain ⟨av, hav⟩ : ∃ n, y.a = n := ⟨_, rfl⟩
  have CN : Hid (Calls Tryd.prog 45 #[.agg #[.pointer (some ⟨x, 0, none⟩), .int .i64 (r : Nat)]] w2 fun e w3 => e = .returned (.agg #[.int .i64 12, .int .i64 nv, .int .u64 (mv : Nat), .string S, .int .i64 av]) ∧ Below w2.heap.size w2 w3) := by
    have := pnode_any hE2.xb hE2.rn (Nat.le_refl _) hy
    rw [ho, hnv, hmv, hS, hav] at this
    exact this
  have AX : Hid (∀ w3, Below w2.heap.size w2 w3 → ∃ w4, w3.alloc (.cells #[.int .i64 12, .int .i64 nv, .int .u64 (mv : Nat), .string S, .int .i64 av] 27) = w4 ∧ ∀ W, Below w4.heap.size w4 W → (W.cell? ⟨w.heap.size, 0, none⟩ = some (.pointer (some ⟨x, 0, none⟩)) ∧ W.cell? ⟨w.heap.size, 1, none⟩ = some (.int .i64 (r : Nat))) ∧
      (W.cell? ⟨w3.heap.size, 0, none⟩ = some (.int .i64 12) ∧ W.cell? ⟨w3.heap.size, 2, none⟩ = some (.int .u64 (mv : Nat)) ∧ W.cell? ⟨w3.heap.size, 3, none⟩ = some (.string S)) ∧
      CB W (w.heap.size + 1) 64 #[.int .i64 0, .bool false, .int .u64 0, .string ⟨#[]⟩] ∧ Below w.heap.size w W) := fun w3 hb => after_node k0 k1 b2 hb
  clear k0 k1
  have FE : ∀ {w4 W}, Below w.heap.size w w4 → Below w4.heap.size w4 W → Ex W x f d A c N F D := fun h1 h2 => (hE.below h1).below h2
  have CC : Hid (∀ W, Below w.heap.size w W → Calls Tryd.prog 56 #[.agg #[.pointer (some ⟨x, 0, none⟩), .int .i64 (r : Nat)]] W fun e w' => e = endR R ∧ Below W.heap.size W w') := fun W hW => by
    have := hc W (hE.below hW)
    skip
    exact this
  clear FE hc
  cases R with
  | error z =>
    obtain ⟨za, ze⟩ := z
    have he : endR (.error (za, ze)) = .panicked [faultV za ze] := rfl
    rw [he] at CC hEE
    have HE9 := Lib.hid hEE
    clear hE hE2 hy ho hnv hmv hS hav hEE he
    go_enter Tryd.func26, Tryd.ntmps26
    go_wp2_with (first
      | (go_at_call 45; refine CN.out.mono ?_; rintro e w3 ⟨rfl, hb3⟩; obtain ⟨w4, hw4, FX⟩ := AX.out w3 hb3; have FX := Lib.hid FX; obtain ⟨⟨p0, p1⟩, ⟨q0, q2, q3⟩, h4, hz4⟩ := FX.out w4 (Below.refl _ _))
      | (go_at_call 56; refine (CC.out w4 hz4).mono ?_; rintro e w5 ⟨rfl, hb5⟩; obtain ⟨_, _, _, hz⟩ := FX.out w5 hb5)
      | fail)
    exact ⟨rfl, HE9.out, hz⟩
  | ok t =>
    obtain ⟨so9, bl9, nn9, S9, hth⟩ := thC_four t
    have he : endR (.ok t) = .returned (.agg #[.int .i64 so9, .bool bl9, .int .u64 (nn9 : Nat), .string S9]) := by rw [← hth]; rfl
    rw [he] at CC hEE
    have HE9 := Lib.hid hEE
    clear hE hE2 hy ho hnv hmv hS hav hEE he hth
    go_enter Tryd.func26, Tryd.ntmps26
    go_wp2_with (first
      | (go_at_call 45; refine CN.out.mono ?_; rintro e w3 ⟨rfl, hb3⟩; obtain ⟨w4, hw4, FX⟩ := AX.out w3 hb3; have FX := Lib.hid FX; obtain ⟨⟨p0, p1⟩, ⟨q0, q2, q3⟩, h4, hz4⟩ := FX.out w4 (Below.refl _ _))
      | (go_at_call 56; refine (CC.out w4 hz4).mono ?_; rintro e w5 ⟨rfl, hb5⟩; obtain ⟨_, _, h9, hz⟩ := FX.out w5 hb5)
      | (refine wpList_store_cb rfl 64 (.tmp 2) (.tmp 13) rfl (w.heap.size + 1) _ #[.int .i64 so9, .bool bl9, .int .u64 (nn9 : Nat), .string S9] rfl rfl h9 rfl (by kernel_rfl) (by kernel_rfl) ?_; intro w9 k9 t9)
      | fail)
    exact bodyPost_ret (results_cb rfl _ _ _ _ rfl k9 Tryd.underlying64 rfl (by kernel_rfl)) rfl ⟨HE9.out, hz.trans (t9.below (by omega))⟩
end Go.Proofs.YtmbiompmhaiehaaDoor
/- The walk of the code: the reckoning, differences and products. -/
namespace Go.Proofs.YtmbiompmhaiehaaDoor
open Go.RowKit

set_option maxRecDepth 100000 in
set_option maxHeartbeats 8000000 in
theorem reckon7_any {w : World} {x f d : Nat} {A : Option Addr} {c : Nat} {N : List Rn} {F D : List Nat} {r : Nat} {y : Rn} (hE : Ex w x f d A c N F D) (hy : N[r]? = some y) (ho : y.op = 7) (EE : Ending) (z1 z2 : Res) (hEE : comb2 r (arF (· - ·)) z1 z2 = EE) (hz1 : ∀ t, z1 = .ok t → t.Ok) (hz2 : ∀ t, z2 = .ok t → t.Ok) (hc : ∀ W, Ex W x f d A c N F D → Calls Tryd.prog 49 #[.agg #[.pointer (some ⟨x, 0, none⟩), .int .i64 (r : Nat)]] W fun e w' => e = endTwo z1 z2 ∧ Below W.heap.size W w') :
    Calls Tryd.prog 26 #[.agg #[.pointer (some ⟨x, 0, none⟩), .int .i64 (r : Nat)]] w fun e w' => e = EE ∧ Below w.heap.size w w' := by
  obtain ⟨w2, hw2, b2, s2, k0, k1⟩ := sub_mean w x r
  have c0 : w2.cell? ⟨w.heap.size, 0, none⟩ = some (.pointer (some ⟨x, 0, none⟩)) := k0.at_ 0
  have c1 : w2.cell? ⟨w.heap.size, 1, none⟩ = some (.int .i64 (r : Nat)) := k0.at_ 1
  have hE2 := hE.below b2
  obtain ⟨nv, hnv⟩ : ∃ n, y.n = n := ⟨_, rfl⟩
  obtain ⟨mv, hmv⟩ : ∃ n, y.num = n := ⟨_, rfl⟩
  obtain ⟨S, hS⟩ : ∃ S, str y.t = S := ⟨_, rfl⟩
  obtain ⟨av, hav⟩ : ∃ n, y.a = n := ⟨_, rfl⟩
  have CN : Hid (Calls Tryd.prog 45 #[.agg #[.pointer (some ⟨x, 0, none⟩), .int .i64 (r : Nat)]] w2 fun e w3 => e = .returned (.agg #[.int .i64 7, .int .i64 nv, .int .u64 (mv : Nat), .string S, .int .i64 av]) ∧ Below w2.heap.size w2 w3) := by
    have := pnode_any hE2.xb hE2.rn (Nat.le_refl _) hy
    rw [ho, hnv, hmv, hS, hav] at this
    exact this
  have AX : Hid (∀ w3, Below w2.heap.size w2 w3 → ∃ w4, w3.alloc (.cells #[.int .i64 7, .int .i64 nv, .int .u64 (mv : Nat), .string S, .int .i64 av] 27) = w4 ∧ ∀ W, Below w4.heap.size w4 W → (W.cell? ⟨w.heap.size, 0, none⟩ = some (.pointer (some ⟨x, 0, none⟩)) ∧ W.cell? ⟨w.heap.size, 1, none⟩ = some (.int .i64 (r : Nat))) ∧
      (W.cell? ⟨w3.heap.size, 0, none⟩ = some (.int .i64 7) ∧ W.cell? ⟨w3.heap.size, 2, none⟩ = some (.int .u64 (mv : Nat)) ∧ W.cell? ⟨w3.heap.size, 3, none⟩ = some (.string S)) ∧
      CB W (w.heap.size + 1) 64 #[.int .i64 0, .bool false, .int .u64 0, .string ⟨#[]⟩] ∧ Below w.heap.size w W) := fun w3 hb => after_node k0 k1 b2 hb
  clear k0 k1
  have CC : Hid (∀ W, Below w.heap.size w W → Calls Tryd.prog 49 #[.agg #[.pointer (some ⟨x, 0, none⟩), .int .i64 (r : Nat)]] W fun e w' => e = endTwo z1 z2 ∧ Below W.heap.size W w') := fun W hW => hc W (hE.below hW)
  clear hc
  have FLT : ∀ za ze, endTwo z1 z2 = .panicked [faultV za ze] → .panicked [faultV za ze] = EE → Calls Tryd.prog 26 #[.agg #[.pointer (some ⟨x, 0, none⟩), .int .i64 (r : Nat)]] w fun e w' => e = EE ∧ Below w.heap.size w w' := by
    intro za ze g1 g2
    rw [g1] at CC
    have HE9 := Lib.hid g2
    clear hE hE2 hy ho hnv hmv hS hav hEE hz1 hz2 g1 g2
    go_enter Tryd.func26, Tryd.ntmps26
    go_wp2_with (first
      | (go_at_call 45; refine CN.out.mono ?_; rintro e w3 ⟨rfl, hb3⟩; obtain ⟨w4, hw4, FX⟩ := AX.out w3 hb3; have FX := Lib.hid FX; obtain ⟨⟨p0, p1⟩, ⟨q0, q2, q3⟩, h4, hz4⟩ := FX.out w4 (Below.refl _ _))
      | (go_at_call 49; refine (CC.out w4 hz4).mono ?_; rintro e w5 ⟨rfl, hb5⟩; obtain ⟨_, _, _, hz⟩ := FX.out w5 hb5)
      | fail)
    exact ⟨rfl, HE9.out, hz⟩
  cases z1 with
  | error z => exact FLT z.1 z.2 rfl hEE
  | ok a =>
  cases z2 with
  | error z => exact FLT z.1 z.2 rfl hEE
  | ok b =>
  clear FLT
  have hokA := hz1 a rfl
  have hokB := hz2 b rfl
  obtain ⟨so1, bl1, nn1, S1, e1⟩ := thC_four a
  obtain ⟨so2, bl2, nn2, S2, e2⟩ := thC_four b
  have he : endTwo (.ok a) (.ok b) = .returned (.tuple #[.agg #[.int .i64 so1, .bool bl1, .int .u64 (nn1 : Nat), .string S1], .agg #[.int .i64 so2, .bool bl2, .int .u64 (nn2 : Nat), .string S2]]) := by rw [← e1, ← e2]; rfl
  rw [he] at CC
  have CA : Hid (∀ W, Calls Tryd.prog 50 #[.agg #[.pointer (some ⟨x, 0, none⟩), .int .i64 (r : Nat)], .agg #[.int .i64 so1, .bool bl1, .int .u64 (nn1 : Nat), .string S1], .agg #[.int .i64 so2, .bool bl2, .int .u64 (nn2 : Nat), .string S2], .func (.func 51) #[] #[]] W fun e w' => e = endO r (arF (· - ·) a b) ∧ Below W.heap.size W w') := fun W => by
    have := arith_any W x r 51 (· - ·) (enters_of Tryd.func51 (by kernel_rfl) rfl) difference_any a b hokA hokB
    rw [e1, e2] at this
    exact this
  have hEE : endO r (arF (· - ·) a b) = EE := hEE
  obtain ⟨R, hR⟩ : ∃ R, arF (· - ·) a b = R := ⟨_, rfl⟩
  rw [hR] at CA hEE
  -- both kids' things in their blocks
  have TX : Hid (∀ w4 w5, Below w4.heap.size w4 w5 → ∃ w6, (w5.alloc (.cells #[.int .i64 so1, .bool bl1, .int .u64 (nn1 : Nat), .string S1] 64)).alloc (.cells #[.int .i64 so2, .bool bl2, .int .u64 (nn2 : Nat), .string S2] 64) = w6 ∧ Below w4.heap.size w4 w6 ∧
      (w6.cell? ⟨w5.heap.size, 0, none⟩ = some (.int .i64 so1) ∧ w6.cell? ⟨w5.heap.size, 1, none⟩ = some (.bool bl1) ∧ w6.cell? ⟨w5.heap.size, 2, none⟩ = some (.int .u64 (nn1 : Nat)) ∧ w6.cell? ⟨w5.heap.size, 3, none⟩ = some (.string S1)) ∧
      (w6.cell? ⟨w5.heap.size + 1, 0, none⟩ = some (.int .i64 so2) ∧ w6.cell? ⟨w5.heap.size + 1, 1, none⟩ = some (.bool bl2) ∧ w6.cell? ⟨w5.heap.size + 1, 2, none⟩ = some (.int .u64 (nn2 : Nat)) ∧ w6.cell? ⟨w5.heap.size + 1, 3, none⟩ = some (.string S2))) := fun w4 w5 hb => by
    have hb1 : Below w5.heap.size w5 (w5.alloc (.cells #[.int .i64 so1, .bool bl1, .int .u64 (nn1 : Nat), .string S1] 64)) := (Below.refl _ w5).alloc (Nat.le_refl _) _
    have q1 := CB.new w5 64 #[.int .i64 so1, .bool bl1, .int .u64 (nn1 : Nat), .string S1]
    obtain ⟨v5, hv5⟩ : ∃ v5, v5 = w5.alloc (.cells #[.int .i64 so1, .bool bl1, .int .u64 (nn1 : Nat), .string S1] 64) := ⟨_, rfl⟩
    rw [← hv5] at hb1 q1 ⊢
    have s5 : v5.heap.size = w5.heap.size + 1 := by rw [hv5]; simp
    have hb2 : Below v5.heap.size v5 (v5.alloc (.cells #[.int .i64 so2, .bool bl2, .int .u64 (nn2 : Nat), .string S2] 64)) := (Below.refl _ v5).alloc (Nat.le_refl _) _
    have q2 := CB.new v5 64 #[.int .i64 so2, .bool bl2, .int .u64 (nn2 : Nat), .string S2]
    rw [s5] at q2
    have q3 := q1.below hb2
    exact ⟨_, rfl, Below.both hb (Below.both hb1 hb2), ⟨q3.at_ 0, q3.at_ 1, q3.at_ 2, q3.at_ 3⟩, ⟨q2.at_ 0, q2.at_ 1, q2.at_ 2, q2.at_ 3⟩⟩
  clear hE hE2 hy ho hnv hmv hS hav hz1 hz2 hokA hokB e1 e2 he hR
  cases R with
  | error ze =>
    have he : endO r (.error ze) = .panicked [faultV r ze] := rfl
    rw [he] at CA hEE
    have HE9 := Lib.hid hEE
    clear he hEE
    go_enter Tryd.func26, Tryd.ntmps26
    go_wp2_with (first
      | (go_at_call 45; refine CN.out.mono ?_; rintro e w3 ⟨rfl, hb3⟩; obtain ⟨w4, hw4, FX⟩ := AX.out w3 hb3; have FX := Lib.hid FX; obtain ⟨⟨p0, p1⟩, ⟨q0, q2, q3⟩, h4, hz4⟩ := FX.out w4 (Below.refl _ _))
      | (go_at_call 49; refine (CC.out w4 hz4).mono ?_; rintro e w5 ⟨rfl, hb5⟩; obtain ⟨w6, hw6, hb6, ⟨l0, l1, l2, l3⟩, ⟨m0, m1, m2, m3⟩⟩ := TX.out w4 w5 hb5; clear p0 p1 q0 q2 q3; obtain ⟨⟨p0, p1⟩, _, _, _⟩ := FX.out w6 hb6)
      | (go_at_call 50; refine (CA.out w6).mono ?_; rintro e w7 ⟨rfl, hb7⟩; obtain ⟨_, _, _, hz⟩ := FX.out w7 (Below.both hb6 hb7))
      | fail)
    exact ⟨rfl, HE9.out, hz⟩
  | ok t =>
    obtain ⟨so9, bl9, nn9, S9, hth⟩ := thC_four t
    have he : endO r (.ok t) = .returned (.agg #[.int .i64 so9, .bool bl9, .int .u64 (nn9 : Nat), .string S9]) := by rw [← hth]; rfl
    rw [he] at CA hEE
    have HE9 := Lib.hid hEE
    clear he hEE hth
    go_enter Tryd.func26, Tryd.ntmps26
    go_wp2_with (first
      | (go_at_call 45; refine CN.out.mono ?_; rintro e w3 ⟨rfl, hb3⟩; obtain ⟨w4, hw4, FX⟩ := AX.out w3 hb3; have FX := Lib.hid FX; obtain ⟨⟨p0, p1⟩, ⟨q0, q2, q3⟩, h4, hz4⟩ := FX.out w4 (Below.refl _ _))
      | (go_at_call 49; refine (CC.out w4 hz4).mono ?_; rintro e w5 ⟨rfl, hb5⟩; obtain ⟨w6, hw6, hb6, ⟨l0, l1, l2, l3⟩, ⟨m0, m1, m2, m3⟩⟩ := TX.out w4 w5 hb5; clear p0 p1 q0 q2 q3; obtain ⟨⟨p0, p1⟩, _, _, _⟩ := FX.out w6 hb6)
      | (go_at_call 50; refine (CA.out w6).mono ?_; rintro e w7 ⟨rfl, hb7⟩; obtain ⟨_, _, h9, hz⟩ := FX.out w7 (Below.both hb6 hb7))
      | (refine wpList_store_cb rfl 64 (.tmp 2) (.tmp 51) rfl (w.heap.size + 1) _ #[.int .i64 so9, .bool bl9, .int .u64 (nn9 : Nat), .string S9] rfl rfl h9 rfl (by kernel_rfl) (by kernel_rfl) ?_; intro w9 k9 t9)
      | fail)
    exact bodyPost_ret (results_cb rfl _ _ _ _ rfl k9 Tryd.underlying64 rfl (by kernel_rfl)) rfl ⟨HE9.out, hz.trans (t9.below (by omega))⟩
set_option maxRecDepth 100000 in
set_option maxHeartbeats 8000000 in
theorem reckon8_any {w : World} {x f d : Nat} {A : Option Addr} {c : Nat} {N : List Rn} {F D : List Nat} {r : Nat} {y : Rn} (hE : Ex w x f d A c N F D) (hy : N[r]? = some y) (ho : y.op = 8) (EE : Ending) (z1 z2 : Res) (hEE : comb2 r (arF (· * ·)) z1 z2 = EE) (hz1 : ∀ t, z1 = .ok t → t.Ok) (hz2 : ∀ t, z2 = .ok t → t.Ok) (hc : ∀ W, Ex W x f d A c N F D → Calls Tryd.prog 49 #[.agg #[.pointer (some ⟨x, 0, none⟩), .int .i64 (r : Nat)]] W fun e w' => e = endTwo z1 z2 ∧ Below W.heap.size W w') :
    Calls Tryd.prog 26 #[.agg #[.pointer (some ⟨x, 0, none⟩), .int .i64 (r : Nat)]] w fun e w' => e = EE ∧ Below w.heap.size w w' := by
  obtain ⟨w2, hw2, b2, s2, k0, k1⟩ := sub_mean w x r
  have c0 : w2.cell? ⟨w.heap.size, 0, none⟩ = some (.pointer (some ⟨x, 0, none⟩)) := k0.at_ 0
  have c1 : w2.cell? ⟨w.heap.size, 1, none⟩ = some (.int .i64 (r : Nat)) := k0.at_ 1
  have hE2 := hE.below b2
  obtain ⟨nv, hnv⟩ : ∃ n, y.n = n := ⟨_, rfl⟩
  obtain ⟨mv, hmv⟩ : ∃ n, y.num = n := ⟨_, rfl⟩
  obtain ⟨S, hS⟩ : ∃ S, str y.t = S := ⟨_, rfl⟩
  obtain ⟨av, hav⟩ : ∃ n, y.a = n := ⟨_, rfl⟩
  have CN : Hid (Calls Tryd.prog 45 #[.agg #[.pointer (some ⟨x, 0, none⟩), .int .i64 (r : Nat)]] w2 fun e w3 => e = .returned (.agg #[.int .i64 8, .int .i64 nv, .int .u64 (mv : Nat), .string S, .int .i64 av]) ∧ Below w2.heap.size w2 w3) := by
    have := pnode_any hE2.xb hE2.rn (Nat.le_refl _) hy
    rw [ho, hnv, hmv, hS, hav] at this
    exact this
  have AX : Hid (∀ w3, Below w2.heap.size w2 w3 → ∃ w4, w3.alloc (.cells #[.int .i64 8, .int .i64 nv, .int .u64 (mv : Nat), .string S, .int .i64 av] 27) = w4 ∧ ∀ W, Below w4.heap.size w4 W → (W.cell? ⟨w.heap.size, 0, none⟩ = some (.pointer (some ⟨x, 0, none⟩)) ∧ W.cell? ⟨w.heap.size, 1, none⟩ = some (.int .i64 (r : Nat))) ∧
      (W.cell? ⟨w3.heap.size, 0, none⟩ = some (.int .i64 8) ∧ W.cell? ⟨w3.heap.size, 2, none⟩ = some (.int .u64 (mv : Nat)) ∧ W.cell? ⟨w3.heap.size, 3, none⟩ = some (.string S)) ∧
      CB W (w.heap.size + 1) 64 #[.int .i64 0, .bool false, .int .u64 0, .string ⟨#[]⟩] ∧ Below w.heap.size w W) := fun w3 hb => after_node k0 k1 b2 hb
  clear k0 k1
  have CC : Hid (∀ W, Below w.heap.size w W → Calls Tryd.prog 49 #[.agg #[.pointer (some ⟨x, 0, none⟩), .int .i64 (r : Nat)]] W fun e w' => e = endTwo z1 z2 ∧ Below W.heap.size W w') := fun W hW => hc W (hE.below hW)
  clear hc
  have FLT : ∀ za ze, endTwo z1 z2 = .panicked [faultV za ze] → .panicked [faultV za ze] = EE → Calls Tryd.prog 26 #[.agg #[.pointer (some ⟨x, 0, none⟩), .int .i64 (r : Nat)]] w fun e w' => e = EE ∧ Below w.heap.size w w' := by
    intro za ze g1 g2
    rw [g1] at CC
    have HE9 := Lib.hid g2
    clear hE hE2 hy ho hnv hmv hS hav hEE hz1 hz2 g1 g2
    go_enter Tryd.func26, Tryd.ntmps26
    go_wp2_with (first
      | (go_at_call 45; refine CN.out.mono ?_; rintro e w3 ⟨rfl, hb3⟩; obtain ⟨w4, hw4, FX⟩ := AX.out w3 hb3; have FX := Lib.hid FX; obtain ⟨⟨p0, p1⟩, ⟨q0, q2, q3⟩, h4, hz4⟩ := FX.out w4 (Below.refl _ _))
      | (go_at_call 49; refine (CC.out w4 hz4).mono ?_; rintro e w5 ⟨rfl, hb5⟩; obtain ⟨_, _, _, hz⟩ := FX.out w5 hb5)
      | fail)
    exact ⟨rfl, HE9.out, hz⟩
  cases z1 with
  | error z => exact FLT z.1 z.2 rfl hEE
  | ok a =>
  cases z2 with
  | error z => exact FLT z.1 z.2 rfl hEE
  | ok b =>
  clear FLT
  have hokA := hz1 a rfl
  have hokB := hz2 b rfl
  obtain ⟨so1, bl1, nn1, S1, e1⟩ := thC_four a
  obtain ⟨so2, bl2, nn2, S2, e2⟩ := thC_four b
  have he : endTwo (.ok a) (.ok b) = .returned (.tuple #[.agg #[.int .i64 so1, .bool bl1, .int .u64 (nn1 : Nat), .string S1], .agg #[.int .i64 so2, .bool bl2, .int .u64 (nn2 : Nat), .string S2]]) := by rw [← e1, ← e2]; rfl
  rw [he] at CC
  have CA : Hid (∀ W, Calls Tryd.prog 50 #[.agg #[.pointer (some ⟨x, 0, none⟩), .int .i64 (r : Nat)], .agg #[.int .i64 so1, .bool bl1, .int .u64 (nn1 : Nat), .string S1], .agg #[.int .i64 so2, .bool bl2, .int .u64 (nn2 : Nat), .string S2], .func (.func 52) #[] #[]] W fun e w' => e = endO r (arF (· * ·) a b) ∧ Below W.heap.size W w') := fun W => by
    have := arith_any W x r 52 (· * ·) (enters_of Tryd.func52 (by kernel_rfl) rfl) product_any a b hokA hokB
    rw [e1, e2] at this
    exact this
  have hEE : endO r (arF (· * ·) a b) = EE := hEE
  obtain ⟨R, hR⟩ : ∃ R, arF (· * ·) a b = R := ⟨_, rfl⟩
  rw [hR] at CA hEE
  -- both kids' things in their blocks
  have TX : Hid (∀ w4 w5, Below w4.heap.size w4 w5 → ∃ w6, (w5.alloc (.cells #[.int .i64 so1, .bool bl1, .int .u64 (nn1 : Nat), .string S1] 64)).alloc (.cells #[.int .i64 so2, .bool bl2, .int .u64 (nn2 : Nat), .string S2] 64) = w6 ∧ Below w4.heap.size w4 w6 ∧
      (w6.cell? ⟨w5.heap.size, 0, none⟩ = some (.int .i64 so1) ∧ w6.cell? ⟨w5.heap.size, 1, none⟩ = some (.bool bl1) ∧ w6.cell? ⟨w5.heap.size, 2, none⟩ = some (.int .u64 (nn1 : Nat)) ∧ w6.cell? ⟨w5.heap.size, 3, none⟩ = some (.string S1)) ∧
      (w6.cell? ⟨w5.heap.size + 1, 0, none⟩ = some (.int .i64 so2) ∧ w6.cell? ⟨w5.heap.size + 1, 1, none⟩ = some (.bool bl2) ∧ w6.cell? ⟨w5.heap.size + 1, 2, none⟩ = some (.int .u64 (nn2 : Nat)) ∧ w6.cell? ⟨w5.heap.size + 1, 3, none⟩ = some (.string S2))) := fun w4 w5 hb => by
    have hb1 : Below w5.heap.size w5 (w5.alloc (.cells #[.int .i64 so1, .bool bl1, .int .u64 (nn1 : Nat), .string S1] 64)) := (Below.refl _ w5).alloc (Nat.le_refl _) _
    have q1 := CB.new w5 64 #[.int .i64 so1, .bool bl1, .int .u64 (nn1 : Nat), .string S1]
    obtain ⟨v5, hv5⟩ : ∃ v5, v5 = w5.alloc (.cells #[.int .i64 so1, .bool bl1, .int .u64 (nn1 : Nat), .string S1] 64) := ⟨_, rfl⟩
    rw [← hv5] at hb1 q1 ⊢
    have s5 : v5.heap.size = w5.heap.size + 1 := by rw [hv5]; simp
    have hb2 : Below v5.heap.size v5 (v5.alloc (.cells #[.int .i64 so2, .bool bl2, .int .u64 (nn2 : Nat), .string S2] 64)) := (Below.refl _ v5).alloc (Nat.le_refl _) _
    have q2 := CB.new v5 64 #[.int .i64 so2, .bool bl2, .int .u64 (nn2 : Nat), .string S2]
    rw [s5] at q2
    have q3 := q1.below hb2
    exact ⟨_, rfl, Below.both hb (Below.both hb1 hb2), ⟨q3.at_ 0, q3.at_ 1, q3.at_ 2, q3.at_ 3⟩, ⟨q2.at_ 0, q2.at_ 1, q2.at_ 2, q2.at_ 3⟩⟩
  clear hE hE2 hy ho hnv hmv hS hav hz1 hz2 hokA hokB e1 e2 he hR
  cases R with
  | error ze =>
    have he : endO r (.error ze) = .panicked [faultV r ze] := rfl
    rw [he] at CA hEE
    have HE9 := Lib.hid hEE
    clear he hEE
    go_enter Tryd.func26, Tryd.ntmps26
    go_wp2_with (first
      | (go_at_call 45; refine CN.out.mono ?_; rintro e w3 ⟨rfl, hb3⟩; obtain ⟨w4, hw4, FX⟩ := AX.out w3 hb3; have FX := Lib.hid FX; obtain ⟨⟨p0, p1⟩, ⟨q0, q2, q3⟩, h4, hz4⟩ := FX.out w4 (Below.refl _ _))
      | (go_at_call 49; refine (CC.out w4 hz4).mono ?_; rintro e w5 ⟨rfl, hb5⟩; obtain ⟨w6, hw6, hb6, ⟨l0, l1, l2, l3⟩, ⟨m0, m1, m2, m3⟩⟩ := TX.out w4 w5 hb5; clear p0 p1 q0 q2 q3; obtain ⟨⟨p0, p1⟩, _, _, _⟩ := FX.out w6 hb6)
      | (go_at_call 50; refine (CA.out w6).mono ?_; rintro e w7 ⟨rfl, hb7⟩; obtain ⟨_, _, _, hz⟩ := FX.out w7 (Below.both hb6 hb7))
      | fail)
    exact ⟨rfl, HE9.out, hz⟩
  | ok t =>
    obtain ⟨so9, bl9, nn9, S9, hth⟩ := thC_four t
    have he : endO r (.ok t) = .returned (.agg #[.int .i64 so9, .bool bl9, .int .u64 (nn9 : Nat), .string S9]) := by rw [← hth]; rfl
    rw [he] at CA hEE
    have HE9 := Lib.hid hEE
    clear he hEE hth
    go_enter Tryd.func26, Tryd.ntmps26
    go_wp2_with (first
      | (go_at_call 45; refine CN.out.mono ?_; rintro e w3 ⟨rfl, hb3⟩; obtain ⟨w4, hw4, FX⟩ := AX.out w3 hb3; have FX := Lib.hid FX; obtain ⟨⟨p0, p1⟩, ⟨q0, q2, q3⟩, h4, hz4⟩ := FX.out w4 (Below.refl _ _))
      | (go_at_call 49; refine (CC.out w4 hz4).mono ?_; rintro e w5 ⟨rfl, hb5⟩; obtain ⟨w6, hw6, hb6, ⟨l0, l1, l2, l3⟩, ⟨m0, m1, m2, m3⟩⟩ := TX.out w4 w5 hb5; clear p0 p1 q0 q2 q3; obtain ⟨⟨p0, p1⟩, _, _, _⟩ := FX.out w6 hb6)
      | (go_at_call 50; refine (CA.out w6).mono ?_; rintro e w7 ⟨rfl, hb7⟩; obtain ⟨_, _, h9, hz⟩ := FX.out w7 (Below.both hb6 hb7))
      | (refine wpList_store_cb rfl 64 (.tmp 2) (.tmp 62) rfl (w.heap.size + 1) _ #[.int .i64 so9, .bool bl9, .int .u64 (nn9 : Nat), .string S9] rfl rfl h9 rfl (by kernel_rfl) (by kernel_rfl) ?_; intro w9 k9 t9)
      | fail)
    exact bodyPost_ret (results_cb rfl _ _ _ _ rfl k9 Tryd.underlying64 rfl (by kernel_rfl)) rfl ⟨HE9.out, hz.trans (t9.below (by omega))⟩
end Go.Proofs.YtmbiompmhaiehaaDoor
/- The walk of the code: the reckoning, whatever the node. -/
namespace Go.Proofs.YtmbiompmhaiehaaDoor
open Go.RowKit

theorem reckon_all {x f d : Nat} {A : Option Addr} {c : Nat} {N : List Rn} {F D : List Nat} : ∀ r, r < N.length → RecC x f d A c N F D r := by
  intro r
  induction r using Nat.strongRecOn with
  | ind r ih =>
    intro hr w hE
    have IH : ∀ r', r' < r → RecC x f d A c N F D r' := fun r' h => ih r' h (Nat.lt_trans h hr)
    obtain ⟨e, he, hF0, _⟩ := hE.kn r hr
    obtain ⟨Pq, hpile⟩ := he
    obtain ⟨P, y, k, hP, hy, ha, hk, hq⟩ := pile_succ hpile
    injection hq with hq1 hq2
    have hF : F[r]? = some (bottom r (P.take k)) := by rw [hF0, hq1]; rfl
    have hres : resAt N r = combR r y (kidRes N P k) := by rw [res_at hy ha, kid_res hP]
    rw [hres]
    have hok : ∀ j t, resAt N j = .ok t → t.Ok := fun j t ht => res_ok (fun y hy => (hE.num y hy).1) ht
    have h0 : k = 0 → kidRes N P k = [] := fun z => by rw [z]; rfl
    rcases arity_op ha with ⟨ho, hk0⟩ | ⟨ho, hk0⟩ | ⟨ho, hk0⟩ | ⟨ho, hk0⟩ | ⟨ho, hk0⟩ | ⟨ho, hk0⟩ | ⟨ho, hk0⟩ | ⟨ho, hk0⟩ | ⟨ho, hk0⟩ | ⟨ho, hk0⟩ | ⟨ho, hk0⟩ | ⟨ho, hk0⟩
    · refine reckon1_any hE hy ho _ ?_
      rw [h0 hk0, comb0_eq]
      unfold ownV
      rw [if_pos ho]
      show _ = Ending.returned (.agg #[.int .i64 1, .bool (decide (((y.num : Nat) : Int) < 0)), .int .u64 ((((y.num : Nat) : Int).natAbs : Nat) : Int), .string (str [])])
      rw [decide_eq_false (by omega : ¬ ((y.num : Nat) : Int) < 0), Int.natAbs_natCast]
      rfl
    · refine reckon2_any hE hy ho _ (combR r y (kidRes N P k)) rfl fun W _ => ?_
      rw [h0 hk0, comb0_eq]
      have : ownV y [] = textE y.t := by unfold ownV; rw [ho]; rfl
      rw [this]
      exact textOf_any W x r y.t (hE.num y (List.mem_of_getElem? hy)).2
    · refine reckon3_any hE hy ho _ ?_
      rw [h0 hk0, comb0_eq]
      have : ownV y [] = .ok (.truth true) := by unfold ownV; rw [ho]; rfl
      rw [this]
      rfl
    · refine reckon4_any hE hy ho _ ?_
      rw [h0 hk0, comb0_eq]
      have : ownV y [] = .ok (.truth false) := by unfold ownV; rw [ho]; rfl
      rw [this]
      rfl
    · subst hk0
      have h : ∀ t, ownV y [t] = negF t := by intro t; unfold ownV; rw [ho]; cases t <;> rfl
      refine reckon5_any hE hy ho _ (combR r y (kidRes N P 1)) rfl fun W hW => ?_
      rw [kidRes_one hk, comb1_eq h]
      exact negative_any IH hW hP hk hF hr
    · subst hk0
      have h : ∀ t u, ownV y [t, u] = addF t u := by intro t u; unfold ownV; rw [ho]; cases t <;> cases u <;> rfl
      refine reckon6_any hE hy ho _ (combR r y (kidRes N P 2)) rfl fun W hW => ?_
      rw [kidRes_two hk, comb2_eq h]
      exact add_any IH hW hP hk hF hr
    · subst hk0
      have h : ∀ t u, ownV y [t, u] = arF (· - ·) t u := by intro t u; unfold ownV; rw [ho]; cases t <;> cases u <;> rfl
      refine reckon7_any hE hy ho _ (resAt N P[1].r) (resAt N P[0].r) ?_ (hok _) (hok _) fun W hW => two_any IH hW hP hk hF hr
      rw [kidRes_two hk, comb2_eq h]
    · subst hk0
      have h : ∀ t u, ownV y [t, u] = arF (· * ·) t u := by intro t u; unfold ownV; rw [ho]; cases t <;> cases u <;> rfl
      refine reckon8_any hE hy ho _ (resAt N P[1].r) (resAt N P[0].r) ?_ (hok _) (hok _) fun W hW => two_any IH hW hP hk hF hr
      rw [kidRes_two hk, comb2_eq h]
    · refine reckon9_any hE hy ho _ (combR r y (kidRes N P k)) rfl fun W hW => ?_
      rw [catR_eq ho]
      exact cat_any IH hW hP hk hk0 hF hr
    · subst hk0
      have h : ∀ t u, ownV y [t, u] = repF t u := by intro t u; unfold ownV; rw [ho]; cases t <;> cases u <;> rfl
      refine reckon10_any hE hy ho _ (combR r y (kidRes N P 2)) rfl fun W hW => ?_
      rw [kidRes_two hk, comb2_eq h]
      exact rep_node IH hW hP hk hF hr
    · subst hk0
      have h : ∀ t, ownV y [t] = lenF t := by intro t; unfold ownV; rw [ho]; cases t <;> rfl
      refine reckon11_any hE hy ho _ (combR r y (kidRes N P 1)) rfl fun W hW => ?_
      rw [kidRes_one hk, comb1_eq h]
      exact length_any IH hW hP hk hF hr
    · subst hk0
      have h : ∀ t, ownV y [t] = hexF t := by intro t; unfold ownV; rw [ho]; cases t <;> rfl
      refine reckon12_any hE hy ho _ (combR r y (kidRes N P 1)) rfl fun W hW => ?_
      rw [kidRes_one hk, comb1_eq h]
      exact hexn_any IH hW hP hk hF hr
end Go.Proofs.YtmbiompmhaiehaaDoor
