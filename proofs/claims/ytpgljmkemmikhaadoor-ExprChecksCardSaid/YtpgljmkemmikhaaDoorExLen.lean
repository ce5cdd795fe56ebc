/- The walk of the code: the length of a text or of bytes. -/
import Derived.Test.YtpgljmkemmikhaaDoorExOne
namespace Go.Proofs.YtpgljmkemmikhaaDoor
open Go.RowKit

set_option maxRecDepth 100000 in
set_option maxHeartbeats 4000000 in
theorem length_any {w : World} {x f d : Nat} {A : Option Addr} {c : Nat} {N : List Rn} {F D : List Nat} {r : Nat} {P : List Pe} (IH : ∀ r', r' < r → RecC x f d A c N F D r') (hE : Ex w x f d A c N F D) (hP : pileP N r = some P) (hk : 1 ≤ P.length) (hF : F[r]? = some (bottom r (P.take 1))) (hr : r < N.length) :
    Calls Tryd.prog 68 #[.agg #[.pointer (some ⟨x, 0, none⟩), .int .i64 (r : Nat)]] w fun e w' => e = comb1 r lenF (resAt N P[0].r) ∧ Below w.heap.size w w' := by
  obtain ⟨w2, hw2, b2, s2, k0, k1⟩ := sub_mean w x r
  have c0 : w2.cell? ⟨w.heap.size, 0, none⟩ = some (.pointer (some ⟨x, 0, none⟩)) := k0.at_ 0
  have c1 : w2.cell? ⟨w.heap.size, 1, none⟩ = some (.int .i64 (r : Nat)) := k0.at_ 1
  have co := one_any IH (hE.below b2) hP hk hF hr
  have hok : ∀ t, resAt N P[0].r = .ok t → t.Ok := fun t ht => res_ok (fun y hy => (hE.num y hy).1) ht
  obtain ⟨z, hz⟩ : ∃ z, resAt N P[0].r = z := ⟨_, rfl⟩
  rw [hz] at co hok
  rw [hz]
  clear hz IH hE hP hF hr
  cases z with
  | error z =>
    obtain ⟨za, ze⟩ := z
    have he : endR (.error (za, ze)) = .panicked [faultV za ze] := rfl
    rw [he] at co
    have CO := Lib.hid co
    have K := Lib.hid (And.intro k0 k1)
    clear k0 k1 hok co he
    show Calls _ _ _ _ fun e w' => e = .panicked [faultV za ze] ∧ _
    go_enter Tryd.func68, Tryd.ntmps68
    go_wp2_with (go_at_call 81; refine CO.out.mono ?_; rintro e w3 ⟨rfl, hb3⟩)
    exact ⟨rfl, rfl, b2.trans (hb3.mono b2.size)⟩
  | ok t =>
    have hok := hok t rfl
    have AX : Hid (∀ w3, Below w2.heap.size w2 w3 → ∀ (so : Int) bl (nn : Nat) S, ∃ w4, w3.alloc (.cells #[.int .i64 so, .bool bl, .int .u64 (nn : Nat), .string S] 75) = w4 ∧ w.heap.size + 1 < w3.heap.size ∧ ∀ W, Below w4.heap.size w4 W → (W.cell? ⟨w.heap.size, 0, none⟩ = some (.pointer (some ⟨x, 0, none⟩)) ∧ W.cell? ⟨w.heap.size, 1, none⟩ = some (.int .i64 (r : Nat))) ∧
      (W.cell? ⟨w3.heap.size, 0, none⟩ = some (.int .i64 so) ∧ W.cell? ⟨w3.heap.size, 1, none⟩ = some (.bool bl) ∧ W.cell? ⟨w3.heap.size, 2, none⟩ = some (.int .u64 (nn : Nat)) ∧ W.cell? ⟨w3.heap.size, 3, none⟩ = some (.string S)) ∧
      CB W (w.heap.size + 1) 75 #[.int .i64 0, .bool false, .int .u64 0, .string ⟨#[]⟩] ∧ Below w.heap.size w W) := fun w3 hb so bl nn S => after_one k0 k1 b2 hb
    obtain ⟨so, hs⟩ : ∃ so, t.sort = so := ⟨_, rfl⟩
    obtain ⟨bl, hbl⟩ : ∃ bl, decide (t.n < 0) = bl := ⟨_, rfl⟩
    obtain ⟨nn, hnn⟩ : ∃ nn, t.n.natAbs = nn := ⟨_, rfl⟩
    obtain ⟨S0, hS0⟩ : ∃ S0, str t.s = S0 := ⟨_, rfl⟩
    have he : endR (.ok t) = .returned (.agg #[.int .i64 so, .bool bl, .int .u64 (nn : Nat), .string S0]) := by rw [← hs, ← hbl, ← hnn, ← hS0]; rfl
    rw [he] at co
    have CO := Lib.hid co
    clear co he k0 k1 hbl hnn
    have WY : Hid (∀ W, Calls Tryd.prog 41 #[.agg #[.pointer (some ⟨x, 0, none⟩), .int .i64 (r : Nat)], .bool true] W fun q w' => q = .returned (.tuple #[]) ∧ Below W.heap.size W w') := fun W => want_yes W x r
    have WN : Hid (∀ W, Calls Tryd.prog 41 #[.agg #[.pointer (some ⟨x, 0, none⟩), .int .i64 (r : Nat)], .bool false] W fun q w' => q = .panicked [faultV r 110] ∧ Below W.heap.size W w') := fun W => want_no W x r
    cases t with
    | text t0 =>
      obtain rfl : so = 2 := hs.symm
      have hl := hok
      have hf : comb1 r lenF (.ok (.text t0)) = .returned (.agg #[.int .i64 1, .bool false, .int .u64 (t0.length : Nat), .string ⟨#[]⟩]) := by
        show Ending.returned (.agg #[.int .i64 1, .bool (decide (((t0.length : Nat) : Int) < 0)), .int .u64 ((((t0.length : Nat) : Int).natAbs : Nat) : Int), .string (str [])]) = _
        rw [decide_eq_false (by omega : ¬ ((t0.length : Nat) : Int) < 0), Int.natAbs_natCast]
        rfl
      have hz9 : S0.size = t0.length := by rw [← hS0]; exact str_size _
      have hf : comb1 r lenF (.ok (.text t0)) = .returned (.agg #[.int .i64 1, .bool false, .int .u64 (S0.size : Nat), .string ⟨#[]⟩]) := by
        rw [hz9]
        exact hf
      have hl : t0.length ≤ 4096 := hl
      rw [hf]
      have hw : IntKind.u64.wrap (S0.size : Int) = (S0.size : Int) := by rw [IntKind.wrap_u64]; omega
      clear hok hs hS0 hf hz9 hl
      go_enter Tryd.func68, Tryd.ntmps68
      go_wp2_with (first
        | (go_at_call 81; refine CO.out.mono ?_; rintro e w3 ⟨rfl, hb3⟩; obtain ⟨w4, hw4, hsz, FX⟩ := AX.out w3 hb3 2 bl nn S0; have FX := Lib.hid FX; obtain ⟨⟨p0, p1⟩, ⟨q0, q1, q2, q3⟩, _, _⟩ := FX.out w4 (Below.refl _ _); have cw := WY.out w4)
        | (go_at_call 41; refine cw.mono ?_; rintro e w5 ⟨rfl, hb5⟩; clear p0 p1 q0 q1 q2 q3; obtain ⟨⟨p0, p1⟩, ⟨q0, q1, q2, q3⟩, h9, hz⟩ := FX.out w5 hb5)
        | (refine wpList_store_cb rfl 75 (.tmp 2) (.tmp 21) rfl (w.heap.size + 1) _ #[.int .i64 1, .bool false, .int .u64 (S0.size : Nat), .string ⟨#[]⟩] rfl rfl h9 rfl (by kernel_rfl) (by kernel_rfl) ?_; intro w9 k9 t9)
        | fail)
      exact bodyPost_ret (results_cb rfl _ _ _ _ rfl k9 Tryd.underlying75 rfl (by kernel_rfl)) rfl ⟨rfl, hz.trans (t9.below (by omega))⟩
    | bytes t0 =>
      obtain rfl : so = 4 := hs.symm
      have hl := hok
      have hf : comb1 r lenF (.ok (.bytes t0)) = .returned (.agg #[.int .i64 1, .bool false, .int .u64 (t0.length : Nat), .string ⟨#[]⟩]) := by
        show Ending.returned (.agg #[.int .i64 1, .bool (decide (((t0.length : Nat) : Int) < 0)), .int .u64 ((((t0.length : Nat) : Int).natAbs : Nat) : Int), .string (str [])]) = _
        rw [decide_eq_false (by omega : ¬ ((t0.length : Nat) : Int) < 0), Int.natAbs_natCast]
        rfl
      have hz9 : S0.size = t0.length := by rw [← hS0]; exact str_size _
      have hf : comb1 r lenF (.ok (.bytes t0)) = .returned (.agg #[.int .i64 1, .bool false, .int .u64 (S0.size : Nat), .string ⟨#[]⟩]) := by
        rw [hz9]
        exact hf
      have hl : t0.length ≤ 4096 := hl
      rw [hf]
      have hw : IntKind.u64.wrap (S0.size : Int) = (S0.size : Int) := by rw [IntKind.wrap_u64]; omega
      clear hok hs hS0 hf hz9 hl
      go_enter Tryd.func68, Tryd.ntmps68
      go_wp2_with (first
        | (go_at_call 81; refine CO.out.mono ?_; rintro e w3 ⟨rfl, hb3⟩; obtain ⟨w4, hw4, hsz, FX⟩ := AX.out w3 hb3 4 bl nn S0; have FX := Lib.hid FX; obtain ⟨⟨p0, p1⟩, ⟨q0, q1, q2, q3⟩, _, _⟩ := FX.out w4 (Below.refl _ _); have cw := WY.out w4)
        | (go_at_call 41; refine cw.mono ?_; rintro e w5 ⟨rfl, hb5⟩; clear p0 p1 q0 q1 q2 q3; obtain ⟨⟨p0, p1⟩, ⟨q0, q1, q2, q3⟩, h9, hz⟩ := FX.out w5 hb5)
        | (refine wpList_store_cb rfl 75 (.tmp 2) (.tmp 21) rfl (w.heap.size + 1) _ #[.int .i64 1, .bool false, .int .u64 (S0.size : Nat), .string ⟨#[]⟩] rfl rfl h9 rfl (by kernel_rfl) (by kernel_rfl) ?_; intro w9 k9 t9)
        | fail)
      exact bodyPost_ret (results_cb rfl _ _ _ _ rfl k9 Tryd.underlying75 rfl (by kernel_rfl)) rfl ⟨rfl, hz.trans (t9.below (by omega))⟩
    | num v =>
      obtain rfl : so = 1 := hs.symm
      have hf : comb1 r lenF (.ok (.num v)) = .panicked [faultV r 110] := rfl
      have hf : comb1 r lenF (.ok (.num v)) = .panicked [faultV r 110] := hf
      rw [hf]
      clear hok hs hS0 hf
      go_enter Tryd.func68, Tryd.ntmps68
      go_wp2_with (first
        | (go_at_call 81; refine CO.out.mono ?_; rintro e w3 ⟨rfl, hb3⟩; obtain ⟨w4, hw4, hsz, FX⟩ := AX.out w3 hb3 1 bl nn S0; have FX := Lib.hid FX; obtain ⟨⟨p0, p1⟩, ⟨q0, q1, q2, q3⟩, _, _⟩ := FX.out w4 (Below.refl _ _); have cw := WN.out w4)
        | (go_at_call 41; refine cw.mono ?_; rintro e w5 ⟨rfl, hb5⟩; obtain ⟨_, _, _, hz⟩ := FX.out w5 hb5)
        | fail)
      exact ⟨rfl, rfl, hz⟩
    | truth b =>
      obtain rfl : so = 3 := hs.symm
      have hf : comb1 r lenF (.ok (.truth b)) = .panicked [faultV r 110] := rfl
      have hf : comb1 r lenF (.ok (.truth b)) = .panicked [faultV r 110] := hf
      rw [hf]
      clear hok hs hS0 hf
      go_enter Tryd.func68, Tryd.ntmps68
      go_wp2_with (first
        | (go_at_call 81; refine CO.out.mono ?_; rintro e w3 ⟨rfl, hb3⟩; obtain ⟨w4, hw4, hsz, FX⟩ := AX.out w3 hb3 3 bl nn S0; have FX := Lib.hid FX; obtain ⟨⟨p0, p1⟩, ⟨q0, q1, q2, q3⟩, _, _⟩ := FX.out w4 (Below.refl _ _); have cw := WN.out w4)
        | (go_at_call 41; refine cw.mono ?_; rintro e w5 ⟨rfl, hb5⟩; obtain ⟨_, _, _, hz⟩ := FX.out w5 hb5)
        | fail)
      exact ⟨rfl, rfl, hz⟩
end Go.Proofs.YtpgljmkemmikhaaDoor
