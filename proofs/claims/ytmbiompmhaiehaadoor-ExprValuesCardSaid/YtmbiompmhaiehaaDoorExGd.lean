/- The walk of the code: the length of a text or of bytes. -/
import Derived.Test.YtmbiompmhaiehaaDoorExOne
import Derived.Test.YtmbiompmhaiehaaDoorExGp
import Derived.Test.YtmbiompmhaiehaaDoorExAr
import Derived.Lib.OthersKept
import Derived.RegionDies
namespace Go.Proofs.YtmbiompmhaiehaaDoor
open Go.RowKit

set_option maxRecDepth 100000 in
set_option maxHeartbeats 4000000 in
theorem length_any {w : World} {x f d : Nat} {A : Option Addr} {c : Nat} {N : List Rn} {F D : List Nat} {r : Nat} {P : List Pe} (IH : ∀ r', r' < r → RecC x f d A c N F D r') (hE : Ex w x f d A c N F D) (hP : pileP N r = some P) (hk : 1 ≤ P.length) (hF : F[r]? = some (bottom r (P.take 1))) (hr : r < N.length) :
    Calls Tryd.prog 55 #[.agg #[.pointer (some ⟨x, 0, none⟩), .int .i64 (r : Nat)]] w fun e w' => e = comb1 r lenF (resAt N P[0].r) ∧ Below w.heap.size w w' := by
  obtain ⟨w2, hw2, b2, s2, k0, k1⟩ := sub_mean w x r
  have c0 : w2.cell? ⟨w.heap.size, 0, none⟩ = some (.pointer (some ⟨x, 0, none⟩)) := k0.at_ 0
  have c1 : w2.cell? ⟨w.heap.size, 1, none⟩ = some (.int .i64 (r : Nat)) := k0.at_ 1
  have co := one_any IH (hE.below b2) hP hk hF hr
  have hok : ∀ t, resAt N P[0].r = .ok t → t.Ok := fun t ht => res_ok (fun y hy => (hE.num y hy).1) ht
  obtain ⟨z, hz⟩ : ∃ z, resAt N P[0].r = z := ⟨_, rfl⟩
  rw [hz] at co hok
  rw [hz]
  clear hz IH hE hP hF hr
  cases z with
  | error z =>
    obtain ⟨za, ze⟩ := z
    have he : endR (.error (za, ze)) = .panicked [faultV za ze] := rfl
    rw [he] at co
    have CO := Lib.hid co
    have K := Lib.hid (And.intro k0 k1)
    clear k0 k1 hok co he
    show Calls _ _ _ _ fun e w' => e = .panicked [faultV za ze] ∧ _
    go_enter Tryd.func55, Tryd.ntmps55
    go_wp2_with (go_at_call 69; refine CO.out.mono ?_; rintro e w3 ⟨rfl, hb3⟩)
    exact ⟨rfl, rfl, b2.trans (hb3.mono b2.size)⟩
  | ok t =>
    have hok := hok t rfl
    have AX : Hid (∀ w3, Below w2.heap.size w2 w3 → ∀ (so : Int) bl (nn : Nat) S, ∃ w4, w3.alloc (.cells #[.int .i64 so, .bool bl, .int .u64 (nn : Nat), .string S] 64) = w4 ∧ w.heap.size + 1 < w3.heap.size ∧ ∀ W, Below w4.heap.size w4 W → (W.cell? ⟨w.heap.size, 0, none⟩ = some (.pointer (some ⟨x, 0, none⟩)) ∧ W.cell? ⟨w.heap.size, 1, none⟩ = some (.int .i64 (r : Nat))) ∧
      (W.cell? ⟨w3.heap.size, 0, none⟩ = some (.int .i64 so) ∧ W.cell? ⟨w3.heap.size, 1, none⟩ = some (.bool bl) ∧ W.cell? ⟨w3.heap.size, 2, none⟩ = some (.int .u64 (nn : Nat)) ∧ W.cell? ⟨w3.heap.size, 3, none⟩ = some (.string S)) ∧
      CB W (w.heap.size + 1) 64 #[.int .i64 0, .bool false, .int .u64 0, .string ⟨#[]⟩] ∧ Below w.heap.size w W) := fun w3 hb so bl nn S => after_one k0 k1 b2 hb
    obtain ⟨so, hs⟩ : ∃ so, t.sort = so := ⟨_, rfl⟩
    obtain ⟨bl, hbl⟩ : ∃ bl, decide (t.n < 0) = bl := ⟨_, rfl⟩
    obtain ⟨nn, hnn⟩ : ∃ nn, t.n.natAbs = nn := ⟨_, rfl⟩
    obtain ⟨S0, hS0⟩ : ∃ S0, str t.s = S0 := ⟨_, rfl⟩
    have he : endR (.ok t) = .returned (.agg #[.int .i64 so, .bool bl, .int .u64 (nn : Nat), .string S0]) := by rw [← hs, ← hbl, ← hnn, ← hS0]; rfl
    rw [he] at co
    have CO := Lib.hid co
    clear co he k0 k1 hbl hnn
    have WY : Hid (∀ W, Calls Tryd.prog 27 #[.agg #[.pointer (some ⟨x, 0, none⟩), .int .i64 (r : Nat)], .bool true] W fun q w' => q = .returned (.tuple #[]) ∧ Below W.heap.size W w') := fun W => want_yes W x r
    have WN : Hid (∀ W, Calls Tryd.prog 27 #[.agg #[.pointer (some ⟨x, 0, none⟩), .int .i64 (r : Nat)], .bool false] W fun q w' => q = .panicked [faultV r 110] ∧ Below W.heap.size W w') := fun W => want_no W x r
    cases t with
    | text t0 =>
      obtain rfl : so = 2 := hs.symm
      have hl := hok
      have hf : comb1 r lenF (.ok (.text t0)) = .returned (.agg #[.int .i64 1, .bool false, .int .u64 (t0.length : Nat), .string ⟨#[]⟩]) := by
        show Ending.returned (.agg #[.int .i64 1, .bool (decide (((t0.length : Nat) : Int) < 0)), .int .u64 ((((t0.length : Nat) : Int).natAbs : Nat) : Int), .string (str [])]) = _
        rw [decide_eq_false (by omega : ¬ ((t0.length : Nat) : Int) < 0), Int.natAbs_natCast]
        rfl
      have hz9 : S0.size = t0.length := by rw [← hS0]; exact str_size _
      have hf : comb1 r lenF (.ok (.text t0)) = .returned (.agg #[.int .i64 1, .bool false, .int .u64 (S0.size : Nat), .string ⟨#[]⟩]) := by
        rw [hz9]
        exact hf
      have hl : t0.length ≤ 4096 := hl
      rw [hf]
      have hw : IntKind.u64.wrap (S0.size : Int) = (S0.size : Int) := by rw [IntKind.wrap_u64]; omega
      clear hok hs hS0 hf hz9 hl
      go_enter Tryd.func55, Tryd.ntmps55
      go_wp2_with (first
        | (go_at_call 69; refine CO.out.mono ?_; rintro e w3 ⟨rfl, hb3⟩; obtain ⟨w4, hw4, hsz, FX⟩ := AX.out w3 hb3 2 bl nn S0; have FX := Lib.hid FX; obtain ⟨⟨p0, p1⟩, ⟨q0, q1, q2, q3⟩, _, _⟩ := FX.out w4 (Below.refl _ _); have cw := WY.out w4)
        | (go_at_call 27; refine cw.mono ?_; rintro e w5 ⟨rfl, hb5⟩; clear p0 p1 q0 q1 q2 q3; obtain ⟨⟨p0, p1⟩, ⟨q0, q1, q2, q3⟩, h9, hz⟩ := FX.out w5 hb5)
        | (refine wpList_store_cb rfl 64 (.tmp 2) (.tmp 21) rfl (w.heap.size + 1) _ #[.int .i64 1, .bool false, .int .u64 (S0.size : Nat), .string ⟨#[]⟩] rfl rfl h9 rfl (by kernel_rfl) (by kernel_rfl) ?_; intro w9 k9 t9)
        | fail)
      exact bodyPost_ret (results_cb rfl _ _ _ _ rfl k9 Tryd.underlying64 rfl (by kernel_rfl)) rfl ⟨rfl, hz.trans (t9.below (by omega))⟩
    | bytes t0 =>
      obtain rfl : so = 4 := hs.symm
      have hl := hok
      have hf : comb1 r lenF (.ok (.bytes t0)) = .returned (.agg #[.int .i64 1, .bool false, .int .u64 (t0.length : Nat), .string ⟨#[]⟩]) := by
        show Ending.returned (.agg #[.int .i64 1, .bool (decide (((t0.length : Nat) : Int) < 0)), .int .u64 ((((t0.length : Nat) : Int).natAbs : Nat) : Int), .string (str [])]) = _
        rw [decide_eq_false (by omega : ¬ ((t0.length : Nat) : Int) < 0), Int.natAbs_natCast]
        rfl
      have hz9 : S0.size = t0.length := by rw [← hS0]; exact str_size _
      have hf : comb1 r lenF (.ok (.bytes t0)) = .returned (.agg #[.int .i64 1, .bool false, .int .u64 (S0.size : Nat), .string ⟨#[]⟩]) := by
        rw [hz9]
        exact hf
      have hl : t0.length ≤ 4096 := hl
      rw [hf]
      have hw : IntKind.u64.wrap (S0.size : Int) = (S0.size : Int) := by rw [IntKind.wrap_u64]; omega
      clear hok hs hS0 hf hz9 hl
      go_enter Tryd.func55, Tryd.ntmps55
      go_wp2_with (first
        | (go_at_call 69; refine CO.out.mono ?_; rintro e w3 ⟨rfl, hb3⟩; obtain ⟨w4, hw4, hsz, FX⟩ := AX.out w3 hb3 4 bl nn S0; have FX := Lib.hid FX; obtain ⟨⟨p0, p1⟩, ⟨q0, q1, q2, q3⟩, _, _⟩ := FX.out w4 (Below.refl _ _); have cw := WY.out w4)
        | (go_at_call 27; refine cw.mono ?_; rintro e w5 ⟨rfl, hb5⟩; clear p0 p1 q0 q1 q2 q3; obtain ⟨⟨p0, p1⟩, ⟨q0, q1, q2, q3⟩, h9, hz⟩ := FX.out w5 hb5)
        | (refine wpList_store_cb rfl 64 (.tmp 2) (.tmp 21) rfl (w.heap.size + 1) _ #[.int .i64 1, .bool false, .int .u64 (S0.size : Nat), .string ⟨#[]⟩] rfl rfl h9 rfl (by kernel_rfl) (by kernel_rfl) ?_; intro w9 k9 t9)
        | fail)
      exact bodyPost_ret (results_cb rfl _ _ _ _ rfl k9 Tryd.underlying64 rfl (by kernel_rfl)) rfl ⟨rfl, hz.trans (t9.below (by omega))⟩
    | num v =>
      obtain rfl : so = 1 := hs.symm
      have hf : comb1 r lenF (.ok (.num v)) = .panicked [faultV r 110] := rfl
      have hf : comb1 r lenF (.ok (.num v)) = .panicked [faultV r 110] := hf
      rw [hf]
      clear hok hs hS0 hf
      go_enter Tryd.func55, Tryd.ntmps55
      go_wp2_with (first
        | (go_at_call 69; refine CO.out.mono ?_; rintro e w3 ⟨rfl, hb3⟩; obtain ⟨w4, hw4, hsz, FX⟩ := AX.out w3 hb3 1 bl nn S0; have FX := Lib.hid FX; obtain ⟨⟨p0, p1⟩, ⟨q0, q1, q2, q3⟩, _, _⟩ := FX.out w4 (Below.refl _ _); have cw := WN.out w4)
        | (go_at_call 27; refine cw.mono ?_; rintro e w5 ⟨rfl, hb5⟩; obtain ⟨_, _, _, hz⟩ := FX.out w5 hb5)
        | fail)
      exact ⟨rfl, rfl, hz⟩
    | truth b =>
      obtain rfl : so = 3 := hs.symm
      have hf : comb1 r lenF (.ok (.truth b)) = .panicked [faultV r 110] := rfl
      have hf : comb1 r lenF (.ok (.truth b)) = .panicked [faultV r 110] := hf
      rw [hf]
      clear hok hs hS0 hf
      go_enter Tryd.func55, Tryd.ntmps55
      go_wp2_with (first
        | (go_at_call 69; refine CO.out.mono ?_; rintro e w3 ⟨rfl, hb3⟩; obtain ⟨w4, hw4, hsz, FX⟩ := AX.out w3 hb3 3 bl nn S0; have FX := Lib.hid FX; obtain ⟨⟨p0, p1⟩, ⟨q0, q1, q2, q3⟩, _, _⟩ := FX.out w4 (Below.refl _ _); have cw := WN.out w4)
        | (go_at_call 27; refine cw.mono ?_; rintro e w5 ⟨rfl, hb5⟩; obtain ⟨_, _, _, hz⟩ := FX.out w5 hb5)
        | fail)
      exact ⟨rfl, rfl, hz⟩
end Go.Proofs.YtmbiompmhaiehaaDoor
/- The walk of the code: the bytes that a text's digits say. -/
namespace Go.Proofs.YtmbiompmhaiehaaDoor
open Go.RowKit

set_option maxRecDepth 100000 in
set_option maxHeartbeats 4000000 in
theorem hexn_any {w : World} {x f d : Nat} {A : Option Addr} {c : Nat} {N : List Rn} {F D : List Nat} {r : Nat} {P : List Pe} (IH : ∀ r', r' < r → RecC x f d A c N F D r') (hE : Ex w x f d A c N F D) (hP : pileP N r = some P) (hk : 1 ≤ P.length) (hF : F[r]? = some (bottom r (P.take 1))) (hr : r < N.length) :
    Calls Tryd.prog 56 #[.agg #[.pointer (some ⟨x, 0, none⟩), .int .i64 (r : Nat)]] w fun e w' => e = comb1 r hexF (resAt N P[0].r) ∧ Below w.heap.size w w' := by
  obtain ⟨w2, hw2, b2, s2, k0, k1⟩ := sub_mean w x r
  have c0 : w2.cell? ⟨w.heap.size, 0, none⟩ = some (.pointer (some ⟨x, 0, none⟩)) := k0.at_ 0
  have c1 : w2.cell? ⟨w.heap.size, 1, none⟩ = some (.int .i64 (r : Nat)) := k0.at_ 1
  have co := one_any IH (hE.below b2) hP hk hF hr
  have hok : ∀ t, resAt N P[0].r = .ok t → t.Ok := fun t ht => res_ok (fun y hy => (hE.num y hy).1) ht
  obtain ⟨z, hz⟩ : ∃ z, resAt N P[0].r = z := ⟨_, rfl⟩
  rw [hz] at co hok
  rw [hz]
  clear hz IH hE hP hF hr
  cases z with
  | error z =>
    obtain ⟨za, ze⟩ := z
    have he : endR (.error (za, ze)) = .panicked [faultV za ze] := rfl
    rw [he] at co
    have CO := Lib.hid co
    have K := Lib.hid (And.intro k0 k1)
    clear k0 k1 hok co he
    show Calls _ _ _ _ fun e w' => e = .panicked [faultV za ze] ∧ _
    go_enter Tryd.func56, Tryd.ntmps56
    go_wp2_with (go_at_call 69; refine CO.out.mono ?_; rintro e w3 ⟨rfl, hb3⟩)
    exact ⟨rfl, rfl, b2.trans (hb3.mono b2.size)⟩
  | ok t =>
    have hok := hok t rfl
    have AX : Hid (∀ w3, Below w2.heap.size w2 w3 → ∀ (so : Int) bl (nn : Nat) S, ∃ w4, w3.alloc (.cells #[.int .i64 so, .bool bl, .int .u64 (nn : Nat), .string S] 64) = w4 ∧ w.heap.size + 1 < w3.heap.size ∧ ∀ W, Below w4.heap.size w4 W → (W.cell? ⟨w.heap.size, 0, none⟩ = some (.pointer (some ⟨x, 0, none⟩)) ∧ W.cell? ⟨w.heap.size, 1, none⟩ = some (.int .i64 (r : Nat))) ∧
      (W.cell? ⟨w3.heap.size, 0, none⟩ = some (.int .i64 so) ∧ W.cell? ⟨w3.heap.size, 1, none⟩ = some (.bool bl) ∧ W.cell? ⟨w3.heap.size, 2, none⟩ = some (.int .u64 (nn : Nat)) ∧ W.cell? ⟨w3.heap.size, 3, none⟩ = some (.string S)) ∧
      CB W (w.heap.size + 1) 64 #[.int .i64 0, .bool false, .int .u64 0, .string ⟨#[]⟩] ∧ Below w.heap.size w W) := fun w3 hb so bl nn S => after_one k0 k1 b2 hb
    obtain ⟨so, hs⟩ : ∃ so, t.sort = so := ⟨_, rfl⟩
    obtain ⟨bl, hbl⟩ : ∃ bl, decide (t.n < 0) = bl := ⟨_, rfl⟩
    obtain ⟨nn, hnn⟩ : ∃ nn, t.n.natAbs = nn := ⟨_, rfl⟩
    obtain ⟨S0, hS0⟩ : ∃ S0, str t.s = S0 := ⟨_, rfl⟩
    have he : endR (.ok t) = .returned (.agg #[.int .i64 so, .bool bl, .int .u64 (nn : Nat), .string S0]) := by rw [← hs, ← hbl, ← hnn, ← hS0]; rfl
    rw [he] at co
    have CO := Lib.hid co
    clear co he k0 k1 hbl hnn
    have WY : Hid (∀ W, Calls Tryd.prog 27 #[.agg #[.pointer (some ⟨x, 0, none⟩), .int .i64 (r : Nat)], .bool true] W fun q w' => q = .returned (.tuple #[]) ∧ Below W.heap.size W w') := fun W => want_yes W x r
    have WN : Hid (∀ W, Calls Tryd.prog 27 #[.agg #[.pointer (some ⟨x, 0, none⟩), .int .i64 (r : Nat)], .bool false] W fun q w' => q = .panicked [faultV r 110] ∧ Below W.heap.size W w') := fun W => want_no W x r
    cases t with
    | text t0 =>
      obtain rfl : so = 2 := hs.symm
      have hl : t0.length ≤ 4096 := hok
      have hz9 : S0.size = t0.length := by rw [← hS0]; exact str_size _
      have hls : ls S0 = t0 := by rw [← hS0]; exact ls_str t0
      have GX : Hid (∀ W, Calls Tryd.prog 32 #[.agg #[.pointer (some ⟨x, 0, none⟩), .int .i64 (r : Nat)], .int .i64 111] W fun q w' => q = .panicked [faultV r 111] ∧ Below W.heap.size W w') := fun W => give_any W x r 111
      have HX : Hid (∀ W, Calls Tryd.prog 81 #[.string S0] W fun e w' => e = .returned (.tuple #[.string (hexT S0), .int .i64 (hexE S0)]) ∧ Below W.heap.size W w') := fun W => hex_any S0 (by omega)
      show Calls _ _ _ _ fun e w' => e = endO r (hexE' t0) ∧ _
      unfold hexT hexE at HX
      rw [hls] at HX
      unfold hexE'
      cases hx : hexL t0 with
      | some u0 =>
        rw [hx] at HX
        dsimp only at HX
        obtain ⟨T0, hT0⟩ : ∃ T0, str u0 = T0 := ⟨_, rfl⟩
        rw [hT0] at HX
        have hf : endO r (.ok (.bytes u0)) = .returned (.agg #[.int .i64 4, .bool false, .int .u64 0, .string T0]) := by rw [← hT0]; rfl
        dsimp only
        rw [hf]
        clear hok hs hS0 hf hz9 hl hls hx hT0 GX
        have GX : Hid (∀ _ : World, True) := fun _ => trivial
        go_enter Tryd.func56, Tryd.ntmps56
        go_wp2_with (first
        | (go_at_call 69; refine CO.out.mono ?_; rintro e w3 ⟨rfl, hb3⟩; obtain ⟨w4, hw4, hsz, FX⟩ := AX.out w3 hb3 2 bl nn S0; have FX := Lib.hid FX; obtain ⟨⟨p0, p1⟩, ⟨q0, q1, q2, q3⟩, _, _⟩ := FX.out w4 (Below.refl _ _); have cw := WY.out w4)
        | (go_at_call 27; refine cw.mono ?_; rintro e w5 ⟨rfl, hb5⟩; clear p0 p1 q0 q1 q2 q3; obtain ⟨⟨p0, p1⟩, ⟨q0, q1, q2, q3⟩, h9, hz⟩ := FX.out w5 hb5; have ch := HX.out w5)
        | (go_at_call 81; refine ch.mono ?_; rintro e w6 ⟨rfl, hb6⟩; clear p0 p1 q0 q1 q2 q3 h9 hz; obtain ⟨⟨p0, p1⟩, ⟨q0, q1, q2, q3⟩, h9, hz⟩ := FX.out w6 (Below.both hb5 hb6); have cg := GX.out w6)
        | (refine wpList_store_cb rfl 64 (.tmp 2) (.tmp 25) rfl (w.heap.size + 1) _ #[.int .i64 4, .bool false, .int .u64 0, .string T0] rfl rfl h9 rfl (by kernel_rfl) (by kernel_rfl) ?_; intro w9 k9 t9)
        | fail)
        exact bodyPost_ret (results_cb rfl _ _ _ _ rfl k9 Tryd.underlying64 rfl (by kernel_rfl)) rfl ⟨rfl, hz.trans (t9.below (by omega))⟩
      | none =>
        rw [hx] at HX
        dsimp only at HX
        have hf : endO r (.error 111) = .panicked [faultV r 111] := rfl
        dsimp only
        rw [hf]
        clear hok hs hS0 hf hz9 hl hls hx
        go_enter Tryd.func56, Tryd.ntmps56
        go_wp2_with (first
        | (go_at_call 69; refine CO.out.mono ?_; rintro e w3 ⟨rfl, hb3⟩; obtain ⟨w4, hw4, hsz, FX⟩ := AX.out w3 hb3 2 bl nn S0; have FX := Lib.hid FX; obtain ⟨⟨p0, p1⟩, ⟨q0, q1, q2, q3⟩, _, _⟩ := FX.out w4 (Below.refl _ _); have cw := WY.out w4)
        | (go_at_call 27; refine cw.mono ?_; rintro e w5 ⟨rfl, hb5⟩; clear p0 p1 q0 q1 q2 q3; obtain ⟨⟨p0, p1⟩, ⟨q0, q1, q2, q3⟩, h9, hz⟩ := FX.out w5 hb5; have ch := HX.out w5)
        | (go_at_call 81; refine ch.mono ?_; rintro e w6 ⟨rfl, hb6⟩; clear p0 p1 q0 q1 q2 q3 h9 hz; obtain ⟨⟨p0, p1⟩, ⟨q0, q1, q2, q3⟩, h9, hz⟩ := FX.out w6 (Below.both hb5 hb6); have cg := GX.out w6)
        | (go_at_call 32; refine cg.mono ?_; rintro e w7 ⟨rfl, hb7⟩; obtain ⟨_, _, _, hy⟩ := FX.out w7 (Below.both (Below.both hb5 hb6) hb7))
        | fail)
        exact ⟨rfl, rfl, hy⟩
    | bytes s0 =>
      obtain rfl : so = 4 := hs.symm
      have hf : comb1 r hexF (.ok (.bytes s0)) = .panicked [faultV r 110] := rfl
      have hf : comb1 r hexF (.ok (.bytes s0)) = .panicked [faultV r 110] := hf
      rw [hf]
      clear hok hs hS0 hf
      go_enter Tryd.func56, Tryd.ntmps56
      go_wp2_with (first
        | (go_at_call 69; refine CO.out.mono ?_; rintro e w3 ⟨rfl, hb3⟩; obtain ⟨w4, hw4, hsz, FX⟩ := AX.out w3 hb3 4 bl nn S0; have FX := Lib.hid FX; obtain ⟨⟨p0, p1⟩, ⟨q0, q1, q2, q3⟩, _, _⟩ := FX.out w4 (Below.refl _ _); have cw := WN.out w4)
        | (go_at_call 27; refine cw.mono ?_; rintro e w5 ⟨rfl, hb5⟩; obtain ⟨_, _, _, hz⟩ := FX.out w5 hb5)
        | fail)
      exact ⟨rfl, rfl, hz⟩
    | num v =>
      obtain rfl : so = 1 := hs.symm
      have hf : comb1 r hexF (.ok (.num v)) = .panicked [faultV r 110] := rfl
      have hf : comb1 r hexF (.ok (.num v)) = .panicked [faultV r 110] := hf
      rw [hf]
      clear hok hs hS0 hf
      go_enter Tryd.func56, Tryd.ntmps56
      go_wp2_with (first
        | (go_at_call 69; refine CO.out.mono ?_; rintro e w3 ⟨rfl, hb3⟩; obtain ⟨w4, hw4, hsz, FX⟩ := AX.out w3 hb3 1 bl nn S0; have FX := Lib.hid FX; obtain ⟨⟨p0, p1⟩, ⟨q0, q1, q2, q3⟩, _, _⟩ := FX.out w4 (Below.refl _ _); have cw := WN.out w4)
        | (go_at_call 27; refine cw.mono ?_; rintro e w5 ⟨rfl, hb5⟩; obtain ⟨_, _, _, hz⟩ := FX.out w5 hb5)
        | fail)
      exact ⟨rfl, rfl, hz⟩
    | truth b =>
      obtain rfl : so = 3 := hs.symm
      have hf : comb1 r hexF (.ok (.truth b)) = .panicked [faultV r 110] := rfl
      have hf : comb1 r hexF (.ok (.truth b)) = .panicked [faultV r 110] := hf
      rw [hf]
      clear hok hs hS0 hf
      go_enter Tryd.func56, Tryd.ntmps56
      go_wp2_with (first
        | (go_at_call 69; refine CO.out.mono ?_; rintro e w3 ⟨rfl, hb3⟩; obtain ⟨w4, hw4, hsz, FX⟩ := AX.out w3 hb3 3 bl nn S0; have FX := Lib.hid FX; obtain ⟨⟨p0, p1⟩, ⟨q0, q1, q2, q3⟩, _, _⟩ := FX.out w4 (Below.refl _ _); have cw := WN.out w4)
        | (go_at_call 27; refine cw.mono ?_; rintro e w5 ⟨rfl, hb5⟩; obtain ⟨_, _, _, hz⟩ := FX.out w5 hb5)
        | fail)
      exact ⟨rfl, rfl, hz⟩
end Go.Proofs.YtmbiompmhaiehaaDoor
/- What stands while a cat's kids are reckoned: the texts so far, the builder. No walk here. -/
namespace Go.Proofs.YtmbiompmhaiehaaDoor
open Go.RowKit
open Go.Lib (byteCells)

/-- put together till there is more than a text may have -/
def greedy : List (List UInt8) → List UInt8 → List UInt8
  | [], L => L
  | s :: r, L => greedy r (if L.length ≤ 4096 then L ++ s else L)
theorem greedy_snoc : ∀ (l : List (List UInt8)) (s L : List UInt8), greedy (l ++ [s]) L = if (greedy l L).length ≤ 4096 then greedy l L ++ s else greedy l L
  | [], _, _ => rfl
  | _ :: r, s, _ => greedy_snoc r s _
theorem greedy_big : ∀ (l : List (List UInt8)) (L : List UInt8), 4096 < L.length → greedy l L = L
  | [], _, _ => rfl
  | _ :: r, L, h => by
    unfold greedy
    rw [if_neg (by omega)]
    exact greedy_big r L h
theorem greedy_or : ∀ (l : List (List UInt8)) (L : List UInt8), greedy l L = L ++ l.flatten ∨ (4096 < (greedy l L).length ∧ 4096 < (L ++ l.flatten).length)
  | [], L => .inl (by simp [greedy])
  | a :: r, L => by
    unfold greedy
    by_cases h : L.length ≤ 4096
    · rw [if_pos h]
      rcases greedy_or r (L ++ a) with h1 | h1
      · left; rw [h1]; simp
      · right
        refine ⟨h1.1, ?_⟩
        have := h1.2
        simp only [List.flatten_cons, List.length_append] at this ⊢
        omega
    · rw [if_neg h]
      right
      rw [greedy_big r L (by omega)]
      refine ⟨by omega, ?_⟩
      rw [List.length_append]
      omega
theorem greedy_le : ∀ (l : List (List UInt8)) (L : List UInt8), L.length ≤ 8192 → (∀ s ∈ l, s.length ≤ 4096) → (greedy l L).length ≤ 8192
  | [], L, h, _ => h
  | a :: r, L, h, hl => by
    unfold greedy
    refine greedy_le r _ ?_ fun s hs => hl s (.tail _ hs)
    have := hl a (.head _)
    split
    · rw [List.length_append]; omega
    · exact h
theorem textE_greedy (r : Nat) (l : List (List UInt8)) : endO r (textE (greedy l [])) = endO r (textE l.flatten) := by
  rcases greedy_or l [] with h | ⟨h1, h2⟩
  · rw [h]; rfl
  · unfold textE
    rw [if_neg (by omega), if_neg (by simpa using h2)]
/-- what cat answers -/
def catEnd (r : Nat) (rs : List Res) : Ending := match collect rs with
  | .error (a, e) => .panicked [faultV a e]
  | .ok ts => endO r (if ts.all Th.isT then textE (rowL (ts.map Th.s)) else .error 110)
theorem catEnd_err {r : Nat} {rs : List Res} {ts : List Th} {i a e : Nat} (h : rs.take i = ts.map .ok) (hi : rs[i]? = some (.error (a, e))) : catEnd r rs = .panicked [faultV a e] := by
  have hlt := (List.getElem?_eq_some_iff.1 hi).1
  have hs : rs = ts.map .ok ++ (.error (a, e) :: rs.drop (i + 1)) := by
    have h1 := List.take_append_drop i rs
    rw [h, List.drop_eq_getElem_cons hlt, (List.getElem?_eq_some_iff.1 hi).2] at h1
    exact h1.symm
  unfold catEnd
  rw [hs, collect_append, collect_ok]
  rfl
theorem catEnd_ok {r : Nat} {rs : List Res} {ts : List Th} (h : rs = ts.map .ok) : catEnd r rs = endO r (if ts.all Th.isT then textE (greedy (ts.map Th.s) []) else .error 110) := by
  unfold catEnd
  rw [h, collect_ok]
  dsimp only
  split
  · rw [textE_greedy]; rfl
  · rfl
theorem take_succ_ok {rs : List Res} {ts : List Th} {i : Nat} {t : Th} (h : rs.take i = ts.map .ok) (hi : rs[i]? = some (.ok t)) : rs.take (i + 1) = (ts ++ [t]).map .ok := by
  have hlt := (List.getElem?_eq_some_iff.1 hi).1
  rw [List.take_succ_eq_append_getElem hlt, h, (List.getElem?_eq_some_iff.1 hi).2]
  simp

/-! ### the builder -/
/-- the builder in block b, of the call's own from b on -/
def Bf (b : Nat) (l : List UInt8) (w : World) : Prop := Lib.IsBuilderF 117 5 b b (byteCells l) w
theorem Bf.new (w : World) : Bf w.heap.size [] (w.alloc (.cells #[.pointer none, .slice none 0 0] 117)) := Lib.IsBuilderF.of (Lib.fresh_isBuilder _ _ w)
theorem bf_at {T e : TypeId} {B b : Nat} {p : Value} {bs : List Value} {w w' : World} (h : Lib.BuilderAtF T e B b p bs w) (hb : Below w.heap.size w w') : Lib.BuilderAtF T e B b p bs w' := by
  have hlt : b < w.heap.size := by
    obtain ⟨_, v, hc, _⟩ := h
    exact (Array.getElem?_eq_some_iff.1 hc).1
  obtain ⟨hB, v, hc, hown, hne⟩ := h
  refine ⟨hB, v, (hb.block b hlt).trans hc, hown.kept (row := none) (below_grown hb none) ?_, hne⟩
  cases hv : v.ownBlock with
  | none => exact .inl rfl
  | some g => exact .inr nofun
theorem Bf.then_ {b : Nat} {l : List UInt8} {w w' : World} (h : Bf b l w) (hb : Below w.heap.size w w') : Bf b l w' := h.elim (fun x => .inl (bf_at x hb)) fun x => .inr (bf_at x hb)
theorem Bf.len {b : Nat} {l : List UInt8} {w : World} (h : Bf b l w) : b < w.heap.size := by
  rcases h with ⟨_, v, hc, _⟩ | ⟨_, v, hc, _⟩
  · exact (Array.getElem?_eq_some_iff.1 hc).1
  · exact (Array.getElem?_eq_some_iff.1 hc).1
theorem Bf.write {b : Nat} {l : List UInt8} {w : World} (h : Bf b l w) (s : ByteArray) (hN : l.length + s.size ≤ 140737488355328) (r : List UInt8) (hr : r = l ++ ls s) :
    Calls Tryd.prog 78 #[.pointer (some ⟨b, 0, none⟩), .string s] w fun e w' => e = .returned (.tuple #[.int .i64 s.size, .nilIface]) ∧ Bf b r w' ∧ Below b w w' ∧ Lib.OthersKept 5 (some b) w w' := by
  refine (Any.Builder_WriteString_k (ρ := bren) blays bxtra b b (byteCells l) s w h (by rw [Go.Lib.byteCells_length]; exact hN) (Nat.le_of_lt h.len)).mono ?_
  rintro e w' ⟨rfl, h1, h2, h3⟩
  rw [strCells_ls, ← Go.Lib.byteCells_append, ← hr] at h1
  exact ⟨rfl, .inr h1, h2, h3⟩
theorem Bf.out {b : Nat} {l : List UInt8} {w : World} (h : Bf b l w) :
    Calls Tryd.prog 79 #[.pointer (some ⟨b, 0, none⟩)] w fun e w' => e = .returned (.string (str l)) ∧ Below b w w' := by
  refine (Tryd.Builder_String_any_k b b l w h (Nat.le_of_lt h.len)).mono ?_
  rintro e w' ⟨he, _, h2, _⟩
  exact ⟨he, h2⟩
theorem Bf.size {b : Nat} {l : List UInt8} {w : World} (h : Bf b l w) :
    Calls Tryd.prog 77 #[.pointer (some ⟨b, 0, none⟩)] w fun e w' => e = .returned (.int .i64 (l.length : Nat)) ∧ w' = w := by
  have := Tryd.Builder_Len_f b b (byteCells l) w h
  rw [Go.Lib.byteCells_length] at this
  exact this
theorem cb_kept {w w' : World} {b g : Nat} {T : TypeId} {cs : Array Value} (h : CB w g T cs) (hk : Lib.OthersKept 5 (some b) w w') (hg : g ≠ b) (hT : T ≠ 5) : CB w' g T cs :=
  hk g _ h (fun e => hg (Option.some.inj e)) fun c fz e => by injection e with _ e2 _; exact hT e2
theorem kr_kept {w w' : World} {b gk x : Nat} {l : List Nat} (h : KR w gk x l) (hk : Lib.OthersKept 5 (some b) w w') (hg : gk ≠ b) : KR w' gk x l := by
  obtain ⟨cur, h1, h2⟩ := h
  exact ⟨cur, cb_kept h1 hk hg (by decide), h2⟩
/-- a subtree's block, a thing's, a builder's -/
theorem cat_start (w : World) (x r : Nat) : ∃ w3, ((w.alloc (.cells #[.pointer (some ⟨x, 0, none⟩), .int .i64 (r : Nat)] 43)).alloc (.cells #[.int .i64 0, .bool false, .int .u64 0, .string ⟨#[]⟩] 64)).alloc (.cells #[.pointer none, .slice none 0 0] 117) = w3 ∧ Below w.heap.size w w3 ∧ w3.heap.size = w.heap.size + 3 ∧
    CB w3 w.heap.size 43 #[.pointer (some ⟨x, 0, none⟩), .int .i64 (r : Nat)] ∧ CB w3 (w.heap.size + 1) 64 #[.int .i64 0, .bool false, .int .u64 0, .string ⟨#[]⟩] ∧ Bf (w.heap.size + 1 + 1) [] w3 := by
  obtain ⟨w2, hw2, b2, s2, k0, k1⟩ := sub_mean w x r
  rw [hw2]
  have b3 : Below w2.heap.size w2 (w2.alloc (.cells #[.pointer none, .slice none 0 0] 117)) := (Below.refl _ w2).alloc (Nat.le_refl _) _
  refine ⟨_, rfl, b2.trans (b3.mono (by omega)), by simp [s2], k0.below b3, k1.below b3, ?_⟩
  rw [show w.heap.size + 1 + 1 = w2.heap.size by omega]
  exact Bf.new w2
end Go.Proofs.YtmbiompmhaiehaaDoor
/- The walk of the code: texts put together. -/
namespace Go.Proofs.YtmbiompmhaiehaaDoor
open Go.RowKit

/-- what stands in every round -/
structure Cf (w w3 W : World) (x gk : Nat) (roots : List Nat) (L : List UInt8) : Prop where
  bl : Below (w.heap.size + 1 + 1) w3 W
  kr : KR W gk x roots
  bf : Bf (w.heap.size + 1 + 1) L W

theorem Cf.then_ {w w3 W W' : World} {x gk : Nat} {roots : List Nat} {L : List UInt8} (h : Cf w w3 W x gk roots L) (hb : Below W.heap.size W W') : Cf w w3 W' x gk roots L :=
  ⟨h.bl.trans (hb.mono (Nat.le_of_lt h.bf.len)), h.kr.keep (hb.block gk h.kr.len), h.bf.then_ hb⟩
theorem Cf.write {w w3 W W' : World} {x gk : Nat} {roots : List Nat} {L L' : List UInt8} (h : Cf w w3 W x gk roots L) (hg : gk ≠ (w.heap.size + 1 + 1)) (h1 : Bf (w.heap.size + 1 + 1) L' W') (h2 : Below (w.heap.size + 1 + 1) W W') (h3 : Lib.OthersKept 5 (some (w.heap.size + 1 + 1)) W W') : Cf w w3 W' x gk roots L' :=
  ⟨h.bl.trans h2, kr_kept h.kr h3 hg, h1⟩
theorem isT_sort (t : Th) : t.isT = (t.sort == 2) := by cases t <;> rfl

set_option maxRecDepth 100000 in
set_option maxHeartbeats 8000000 in
theorem cat_any {w : World} {x f d : Nat} {A : Option Addr} {c : Nat} {N : List Rn} {F D : List Nat} {r k : Nat} {P : List Pe} (IH : ∀ r', r' < r → RecC x f d A c N F D r') (hE : Ex w x f d A c N F D) (hP : pileP N r = some P) (hk : k ≤ P.length) (h1 : 1 ≤ k) (hF : F[r]? = some (bottom r (P.take k))) (hr : r < N.length) :
    Calls Tryd.prog 53 #[.agg #[.pointer (some ⟨x, 0, none⟩), .int .i64 (r : Nat)]] w fun e w' => e = catEnd r (kidRes N P k) ∧ Below w.heap.size w w' := by
  obtain ⟨w3, hw3, b3, s3, k0, k1, k2⟩ := cat_start w x r
  have c0 : w3.cell? ⟨w.heap.size, 0, none⟩ = some (.pointer (some ⟨x, 0, none⟩)) := k0.at_ 0
  have c1 : w3.cell? ⟨w.heap.size, 1, none⟩ = some (.int .i64 (r : Nat)) := k0.at_ 1
  have hkb : k ≤ 2932031007402 := by have := chain_len P r (pile_chain r P hP); have := hE.few; omega
  have hrl : (kidRoots P k).length = k := by unfold kidRoots; rw [List.length_reverse, List.length_map, List.length_take]; omega
  have hrr : ∀ q ∈ kidRoots P k, q < r := by
    intro q hq
    unfold kidRoots at hq
    obtain ⟨e, he, rfl⟩ := List.mem_map.1 (List.mem_reverse.1 hq)
    exact (pile_mem r P hP e (List.mem_of_mem_take he)).1
  have hkr : kidRes N P k = (kidRoots P k).map (resAt N) := by
    unfold kidRes kidRoots
    rw [List.map_reverse, List.map_map]
    rfl
  rw [hkr]
  have hok : ∀ j t, resAt N j = .ok t → t.Ok := fun j t ht => res_ok (fun y hy => (hE.num y hy).1) ht
  -- the kids
  have CK : Hid (Calls Tryd.prog 74 #[.agg #[.pointer (some ⟨x, 0, none⟩), .int .i64 (r : Nat)]] w3 fun e w4 => ∃ gk ck, e = .returned (.slice (some ⟨gk, 0, none⟩) k ck) ∧ Hid (Cf w w3 w4 x gk (kidRoots P k) [] ∧ gk ≠ (w.heap.size + 1 + 1))) := by
    have q := pkids_any ((hE.below b3).xb) hE.kn hP hk hF hr hE.few
    refine q.mono ?_
    rintro e w4 ⟨Ak, ck, he, hb, h⟩
    rcases h with h | ⟨gk, rfl, hg, hkr⟩
    · omega
    · exact ⟨gk, ck, he, ⟨hb.mono (by omega), hkr, k2.then_ hb⟩, by omega⟩
  generalize kidRoots P k = roots at CK hrl hrr hkr ⊢
  obtain ⟨EE, hEE⟩ : ∃ EE, catEnd r (roots.map (resAt N)) = EE := ⟨_, rfl⟩
  rw [hEE]
  have HEE := Lib.hid hEE
  clear hEE
  have FX : Hid (∀ W, Below (w.heap.size + 1 + 1) w3 W → (W.cell? ⟨w.heap.size, 0, none⟩ = some (.pointer (some ⟨x, 0, none⟩)) ∧ W.cell? ⟨w.heap.size, 1, none⟩ = some (.int .i64 (r : Nat))) ∧ CB W (w.heap.size + 1) 64 #[.int .i64 0, .bool false, .int .u64 0, .string ⟨#[]⟩] ∧ Below w.heap.size w W ∧ Ex W x f d A c N F D ∧ w.heap.size + 3 ≤ W.heap.size) := fun W hW => by
    have hb : Below w.heap.size w W := b3.trans (hW.mono (by omega))
    have a0 := k0.keep (hW.block _ (by omega))
    have a1 := k1.keep (hW.block _ (by omega))
    exact ⟨⟨a0.at_ 0, a0.at_ 1⟩, a1, hb, hE.below hb, by have := hW.size; omega⟩
  have HIH := Lib.hid IH
  have HRR := Lib.hid hrr
  have HOK := Lib.hid hok
  have HRL := Lib.hid hrl
  clear IH hE hP hF hr hk k0 k1 k2 hkr hrr hok hrl b3
  go_enter Tryd.func53, Tryd.ntmps53
  go_wp2_with (go_at_call 74; refine CK.out.mono ?_; rintro e w4 ⟨gk, ck, rfl, H4⟩)
  have hgb := H4.out.2
  clear CK c0 c1
  go_loopw [4, 11] (fun u v wr => ∃ (i : Nat) (tb : Bool), u = .bool tb ∧ v = .int .i64 i ∧ i ≤ k ∧ Hid (∃ ts : List Th, ts.length = i ∧ (roots.map (resAt N)).take i = ts.map .ok ∧ tb = ts.all Th.isT ∧ (∀ t ∈ ts, t.Ok) ∧ Cf w w3 wr x gk roots (greedy (ts.map Th.s) []))) (fun _ v _ => k - (intOf v).toNat)
  case atStart => exact ⟨0, true, rfl, rfl, Nat.zero_le _, [], rfl, rfl, rfl, nofun, H4.out.1⟩
  case round =>
    clear H4
    obtain ⟨i, tb, rfl, rfl, hik, HF⟩ := hrel
    obtain ⟨ts, htl, htk, htb, hto, hC⟩ := HF.out
    have HC := Lib.hid hC
    obtain ⟨⟨d0, d1⟩, hres, _, _, hsz⟩ := FX.out wr hC.bl
    clear HF hres
    by_cases hlt : i < k
    · have hiz : (i : Int) < (k : Int) := by omega
      have hi0 : (0 : Int) ≤ (i : Int) := by omega
      obtain ⟨q, hq⟩ : ∃ q, roots[i]? = some q := ⟨_, List.getElem?_eq_getElem (by rw [HRL.out]; exact hlt)⟩
      have hqr := HRR.out q (List.mem_of_getElem? hq)
      obtain ⟨q1, q2, _, _⟩ := hC.kr.at_ (j := i) (by rw [HRL.out]; exact hlt)
      rw [(List.getElem?_eq_some_iff.1 hq).2] at q2
      have hri : (roots.map (resAt N))[i]? = some (resAt N q) := by rw [List.getElem?_map, hq]; rfl
      have hb5 : Below wr.heap.size wr (wr.alloc (.cells #[.pointer (some ⟨x, 0, none⟩), .int .i64 (q : Nat)] 43)) := (Below.refl _ wr).alloc (Nat.le_refl _) _
      obtain ⟨w5, hw5⟩ : ∃ w5, wr.alloc (.cells #[.pointer (some ⟨x, 0, none⟩), .int .i64 (q : Nat)] 43) = w5 := ⟨_, rfl⟩
      have hn5 : CB w5 wr.heap.size 43 #[.pointer (some ⟨x, 0, none⟩), .int .i64 (q : Nat)] := by rw [← hw5]; exact CB.new wr _ _
      rw [hw5] at hb5
      have e0 : w5.cell? ⟨wr.heap.size, 0, none⟩ = some (.pointer (some ⟨x, 0, none⟩)) := hn5.at_ 0
      have e1 : w5.cell? ⟨wr.heap.size, 1, none⟩ = some (.int .i64 (q : Nat)) := hn5.at_ 1
      have hB5 : Below (w.heap.size + 1 + 1) w3 w5 := hC.bl.trans (hb5.mono (by omega))
      have CR : Hid (Calls Tryd.prog 26 #[.agg #[.pointer (some ⟨x, 0, none⟩), .int .i64 (q : Nat)]] w5 fun e w6 => e = endR (resAt N q) ∧ Below w5.heap.size w5 w6) := HIH.out q hqr (FX.out w5 hB5).2.2.2.1
      clear hn5 hq hqr hC
      cases hz : resAt N q with
      | error z =>
        obtain ⟨za, ze⟩ := z
        rw [hz] at CR hri
        have he : endR (.error (za, ze)) = .panicked [faultV za ze] := rfl
        rw [he] at CR
        have hce : catEnd r (roots.map (resAt N)) = .panicked [faultV za ze] := catEnd_err htk hri
        have HCE := Lib.hid (hce.symm.trans HEE.out)
        clear he hce hz hri htk htl htb hto
        go_wp2_with (go_at_call 26; refine CR.out.mono ?_; rintro e w6 ⟨rfl, hb6⟩)
        exact ⟨rfl, HCE.out, (FX.out w6 (hB5.trans (hb6.mono (by have := hb5.size; omega)))).2.2.1⟩
      | ok t =>
        rw [hz] at CR hri
        have htO : t.Ok := HOK.out q t hz
        obtain ⟨so, hs⟩ : ∃ so, t.sort = so := ⟨_, rfl⟩
        obtain ⟨bl, hbl⟩ : ∃ bl, decide (t.n < 0) = bl := ⟨_, rfl⟩
        obtain ⟨nn, hnn⟩ : ∃ nn, t.n.natAbs = nn := ⟨_, rfl⟩
        obtain ⟨S, hS⟩ : ∃ S, str t.s = S := ⟨_, rfl⟩
        have he : endR (.ok t) = .returned (.agg #[.int .i64 so, .bool bl, .int .u64 (nn : Nat), .string S]) := by rw [← hs, ← hbl, ← hnn, ← hS]; rfl
        rw [he] at CR
        obtain ⟨sb, hsb⟩ : ∃ sb, (so == 2) = sb := ⟨_, rfl⟩
        have hit : t.isT = sb := by rw [isT_sort, hs, hsb]
        have hls : ls S = t.s := by rw [← hS]; exact ls_str _
        have hSz : S.size = t.s.length := by rw [← hS]; exact str_size _
        have htl2 : t.s.length ≤ 4096 := by
          cases t with
          | num v => exact Nat.zero_le _
          | truth v => exact Nat.zero_le _
          | text v => exact htO
          | bytes v => exact htO
        obtain ⟨L, hL⟩ : ∃ L, greedy (ts.map Th.s) [] = L := ⟨_, rfl⟩
        have hLz : L.length ≤ 8192 := by
          rw [← hL]
          refine greedy_le _ _ (Nat.zero_le _) fun s hs => ?_
          obtain ⟨t', ht', rfl⟩ := List.mem_map.1 hs
          have := hto t' ht'
          cases t' with
          | num v => exact Nat.zero_le _
          | truth v => exact Nat.zero_le _
          | text v => exact this
          | bytes v => exact this
        have hL' : greedy ((ts ++ [t]).map Th.s) [] = if L.length ≤ 4096 then L ++ t.s else L := by rw [List.map_append]; show greedy (ts.map Th.s ++ [t.s]) [] = _; rw [greedy_snoc, hL]
        have hC0 := HC.out
        rw [hL] at hC0
        have hC5 : Cf w w3 w5 x gk roots L := hC0.then_ hb5
        -- what stands behind the kid's reckoning
        have AX : Hid (∀ w6, Below w5.heap.size w5 w6 → ∃ w7, w6.alloc (.cells #[.int .i64 so, .bool bl, .int .u64 (nn : Nat), .string S] 64) = w7 ∧ (w7.cell? ⟨w6.heap.size, 0, none⟩ = some (.int .i64 so) ∧ w7.cell? ⟨w6.heap.size, 3, none⟩ = some (.string S)) ∧ Hid (Cf w w3 w7 x gk roots L) ∧
            Hid (Calls Tryd.prog 77 #[.pointer (some ⟨(w.heap.size + 1 + 1), 0, none⟩)] w7 fun e w' => e = .returned (.int .i64 (L.length : Nat)) ∧ w7 = w') ∧
            Hid (Calls Tryd.prog 78 #[.pointer (some ⟨(w.heap.size + 1 + 1), 0, none⟩), .string S] w7 fun e w8 => e = .returned (.tuple #[.int .i64 S.size, .nilIface]) ∧ Hid (Cf w w3 w8 x gk roots (L ++ t.s)))) := fun w6 h6 => by
          have hb7 : Below w6.heap.size w6 (w6.alloc (.cells #[.int .i64 so, .bool bl, .int .u64 (nn : Nat), .string S] 64)) := (Below.refl _ w6).alloc (Nat.le_refl _) _
          have hn7 := CB.new w6 64 #[.int .i64 so, .bool bl, .int .u64 (nn : Nat), .string S]
          have hC7 := (hC5.then_ h6).then_ hb7
          refine ⟨_, rfl, ⟨hn7.at_ 0, hn7.at_ 3⟩, hC7, ?_, ?_⟩
          · exact hC7.bf.size.mono fun e w' h => ⟨h.1, h.2.symm⟩
          · refine (hC7.bf.write S (by omega) (L ++ t.s) (by rw [hls])).mono ?_
            rintro e w8 ⟨he, g1, g2, g3⟩
            exact ⟨he, hC7.write hgb g1 g2 g3⟩
        have NX : Hid (∀ W, Cf w w3 W x gk roots (if L.length ≤ 4096 then L ++ t.s else L) → ∃ ts' : List Th, ts'.length = i + 1 ∧ (roots.map (resAt N)).take (i + 1) = ts'.map .ok ∧ (tb && sb) = ts'.all Th.isT ∧ (∀ t ∈ ts', t.Ok) ∧ Cf w w3 W x gk roots (greedy (ts'.map Th.s) [])) := fun W hW => by
          refine ⟨ts ++ [t], by simp [htl], take_succ_ok htk hri, ?_, fun t' ht' => ?_, by rw [hL']; exact hW⟩
          · rw [List.all_append, htb]
            simp [hit]
          · rcases List.mem_append.1 ht' with h | h
            · exact hto t' h
            · rw [List.mem_singleton.1 h]; exact htO
        clear htk hri htb hto htO hs hbl hnn hS he hit hls hSz htl2 hL hL' hC0 hC5 hz htl HC
        by_cases hle : L.length ≤ 4096
        · have hlz : (L.length : Int) ≤ 4096 := by omega
          have hlz' : decide ((L.length : Int) ≤ 4096) = true := decide_eq_true hlz
          rw [if_pos hle] at NX
          clear hle hLz
          cases tb
          all_goals
            go_wp2_with (first
              | (go_at_call 26; refine CR.out.mono ?_; rintro e w6 ⟨rfl, hb6⟩; obtain ⟨w7, hw7, ⟨m0, m3⟩, H7, CL, CW⟩ := AX.out w6 hb6)
              | (go_at_call 77; refine CL.out.mono ?_; rintro e w9 ⟨rfl, rfl⟩)
              | (go_at_call 78; refine CW.out.mono ?_; rintro e w8 ⟨rfl, H8⟩)
              | fail)
            have NN := NX.out w8 H8.out
            go_roundw
            case rel => exact ⟨i + 1, _, rfl, by go_num, by omega, NN⟩
            case measure => simp [intOf]; omega
        · have hlz : ¬ (L.length : Int) ≤ 4096 := by omega
          have hlz' : decide ((L.length : Int) ≤ 4096) = false := decide_eq_false hlz
          rw [if_neg hle] at NX
          clear hle hLz
          cases tb
          all_goals
            go_wp2_with (first
              | (go_at_call 26; refine CR.out.mono ?_; rintro e w6 ⟨rfl, hb6⟩; obtain ⟨w7, hw7, ⟨m0, m3⟩, H7, CL, CW⟩ := AX.out w6 hb6)
              | (go_at_call 77; refine CL.out.mono ?_; rintro e w9 ⟨rfl, rfl⟩)
              | fail)
            have NN := NX.out _ H7.out
            go_roundw
            case rel => exact ⟨i + 1, _, rfl, by go_num, by omega, NN⟩
            case measure => simp [intOf]; omega
    · obtain rfl : i = k := by omega
      have hiz : ¬ (i : Int) < (i : Int) := by omega
      have hrs : roots.map (resAt N) = ts.map .ok := by
        rw [← htk, List.take_of_length_le (by rw [List.length_map, HRL.out]; omega)]
      have hce : catEnd r (roots.map (resAt N)) = endO r (if tb then textE (greedy (ts.map Th.s) []) else .error 110) := by rw [catEnd_ok hrs, htb]
      obtain ⟨L, hL⟩ : ∃ L, greedy (ts.map Th.s) [] = L := ⟨_, rfl⟩
      have hLz : L.length ≤ 8192 := by
        rw [← hL]
        refine greedy_le _ _ (Nat.zero_le _) fun s hs => ?_
        obtain ⟨t', ht', rfl⟩ := List.mem_map.1 hs
        have := hto t' ht'
        cases t' with
        | num v => exact Nat.zero_le _
        | truth v => exact Nat.zero_le _
        | text v => exact this
        | bytes v => exact this
      rw [hL] at hce
      have hC0 := HC.out
      rw [hL] at hC0
      have hBw := hC0.bf.len
      clear HC hC
      cases tb with
      | false =>
        have hce2 : EE = .panicked [faultV r 110] := by rw [← HEE.out, hce]; rfl
        have WN : Hid (Calls Tryd.prog 27 #[.agg #[.pointer (some ⟨x, 0, none⟩), .int .i64 (r : Nat)], .bool false] wr fun q w' => q = .panicked [faultV r 110] ∧ Hid (Below w.heap.size w w')) := (want_no wr x r).mono fun q w' h => ⟨h.1, (FX.out w' (hC0.bl.trans (h.2.mono (by omega)))).2.2.1⟩
        have HCE := Lib.hid hce2
        clear hce hce2 hrs htb hto htl htk hL hLz hC0
        go_wp2_with (go_at_call 27; refine WN.out.mono ?_; rintro e w5 ⟨rfl, H5⟩)
        exact ⟨rfl, HCE.out.symm, H5.out⟩
      | true =>
        have WY : Hid (Calls Tryd.prog 27 #[.agg #[.pointer (some ⟨x, 0, none⟩), .int .i64 (r : Nat)], .bool true] wr fun q w' => q = .returned (.tuple #[]) ∧ Hid (Below (w.heap.size + 1 + 1) w3 w' ∧ Bf (w.heap.size + 1 + 1) L w')) := (want_yes wr x r).mono fun q w' h => ⟨h.1, hC0.bl.trans (h.2.mono (by omega)), hC0.bf.then_ h.2⟩
        have OX : Hid (∀ W, Bf (w.heap.size + 1 + 1) L W → Calls Tryd.prog 79 #[.pointer (some ⟨(w.heap.size + 1 + 1), 0, none⟩)] W fun e w' => e = .returned (.string (str L)) ∧ Below (w.heap.size + 1 + 1) W w') := fun W h => h.out
        have TX : Hid (∀ W, Calls Tryd.prog 46 #[.agg #[.pointer (some ⟨x, 0, none⟩), .int .i64 (r : Nat)], .string (str L)] W fun e w' => e = endO r (textE L) ∧ Below W.heap.size W w') := fun W => textOf_any W x r L (by omega)
        have hce2 : EE = endO r (textE L) := by rw [← HEE.out, hce]; rfl
        obtain ⟨J, hJ⟩ : ∃ J, str L = J := ⟨_, rfl⟩
        obtain ⟨R, hR⟩ : ∃ R, textE L = R := ⟨_, rfl⟩
        rw [hJ] at OX TX
        rw [hR] at TX hce2
        have HCE := Lib.hid hce2
        clear hce hce2 hrs htb hto htl htk hL hLz hC0 hJ hR
        go_wp2_with (first
          | (go_at_call 27; refine WY.out.mono ?_; rintro e w5 ⟨rfl, H5⟩)
          | fail)
        have hB : Below w5.heap.size w5 w5.drew := Below.thenN (Below.refl _ _) 1
        have hl5 := H5.out.2.len
        have SX : Hid (∀ W, Below (w.heap.size + 1 + 1) w5 W → W.cell? ⟨w.heap.size, 0, none⟩ = some (.pointer (some ⟨x, 0, none⟩)) ∧ W.cell? ⟨w.heap.size, 1, none⟩ = some (.int .i64 (r : Nat))) := fun W hW => (FX.out W (H5.out.1.trans hW)).1
        have hBm : Below (w.heap.size + 1 + 1) w5 w5.drew := hB.mono (by omega)
        obtain ⟨a0, a1⟩ := SX.out _ hBm
        have hOX := OX.out w5.drew (H5.out.2.then_ hB)
        clear d0 d1
        cases R with
        | error ze =>
          have he : endO r (.error ze) = .panicked [faultV r ze] := rfl
          rw [he] at TX HCE
          clear he
          go_region_dies
          all_goals
            refine hOX.mono ?_
            rintro e w6 ⟨rfl, hb6'⟩
            rename_i K hK
            have hb6 := hBm.trans hb6'
            obtain ⟨l0, l1⟩ := SX.out w6 hb6
            refine hK _ _ ?_
            clear hK K
            try
              refine wpAny_ready (rs := [0]) (by decide +kernel) (by simp) ?_
              refine AllReady.cons rfl (fun K2 hK2 => ?_) AllReady.nil
              go_simp
              refine hK2 _ _ ?_
              clear hK2 K2
            refine wpAny_ready (rs := [2]) (by decide +kernel) (by simp) ?_
            refine AllReady.cons rfl (fun K2 hK2 => ?_) AllReady.nil
            go_simp
            refine (TX.out _).mono ?_
            rintro e w7 ⟨rfl, hb7⟩
            have hs6 := hb6.size
            exact ⟨rfl, HCE.out.symm, (FX.out w7 (H5.out.1.trans (Below.trans hb6 (hb7.mono (by omega))))).2.2.1⟩
        | ok t =>
          obtain ⟨so9, bl9, nn9, S9, hth⟩ := thC_four t
          have he : endO r (.ok t) = .returned (.agg #[.int .i64 so9, .bool bl9, .int .u64 (nn9 : Nat), .string S9]) := by rw [← hth]; rfl
          rw [he] at TX HCE
          clear he hth
          have KX : Hid (∀ W, Below (w.heap.size + 1 + 1) w5 W → (W.cell? ⟨w.heap.size + 1, 0, none⟩ = some (.int .i64 0) ∧ W.cell? ⟨w.heap.size + 1, 1, none⟩ = some (.bool false) ∧ W.cell? ⟨w.heap.size + 1, 2, none⟩ = some (.int .u64 0) ∧ W.cell? ⟨w.heap.size + 1, 3, none⟩ = some (.string ⟨#[]⟩)) ∧ (W.frozen? ⟨w.heap.size + 1, 0, none⟩ = false ∧ W.frozen? ⟨w.heap.size + 1, 1, none⟩ = false ∧ W.frozen? ⟨w.heap.size + 1, 2, none⟩ = false ∧ W.frozen? ⟨w.heap.size + 1, 3, none⟩ = false) ∧
              Hid (CB (set4 W (w.heap.size + 1) (.int .i64 so9) (.bool bl9) (.int .u64 (nn9 : Nat)) (.string S9)) (w.heap.size + 1) 64 #[.int .i64 so9, .bool bl9, .int .u64 (nn9 : Nat), .string S9] ∧ Below w.heap.size w (set4 W (w.heap.size + 1) (.int .i64 so9) (.bool bl9) (.int .u64 (nn9 : Nat)) (.string S9)))) := fun W hW => by
            obtain ⟨_, h9, hz, _⟩ := FX.out W (H5.out.1.trans hW)
            refine ⟨⟨h9.at_ 0, h9.at_ 1, h9.at_ 2, h9.at_ 3⟩, ⟨h9.frozen 0, h9.frozen 1, h9.frozen 2, h9.frozen 3⟩, ?_⟩
            have q := set4_eq W (w.heap.size + 1) (.int .i64 so9) (.bool bl9) (.int .u64 (nn9 : Nat)) (.string S9)
            have k9 := h9.store (cs := #[.int .i64 so9, .bool bl9, .int .u64 (nn9 : Nat), .string S9]) rfl
            have t9 : Turned (w.heap.size + 1) W (W.setCells (w.heap.size + 1) 0 (#[.int .i64 so9, .bool bl9, .int .u64 (nn9 : Nat), .string S9] : Array Value).toList) := Turned.setCells _ _ _ (Turned.refl _ W)
            rw [q] at k9 t9
            exact ⟨k9, hz.trans (t9.below (by omega))⟩
          go_region_with (first
              | (go_at_call 79; (with_reducible refine hOX.mono ?_); rintro e w6 ⟨rfl, hb6'⟩; have hb6 := hBm.trans hb6'; obtain ⟨l0, l1⟩ := SX.out w6 hb6)
              | (go_at_call 46; (with_reducible refine (TX.out _).mono ?_); rintro e w7 ⟨rfl, hb7⟩; have hB7 : Below (w.heap.size + 1 + 1) w5 w7 := Below.trans hb6 (hb7.mono (by have := hb6.size; omega)); obtain ⟨⟨m0, m1, m2, m3⟩, ⟨f0, f1, f2, f3⟩, H7⟩ := KX.out _ hB7)
              | fail)
          all_goals
            go_wp2
            exact bodyPost_ret (results_cb rfl _ _ _ _ rfl H7.out.1 Tryd.underlying64 rfl (by kernel_rfl)) rfl ⟨HCE.out.symm, H7.out.2⟩
end Go.Proofs.YtmbiompmhaiehaaDoor
