/- The walk of the code: the bytes that a text's digits say. -/
import Derived.Test.YtpgljmkemmikhaaDoorExOne
import Derived.Test.YtpgljmkemmikhaaDoorExGp
namespace Go.Proofs.YtpgljmkemmikhaaDoor
open Go.RowKit

set_option maxRecDepth 100000 in
set_option maxHeartbeats 4000000 in
theorem hexn_any {w : World} {x f d : Nat} {A : Option Addr} {c : Nat} {N : List Rn} {F D : List Nat} {r : Nat} {P : List Pe} (IH : ∀ r', r' < r → RecC x f d A c N F D r') (hE : Ex w x f d A c N F D) (hP : pileP N r = some P) (hk : 1 ≤ P.length) (hF : F[r]? = some (bottom r (P.take 1))) (hr : r < N.length) :
    Calls Tryd.prog 69 #[.agg #[.pointer (some ⟨x, 0, none⟩), .int .i64 (r : Nat)]] w fun e w' => e = comb1 r hexF (resAt N P[0].r) ∧ Below w.heap.size w w' := by
  obtain ⟨w2, hw2, b2, s2, k0, k1⟩ := sub_mean w x r
  have c0 : w2.cell? ⟨w.heap.size, 0, none⟩ = some (.pointer (some ⟨x, 0, none⟩)) := k0.at_ 0
  have c1 : w2.cell? ⟨w.heap.size, 1, none⟩ = some (.int .i64 (r : Nat)) := k0.at_ 1
  have co := one_any IH (hE.below b2) hP hk hF hr
  have hok : ∀ t, resAt N P[0].r = .ok t → t.Ok := fun t ht => res_ok (fun y hy => (hE.num y hy).1) ht
  obtain ⟨z, hz⟩ : ∃ z, resAt N P[0].r = z := ⟨_, rfl⟩
  rw [hz] at co hok
  rw [hz]
  clear hz IH hE hP hF hr
  cases z with
  | error z =>
    obtain ⟨za, ze⟩ := z
    have he : endR (.error (za, ze)) = .panicked [faultV za ze] := rfl
    rw [he] at co
    have CO := Lib.hid co
    have K := Lib.hid (And.intro k0 k1)
    clear k0 k1 hok co he
    show Calls _ _ _ _ fun e w' => e = .panicked [faultV za ze] ∧ _
    go_enter Tryd.func69, Tryd.ntmps69
    go_wp2_with (go_at_call 81; refine CO.out.mono ?_; rintro e w3 ⟨rfl, hb3⟩)
    exact ⟨rfl, rfl, b2.trans (hb3.mono b2.size)⟩
  | ok t =>
    have hok := hok t rfl
    have AX : Hid (∀ w3, Below w2.heap.size w2 w3 → ∀ (so : Int) bl (nn : Nat) S, ∃ w4, w3.alloc (.cells #[.int .i64 so, .bool bl, .int .u64 (nn : Nat), .string S] 75) = w4 ∧ w.heap.size + 1 < w3.heap.size ∧ ∀ W, Below w4.heap.size w4 W → (W.cell? ⟨w.heap.size, 0, none⟩ = some (.pointer (some ⟨x, 0, none⟩)) ∧ W.cell? ⟨w.heap.size, 1, none⟩ = some (.int .i64 (r : Nat))) ∧
      (W.cell? ⟨w3.heap.size, 0, none⟩ = some (.int .i64 so) ∧ W.cell? ⟨w3.heap.size, 1, none⟩ = some (.bool bl) ∧ W.cell? ⟨w3.heap.size, 2, none⟩ = some (.int .u64 (nn : Nat)) ∧ W.cell? ⟨w3.heap.size, 3, none⟩ = some (.string S)) ∧
      CB W (w.heap.size + 1) 75 #[.int .i64 0, .bool false, .int .u64 0, .string ⟨#[]⟩] ∧ Below w.heap.size w W) := fun w3 hb so bl nn S => after_one k0 k1 b2 hb
    obtain ⟨so, hs⟩ : ∃ so, t.sort = so := ⟨_, rfl⟩
    obtain ⟨bl, hbl⟩ : ∃ bl, decide (t.n < 0) = bl := ⟨_, rfl⟩
    obtain ⟨nn, hnn⟩ : ∃ nn, t.n.natAbs = nn := ⟨_, rfl⟩
    obtain ⟨S0, hS0⟩ : ∃ S0, str t.s = S0 := ⟨_, rfl⟩
    have he : endR (.ok t) = .returned (.agg #[.int .i64 so, .bool bl, .int .u64 (nn : Nat), .string S0]) := by rw [← hs, ← hbl, ← hnn, ← hS0]; rfl
    rw [he] at co
    have CO := Lib.hid co
    clear co he k0 k1 hbl hnn
    have WY : Hid (∀ W, Calls Tryd.prog 41 #[.agg #[.pointer (some ⟨x, 0, none⟩), .int .i64 (r : Nat)], .bool true] W fun q w' => q = .returned (.tuple #[]) ∧ Below W.heap.size W w') := fun W => want_yes W x r
    have WN : Hid (∀ W, Calls Tryd.prog 41 #[.agg #[.pointer (some ⟨x, 0, none⟩), .int .i64 (r : Nat)], .bool false] W fun q w' => q = .panicked [faultV r 110] ∧ Below W.heap.size W w') := fun W => want_no W x r
    cases t with
    | text t0 =>
      obtain rfl : so = 2 := hs.symm
      have hl : t0.length ≤ 4096 := hok
      have hz9 : S0.size = t0.length := by rw [← hS0]; exact str_size _
      have hls : ls S0 = t0 := by rw [← hS0]; exact ls_str t0
      have GX : Hid (∀ W, Calls Tryd.prog 46 #[.agg #[.pointer (some ⟨x, 0, none⟩), .int .i64 (r : Nat)], .int .i64 111] W fun q w' => q = .panicked [faultV r 111] ∧ Below W.heap.size W w') := fun W => give_any W x r 111
      have HX : Hid (∀ W, Calls Tryd.prog 93 #[.string S0] W fun e w' => e = .returned (.tuple #[.string (hexT S0), .int .i64 (hexE S0)]) ∧ Below W.heap.size W w') := fun W => hex_any S0 (by omega)
      show Calls _ _ _ _ fun e w' => e = endO r (hexE' t0) ∧ _
      unfold hexT hexE at HX
      rw [hls] at HX
      unfold hexE'
      cases hx : hexL t0 with
      | some u0 =>
        rw [hx] at HX
        dsimp only at HX
        obtain ⟨T0, hT0⟩ : ∃ T0, str u0 = T0 := ⟨_, rfl⟩
        rw [hT0] at HX
        have hf : endO r (.ok (.bytes u0)) = .returned (.agg #[.int .i64 4, .bool false, .int .u64 0, .string T0]) := by rw [← hT0]; rfl
        dsimp only
        rw [hf]
        clear hok hs hS0 hf hz9 hl hls hx hT0 GX
        have GX : Hid (∀ _ : World, True) := fun _ => trivial
        go_enter Tryd.func69, Tryd.ntmps69
        go_wp2_with (first
        | (go_at_call 81; refine CO.out.mono ?_; rintro e w3 ⟨rfl, hb3⟩; obtain ⟨w4, hw4, hsz, FX⟩ := AX.out w3 hb3 2 bl nn S0; have FX := Lib.hid FX; obtain ⟨⟨p0, p1⟩, ⟨q0, q1, q2, q3⟩, _, _⟩ := FX.out w4 (Below.refl _ _); have cw := WY.out w4)
        | (go_at_call 41; refine cw.mono ?_; rintro e w5 ⟨rfl, hb5⟩; clear p0 p1 q0 q1 q2 q3; obtain ⟨⟨p0, p1⟩, ⟨q0, q1, q2, q3⟩, h9, hz⟩ := FX.out w5 hb5; have ch := HX.out w5)
        | (go_at_call 93; refine ch.mono ?_; rintro e w6 ⟨rfl, hb6⟩; clear p0 p1 q0 q1 q2 q3 h9 hz; obtain ⟨⟨p0, p1⟩, ⟨q0, q1, q2, q3⟩, h9, hz⟩ := FX.out w6 (Below.both hb5 hb6); have cg := GX.out w6)
        | (refine wpList_store_cb rfl 75 (.tmp 2) (.tmp 25) rfl (w.heap.size + 1) _ #[.int .i64 4, .bool false, .int .u64 0, .string T0] rfl rfl h9 rfl (by kernel_rfl) (by kernel_rfl) ?_; intro w9 k9 t9)
        | fail)
        exact bodyPost_ret (results_cb rfl _ _ _ _ rfl k9 Tryd.underlying75 rfl (by kernel_rfl)) rfl ⟨rfl, hz.trans (t9.below (by omega))⟩
      | none =>
        rw [hx] at HX
        dsimp only at HX
        have hf : endO r (.error 111) = .panicked [faultV r 111] := rfl
        dsimp only
        rw [hf]
        clear hok hs hS0 hf hz9 hl hls hx
        go_enter Tryd.func69, Tryd.ntmps69
        go_wp2_with (first
        | (go_at_call 81; refine CO.out.mono ?_; rintro e w3 ⟨rfl, hb3⟩; obtain ⟨w4, hw4, hsz, FX⟩ := AX.out w3 hb3 2 bl nn S0; have FX := Lib.hid FX; obtain ⟨⟨p0, p1⟩, ⟨q0, q1, q2, q3⟩, _, _⟩ := FX.out w4 (Below.refl _ _); have cw := WY.out w4)
        | (go_at_call 41; refine cw.mono ?_; rintro e w5 ⟨rfl, hb5⟩; clear p0 p1 q0 q1 q2 q3; obtain ⟨⟨p0, p1⟩, ⟨q0, q1, q2, q3⟩, h9, hz⟩ := FX.out w5 hb5; have ch := HX.out w5)
        | (go_at_call 93; refine ch.mono ?_; rintro e w6 ⟨rfl, hb6⟩; clear p0 p1 q0 q1 q2 q3 h9 hz; obtain ⟨⟨p0, p1⟩, ⟨q0, q1, q2, q3⟩, h9, hz⟩ := FX.out w6 (Below.both hb5 hb6); have cg := GX.out w6)
        | (go_at_call 46; refine cg.mono ?_; rintro e w7 ⟨rfl, hb7⟩; obtain ⟨_, _, _, hy⟩ := FX.out w7 (Below.both (Below.both hb5 hb6) hb7))
        | fail)
        exact ⟨rfl, rfl, hy⟩
    | bytes s0 =>
      obtain rfl : so = 4 := hs.symm
      have hf : comb1 r hexF (.ok (.bytes s0)) = .panicked [faultV r 110] := rfl
      have hf : comb1 r hexF (.ok (.bytes s0)) = .panicked [faultV r 110] := hf
      rw [hf]
      clear hok hs hS0 hf
      go_enter Tryd.func69, Tryd.ntmps69
      go_wp2_with (first
        | (go_at_call 81; refine CO.out.mono ?_; rintro e w3 ⟨rfl, hb3⟩; obtain ⟨w4, hw4, hsz, FX⟩ := AX.out w3 hb3 4 bl nn S0; have FX := Lib.hid FX; obtain ⟨⟨p0, p1⟩, ⟨q0, q1, q2, q3⟩, _, _⟩ := FX.out w4 (Below.refl _ _); have cw := WN.out w4)
        | (go_at_call 41; refine cw.mono ?_; rintro e w5 ⟨rfl, hb5⟩; obtain ⟨_, _, _, hz⟩ := FX.out w5 hb5)
        | fail)
      exact ⟨rfl, rfl, hz⟩
    | num v =>
      obtain rfl : so = 1 := hs.symm
      have hf : comb1 r hexF (.ok (.num v)) = .panicked [faultV r 110] := rfl
      have hf : comb1 r hexF (.ok (.num v)) = .panicked [faultV r 110] := hf
      rw [hf]
      clear hok hs hS0 hf
      go_enter Tryd.func69, Tryd.ntmps69
      go_wp2_with (first
        | (go_at_call 81; refine CO.out.mono ?_; rintro e w3 ⟨rfl, hb3⟩; obtain ⟨w4, hw4, hsz, FX⟩ := AX.out w3 hb3 1 bl nn S0; have FX := Lib.hid FX; obtain ⟨⟨p0, p1⟩, ⟨q0, q1, q2, q3⟩, _, _⟩ := FX.out w4 (Below.refl _ _); have cw := WN.out w4)
        | (go_at_call 41; refine cw.mono ?_; rintro e w5 ⟨rfl, hb5⟩; obtain ⟨_, _, _, hz⟩ := FX.out w5 hb5)
        | fail)
      exact ⟨rfl, rfl, hz⟩
    | truth b =>
      obtain rfl : so = 3 := hs.symm
      have hf : comb1 r hexF (.ok (.truth b)) = .panicked [faultV r 110] := rfl
      have hf : comb1 r hexF (.ok (.truth b)) = .panicked [faultV r 110] := hf
      rw [hf]
      clear hok hs hS0 hf
      go_enter Tryd.func69, Tryd.ntmps69
      go_wp2_with (first
        | (go_at_call 81; refine CO.out.mono ?_; rintro e w3 ⟨rfl, hb3⟩; obtain ⟨w4, hw4, hsz, FX⟩ := AX.out w3 hb3 3 bl nn S0; have FX := Lib.hid FX; obtain ⟨⟨p0, p1⟩, ⟨q0, q1, q2, q3⟩, _, _⟩ := FX.out w4 (Below.refl _ _); have cw := WN.out w4)
        | (go_at_call 41; refine cw.mono ?_; rintro e w5 ⟨rfl, hb5⟩; obtain ⟨_, _, _, hz⟩ := FX.out w5 hb5)
        | fail)
      exact ⟨rfl, rfl, hz⟩
end Go.Proofs.YtpgljmkemmikhaaDoor
