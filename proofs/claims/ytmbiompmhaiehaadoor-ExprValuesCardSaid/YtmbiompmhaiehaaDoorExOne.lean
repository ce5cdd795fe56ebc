/- The walks of the code: nodes of one kid. -/
import Derived.Test.YtmbiompmhaiehaaDoorExKid
import Derived.Test.YtmbiompmhaiehaaDoorExSum
namespace Go.Proofs.YtmbiompmhaiehaaDoor
open Go.RowKit

/-- a node over one kid -/
def comb1 (r : Nat) (f : Th → Except Nat Th) : Res → Ending
  | .error (a, e) => .panicked [faultV a e]
  | .ok t => endO r (f t)
def negF : Th → Except Nat Th | .num v => numE (-v) | _ => .error 110
def lenF : Th → Except Nat Th | .text s => .ok (.num s.length) | .bytes s => .ok (.num s.length) | _ => .error 110
def hexF : Th → Except Nat Th | .text s => hexE' s | _ => .error 110
/-- what stands behind the kid's reckoning -/
theorem after_one {w w2 w3 : World} {x r : Nat} {so : Int} {bl : Bool} {nn : Nat} {S : ByteArray} (k0 : CB w2 w.heap.size 43 #[.pointer (some ⟨x, 0, none⟩), .int .i64 (r : Nat)]) (k1 : CB w2 (w.heap.size + 1) 64 #[.int .i64 0, .bool false, .int .u64 0, .string ⟨#[]⟩]) (b2 : Below w.heap.size w w2) (hb : Below w2.heap.size w2 w3) :
    ∃ w4, w3.alloc (.cells #[.int .i64 so, .bool bl, .int .u64 (nn : Nat), .string S] 64) = w4 ∧ w.heap.size + 1 < w3.heap.size ∧ ∀ W, Below w4.heap.size w4 W → (W.cell? ⟨w.heap.size, 0, none⟩ = some (.pointer (some ⟨x, 0, none⟩)) ∧ W.cell? ⟨w.heap.size, 1, none⟩ = some (.int .i64 (r : Nat))) ∧
      (W.cell? ⟨w3.heap.size, 0, none⟩ = some (.int .i64 so) ∧ W.cell? ⟨w3.heap.size, 1, none⟩ = some (.bool bl) ∧ W.cell? ⟨w3.heap.size, 2, none⟩ = some (.int .u64 (nn : Nat)) ∧ W.cell? ⟨w3.heap.size, 3, none⟩ = some (.string S)) ∧
      CB W (w.heap.size + 1) 64 #[.int .i64 0, .bool false, .int .u64 0, .string ⟨#[]⟩] ∧ Below w.heap.size w W := by
  have hb4 : Below w3.heap.size w3 (w3.alloc (.cells #[.int .i64 so, .bool bl, .int .u64 (nn : Nat), .string S] 64)) := (Below.refl _ w3).alloc (Nat.le_refl _) _
  refine ⟨_, rfl, by have := k1.len; have := hb.size; omega, fun W hW => ?_⟩
  have a0 := ((k0.below hb).below hb4).below hW
  have a1 := ((k1.below hb).below hb4).below hW
  have a2 := (CB.new w3 64 #[.int .i64 so, .bool bl, .int .u64 (nn : Nat), .string S]).below hW
  refine ⟨⟨a0.at_ 0, a0.at_ 1⟩, ⟨a2.at_ 0, a2.at_ 1, a2.at_ 2, a2.at_ 3⟩, a1, ?_⟩
  have h3 := b2.trans (hb.mono b2.size)
  exact (h3.trans (hb4.mono h3.size)).trans (hW.mono (Nat.le_trans h3.size hb4.size))

/-- a number's block, just made -/
theorem num_block (W : World) (b : Bool) (s : Nat) : ∃ w7, W.alloc (.cells #[.bool b, .int .u64 (s : Nat)] 62) = w7 ∧ Below W.heap.size W w7 ∧ w7.cell? ⟨W.heap.size, 0, none⟩ = some (.bool b) ∧ w7.cell? ⟨W.heap.size, 1, none⟩ = some (.int .u64 (s : Nat)) :=
  ⟨_, rfl, (Below.refl _ W).alloc (Nat.le_refl _) _, (CB.new W 62 #[.bool b, .int .u64 (s : Nat)]).at_ 0, (CB.new W 62 #[.bool b, .int .u64 (s : Nat)]).at_ 1⟩
set_option maxRecDepth 100000 in
set_option maxHeartbeats 4000000 in
theorem negative_any {w : World} {x f d : Nat} {A : Option Addr} {c : Nat} {N : List Rn} {F D : List Nat} {r : Nat} {P : List Pe} (IH : ∀ r', r' < r → RecC x f d A c N F D r') (hE : Ex w x f d A c N F D) (hP : pileP N r = some P) (hk : 1 ≤ P.length) (hF : F[r]? = some (bottom r (P.take 1))) (hr : r < N.length) :
    Calls Tryd.prog 47 #[.agg #[.pointer (some ⟨x, 0, none⟩), .int .i64 (r : Nat)]] w fun e w' => e = comb1 r negF (resAt N P[0].r) ∧ Below w.heap.size w w' := by
  obtain ⟨w2, hw2, b2, s2, k0, k1⟩ := sub_mean w x r
  have c0 : w2.cell? ⟨w.heap.size, 0, none⟩ = some (.pointer (some ⟨x, 0, none⟩)) := k0.at_ 0
  have c1 : w2.cell? ⟨w.heap.size, 1, none⟩ = some (.int .i64 (r : Nat)) := k0.at_ 1
  have co := one_any IH (hE.below b2) hP hk hF hr
  have hok : ∀ t, resAt N P[0].r = .ok t → t.Ok := fun t ht => res_ok (fun y hy => (hE.num y hy).1) ht
  obtain ⟨z, hz⟩ : ∃ z, resAt N P[0].r = z := ⟨_, rfl⟩
  rw [hz] at co hok
  rw [hz]
  clear hz IH hE hP hF hr
  cases z with
  | error z =>
    obtain ⟨za, ze⟩ := z
    have he : endR (.error (za, ze)) = .panicked [faultV za ze] := rfl
    rw [he] at co
    have CO := Lib.hid co
    have K := Lib.hid (And.intro k0 k1)
    clear k0 k1 hok co he
    show Calls _ _ _ _ fun e w' => e = .panicked [faultV za ze] ∧ _
    go_enter Tryd.func47, Tryd.ntmps47
    go_wp2_with (go_at_call 69; refine CO.out.mono ?_; rintro e w3 ⟨rfl, hb3⟩)
    exact ⟨rfl, rfl, b2.trans (hb3.mono b2.size)⟩
  | ok t =>
    have hok := hok t rfl
    have AX : Hid (∀ w3, Below w2.heap.size w2 w3 → ∀ (so : Int) bl (nn : Nat) S, ∃ w4, w3.alloc (.cells #[.int .i64 so, .bool bl, .int .u64 (nn : Nat), .string S] 64) = w4 ∧ w.heap.size + 1 < w3.heap.size ∧ ∀ W, Below w4.heap.size w4 W → (W.cell? ⟨w.heap.size, 0, none⟩ = some (.pointer (some ⟨x, 0, none⟩)) ∧ W.cell? ⟨w.heap.size, 1, none⟩ = some (.int .i64 (r : Nat))) ∧
      (W.cell? ⟨w3.heap.size, 0, none⟩ = some (.int .i64 so) ∧ W.cell? ⟨w3.heap.size, 1, none⟩ = some (.bool bl) ∧ W.cell? ⟨w3.heap.size, 2, none⟩ = some (.int .u64 (nn : Nat)) ∧ W.cell? ⟨w3.heap.size, 3, none⟩ = some (.string S)) ∧
      CB W (w.heap.size + 1) 64 #[.int .i64 0, .bool false, .int .u64 0, .string ⟨#[]⟩] ∧ Below w.heap.size w W) := fun w3 hb so bl nn S => after_one k0 k1 b2 hb
    by_cases hn : ∃ v, t = .num v
    · obtain ⟨v, rfl⟩ := hn
      obtain ⟨bl, hbl⟩ : ∃ bl, decide (v < 0) = bl := ⟨_, rfl⟩
      obtain ⟨nn, hnn⟩ : ∃ nn, v.natAbs = nn := ⟨_, rfl⟩
      obtain ⟨S0, hS0⟩ : ∃ S0 : ByteArray, ⟨#[]⟩ = S0 := ⟨_, rfl⟩
      have he : endR (.ok (.num v)) = .returned (.agg #[.int .i64 1, .bool bl, .int .u64 (nn : Nat), .string S0]) := by rw [← hbl, ← hnn, ← hS0]; rfl
      rw [he] at co
      have hv : v.natAbs < 18446744073709551616 := by have h1 := hok.1; have h2 := hok.2; omega
      have OP : Hid (∀ W, Calls Tryd.prog 70 #[.agg #[.bool bl, .int .u64 (nn : Nat)]] W fun e w' => ∃ (b : Bool) (s : Nat), e = .returned (.tuple #[.agg #[.bool b, .int .u64 (s : Nat)], .bool (inR (-v))]) ∧ Hid (Below W.heap.size W w' ∧ (inR (-v) = true → b = decide (-v < 0) ∧ s = (-v).natAbs))) := fun W => by
        have := opposite_any W v hv
        unfold numC at this
        rw [hbl, hnn] at this
        refine this.mono ?_
        rintro e w' ⟨b, s, he, h1, h2, _⟩
        exact ⟨b, s, he, h1, h2⟩
      have NX : Hid (∀ W b s, (inR (-v) = true → b = decide (-v < 0) ∧ s = (-v).natAbs) → Calls Tryd.prog 71 #[.agg #[.pointer (some ⟨x, 0, none⟩), .int .i64 (r : Nat)], .agg #[.bool b, .int .u64 (s : Nat)], .bool (inR (-v))] W fun q w' => q = endO r (numE (-v)) ∧ Below W.heap.size W w') := fun W b s h => numberOf_any W x r (-v) b s h
      have WX : Hid (∀ W, Calls Tryd.prog 27 #[.agg #[.pointer (some ⟨x, 0, none⟩), .int .i64 (r : Nat)], .bool true] W fun q w' => q = .returned (.tuple #[]) ∧ Below W.heap.size W w') := fun W => want_yes W x r
      have CO := Lib.hid co
      show Calls _ _ _ _ fun e w' => e = endO r (numE (-v)) ∧ _
      obtain ⟨u, hu⟩ : ∃ u, -v = u := ⟨_, rfl⟩
      rw [hu] at OP NX
      rw [hu]
      clear k0 k1 hok he hv hbl hnn co hu hS0
      cases hi : inR u with
      | true =>
        obtain ⟨so2, bl2, nn2, S2, hth⟩ := thC_four (.num u)
        have he : endO r (numE u) = .returned (.agg #[.int .i64 so2, .bool bl2, .int .u64 (nn2 : Nat), .string S2]) := by rw [← hth, numE_eq, if_pos hi]; rfl
        rw [he, hi] at NX
        rw [hi] at OP
        rw [he]
        clear he hth hi
        go_enter Tryd.func47, Tryd.ntmps47
        go_wp2_with (first
          | (go_at_call 69; refine CO.out.mono ?_; rintro e w3 ⟨rfl, hb3⟩; obtain ⟨w4, hw4, hsz, FX⟩ := AX.out w3 hb3 1 bl nn S0; have FX := Lib.hid FX; obtain ⟨⟨p0, p1⟩, ⟨q0, q1, q2, q3⟩, _, _⟩ := FX.out w4 (Below.refl _ _); have cw := WX.out w4)
          | (go_at_call 27; refine cw.mono ?_; rintro e w5 ⟨rfl, hb5⟩; clear p0 p1 q0 q1 q2 q3; obtain ⟨⟨p0, p1⟩, ⟨q0, q1, q2, q3⟩, _, _⟩ := FX.out w5 hb5; have cp := OP.out w5)
          | (go_at_call 70; refine cp.mono ?_; rintro e w6 ⟨b, s, rfl, H6⟩; clear p0 p1 q0 q1 q2 q3; obtain ⟨w7, hw7, hb7, n0, n1⟩ := num_block w6 b s; have h7 : Below w4.heap.size w4 w7 := Below.both hb5 (Below.both H6.out.1 hb7); obtain ⟨⟨p0, p1⟩, _, _, _⟩ := FX.out w7 h7; have cn := NX.out w7 b s H6.out.2)
          | (go_at_call 71; refine cn.mono ?_; rintro e w8 ⟨rfl, hb8⟩; obtain ⟨_, _, h9, hz⟩ := FX.out w8 (Below.both h7 hb8))
          | (refine wpList_store_cb rfl 64 (.tmp 2) (.tmp 22) rfl (w.heap.size + 1) _ #[.int .i64 so2, .bool bl2, .int .u64 (nn2 : Nat), .string S2] rfl rfl h9 rfl (by kernel_rfl) (by kernel_rfl) ?_; intro w9 k9 t9)
          | fail)
        exact bodyPost_ret (results_cb rfl _ _ _ _ rfl k9 Tryd.underlying64 rfl (by kernel_rfl)) rfl ⟨rfl, hz.trans (t9.below (by omega))⟩
      | false =>
        have he : endO r (numE u) = .panicked [faultV r 111] := by rw [numE_eq, hi]; rfl
        rw [he, hi] at NX
        rw [hi] at OP
        rw [he]
        clear he hi
        go_enter Tryd.func47, Tryd.ntmps47
        go_wp2_with (first
          | (go_at_call 69; refine CO.out.mono ?_; rintro e w3 ⟨rfl, hb3⟩; obtain ⟨w4, hw4, hsz, FX⟩ := AX.out w3 hb3 1 bl nn S0; have FX := Lib.hid FX; obtain ⟨⟨p0, p1⟩, ⟨q0, q1, q2, q3⟩, _, _⟩ := FX.out w4 (Below.refl _ _); have cw := WX.out w4)
          | (go_at_call 27; refine cw.mono ?_; rintro e w5 ⟨rfl, hb5⟩; clear p0 p1 q0 q1 q2 q3; obtain ⟨⟨p0, p1⟩, ⟨q0, q1, q2, q3⟩, _, _⟩ := FX.out w5 hb5; have cp := OP.out w5)
          | (go_at_call 70; refine cp.mono ?_; rintro e w6 ⟨b, s, rfl, H6⟩; clear p0 p1 q0 q1 q2 q3; obtain ⟨w7, hw7, hb7, n0, n1⟩ := num_block w6 b s; have h7 : Below w4.heap.size w4 w7 := Below.both hb5 (Below.both H6.out.1 hb7); obtain ⟨⟨p0, p1⟩, _, _, _⟩ := FX.out w7 h7; have cn := NX.out w7 b s H6.out.2)
          | (go_at_call 71; refine cn.mono ?_; rintro e w8 ⟨rfl, hb8⟩; obtain ⟨_, _, h9, hz⟩ := FX.out w8 (Below.both h7 hb8))
          | fail)
        exact ⟨rfl, rfl, hz⟩
    · have hf : comb1 r negF (.ok t) = .panicked [faultV r 110] := by
        cases t with
        | num v => exact absurd ⟨v, rfl⟩ hn
        | text s => rfl
        | truth b => rfl
        | bytes s => rfl
      have hso : t.sort ≠ 1 := by
        cases t with
        | num v => exact absurd ⟨v, rfl⟩ hn
        | text s => exact (by decide : (2 : Int) ≠ 1)
        | truth b => exact (by decide : (3 : Int) ≠ 1)
        | bytes s => exact (by decide : (4 : Int) ≠ 1)
      obtain ⟨so, hs⟩ : ∃ so, t.sort = so := ⟨_, rfl⟩
      obtain ⟨bl, hbl⟩ : ∃ bl, decide (t.n < 0) = bl := ⟨_, rfl⟩
      obtain ⟨nn, hnn⟩ : ∃ nn, t.n.natAbs = nn := ⟨_, rfl⟩
      obtain ⟨S0, hS0⟩ : ∃ S0, str t.s = S0 := ⟨_, rfl⟩
      have he : endR (.ok t) = .returned (.agg #[.int .i64 so, .bool bl, .int .u64 (nn : Nat), .string S0]) := by rw [← hs, ← hbl, ← hnn, ← hS0]; rfl
      rw [he] at co
      rw [hs] at hso
      have hsz : (so == 1) = false := beq_eq_false_iff_ne.2 hso
      have CO := Lib.hid co
      have WX : Hid (∀ W, Calls Tryd.prog 27 #[.agg #[.pointer (some ⟨x, 0, none⟩), .int .i64 (r : Nat)], .bool false] W fun q w' => q = .panicked [faultV r 110] ∧ Below W.heap.size W w') := fun W => want_no W x r
      rw [hf]
      clear k0 k1 hok he co hf hso hn hs hbl hnn hS0
      go_enter Tryd.func47, Tryd.ntmps47
      go_wp2_with (first
        | (go_at_call 69; refine CO.out.mono ?_; rintro e w3 ⟨rfl, hb3⟩; obtain ⟨w4, hw4, hsz, FX⟩ := AX.out w3 hb3 so bl nn S0; have FX := Lib.hid FX; obtain ⟨⟨p0, p1⟩, ⟨q0, q1, q2, q3⟩, _, _⟩ := FX.out w4 (Below.refl _ _); have cw := WX.out w4)
        | (go_at_call 27; refine cw.mono ?_; rintro e w5 ⟨rfl, hb5⟩; obtain ⟨_, _, _, hz⟩ := FX.out w5 hb5)
        | fail)
      exact ⟨rfl, rfl, hz⟩
end Go.Proofs.YtmbiompmhaiehaaDoor
