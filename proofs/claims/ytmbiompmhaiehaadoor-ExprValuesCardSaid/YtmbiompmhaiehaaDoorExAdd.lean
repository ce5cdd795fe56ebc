/- The walk of the code: a sum of two numbers or of two texts. -/
import Derived.Test.YtmbiompmhaiehaaDoorExTwo
import Derived.Test.YtmbiompmhaiehaaDoorExSum
import Derived.Test.YtmbiompmhaiehaaDoorExGp
import Derived.Deep.RegionHeld3
import Derived.RegionDies
namespace Go.Proofs.YtmbiompmhaiehaaDoor
open Go.RowKit

def addF : Th → Th → Except Nat Th
  | .text s, .text t => textE (s ++ t)
  | a, b => arF (· + ·) a b
theorem addF_no {a b : Th} (h : ¬ (a.sort = 2 ∧ b.sort = 2)) : addF a b = arF (· + ·) a b := by
  cases a <;> cases b <;> first | rfl | (exact absurd ⟨rfl, rfl⟩ h)
theorem sum_do (W : World) (v u : Int) (hv : v.natAbs < 18446744073709551616) (hu : u.natAbs < 18446744073709551616) : Calls Tryd.prog 73 #[.agg (numC v), .agg (numC u)] W (NumAt (v + u) W) := by
  have := sum_any W (decide (v < 0)) (decide (u < 0)) v.natAbs u.natAbs hv hu
  rw [sg_numC, sg_numC] at this
  exact this
set_option maxRecDepth 100000 in
set_option maxHeartbeats 8000000 in
theorem add_any {w : World} {x f d : Nat} {A : Option Addr} {c : Nat} {N : List Rn} {F D : List Nat} {r : Nat} {P : List Pe} (IH : ∀ r', r' < r → RecC x f d A c N F D r') (hE : Ex w x f d A c N F D) (hP : pileP N r = some P) (hk : 2 ≤ P.length) (hF : F[r]? = some (bottom r (P.take 2))) (hr : r < N.length) :
    Calls Tryd.prog 48 #[.agg #[.pointer (some ⟨x, 0, none⟩), .int .i64 (r : Nat)]] w fun e w' => e = comb2 r addF (resAt N P[1].r) (resAt N P[0].r) ∧ Below w.heap.size w w' := by
  obtain ⟨w2, hw2, b2, s2, k0, k1⟩ := sub_mean w x r
  have c0 : w2.cell? ⟨w.heap.size, 0, none⟩ = some (.pointer (some ⟨x, 0, none⟩)) := k0.at_ 0
  have c1 : w2.cell? ⟨w.heap.size, 1, none⟩ = some (.int .i64 (r : Nat)) := k0.at_ 1
  have co := two_any IH (hE.below b2) hP hk hF hr
  have hok : ∀ j t, resAt N j = .ok t → t.Ok := fun j t ht => res_ok (fun y hy => (hE.num y hy).1) ht
  have hokA := hok P[1].r
  have hokB := hok P[0].r
  obtain ⟨z1, hz1⟩ : ∃ z, resAt N P[1].r = z := ⟨_, rfl⟩
  obtain ⟨z2, hz2⟩ : ∃ z, resAt N P[0].r = z := ⟨_, rfl⟩
  rw [hz1, hz2] at co
  rw [hz1] at hokA
  rw [hz2] at hokB
  rw [hz1, hz2]
  clear hz1 hz2 IH hE hP hF hr hok
  -- a kid's fault
  have FLT : ∀ za ze, endTwo z1 z2 = .panicked [faultV za ze] → comb2 r addF z1 z2 = .panicked [faultV za ze] → Calls Tryd.prog 48 #[.agg #[.pointer (some ⟨x, 0, none⟩), .int .i64 (r : Nat)]] w fun e w' => e = comb2 r addF z1 z2 ∧ Below w.heap.size w w' := by
    intro za ze h1 h2
    rw [h1] at co
    rw [h2]
    have CO := Lib.hid co
    clear co k0 k1 hokA hokB h1 h2
    go_enter Tryd.func48, Tryd.ntmps48
    go_wp2_with (go_at_call 49; refine CO.out.mono ?_; rintro e w3 ⟨rfl, hb3⟩)
    exact ⟨rfl, rfl, b2.trans (hb3.mono b2.size)⟩
  cases z1 with
  | error z => exact FLT z.1 z.2 rfl rfl
  | ok a =>
  cases z2 with
  | error z => exact FLT z.1 z.2 rfl rfl
  | ok b =>
  clear FLT
  have hokA := hokA a rfl
  have hokB := hokB b rfl
  show Calls _ _ _ _ fun e w' => e = endO r (addF a b) ∧ _
  have AX : Hid (∀ w3, Below w2.heap.size w2 w3 → ∀ (so1 so2 : Int) bl1 bl2 (nn1 nn2 : Nat) S1 S2, ∃ w5, (w3.alloc (.cells #[.int .i64 so1, .bool bl1, .int .u64 (nn1 : Nat), .string S1] 64)).alloc (.cells #[.int .i64 so2, .bool bl2, .int .u64 (nn2 : Nat), .string S2] 64) = w5 ∧ ∀ W, Below w5.heap.size w5 W → (W.cell? ⟨w.heap.size, 0, none⟩ = some (.pointer (some ⟨x, 0, none⟩)) ∧ W.cell? ⟨w.heap.size, 1, none⟩ = some (.int .i64 (r : Nat))) ∧
      (W.cell? ⟨w3.heap.size, 0, none⟩ = some (.int .i64 so1) ∧ W.cell? ⟨w3.heap.size, 1, none⟩ = some (.bool bl1) ∧ W.cell? ⟨w3.heap.size, 2, none⟩ = some (.int .u64 (nn1 : Nat)) ∧ W.cell? ⟨w3.heap.size, 3, none⟩ = some (.string S1)) ∧
      (W.cell? ⟨w3.heap.size + 1, 0, none⟩ = some (.int .i64 so2) ∧ W.cell? ⟨w3.heap.size + 1, 1, none⟩ = some (.bool bl2) ∧ W.cell? ⟨w3.heap.size + 1, 2, none⟩ = some (.int .u64 (nn2 : Nat)) ∧ W.cell? ⟨w3.heap.size + 1, 3, none⟩ = some (.string S2)) ∧
      CB W (w.heap.size + 1) 64 #[.int .i64 0, .bool false, .int .u64 0, .string ⟨#[]⟩] ∧ Below w.heap.size w W ∧ w.heap.size + 1 < w3.heap.size) := fun w3 hb so1 so2 bl1 bl2 nn1 nn2 S1 S2 => after_two k0 k1 b2 hb
  obtain ⟨so1, hs1⟩ : ∃ so, a.sort = so := ⟨_, rfl⟩
  obtain ⟨bl1, hbl1⟩ : ∃ bl, decide (a.n < 0) = bl := ⟨_, rfl⟩
  obtain ⟨nn1, hnn1⟩ : ∃ nn, a.n.natAbs = nn := ⟨_, rfl⟩
  obtain ⟨S1, hS1⟩ : ∃ S, str a.s = S := ⟨_, rfl⟩
  obtain ⟨so2, hs2⟩ : ∃ so, b.sort = so := ⟨_, rfl⟩
  obtain ⟨bl2, hbl2⟩ : ∃ bl, decide (b.n < 0) = bl := ⟨_, rfl⟩
  obtain ⟨nn2, hnn2⟩ : ∃ nn, b.n.natAbs = nn := ⟨_, rfl⟩
  obtain ⟨S2, hS2⟩ : ∃ S, str b.s = S := ⟨_, rfl⟩
  have e1 : thC a = #[.int .i64 so1, .bool bl1, .int .u64 (nn1 : Nat), .string S1] := by rw [← hs1, ← hbl1, ← hnn1, ← hS1]; rfl
  have e2 : thC b = #[.int .i64 so2, .bool bl2, .int .u64 (nn2 : Nat), .string S2] := by rw [← hs2, ← hbl2, ← hnn2, ← hS2]; rfl
  have he : endTwo (.ok a) (.ok b) = .returned (.tuple #[.agg #[.int .i64 so1, .bool bl1, .int .u64 (nn1 : Nat), .string S1], .agg #[.int .i64 so2, .bool bl2, .int .u64 (nn2 : Nat), .string S2]]) := by rw [← e1, ← e2]; rfl
  rw [he] at co
  have CO := Lib.hid co
  clear co he k0 k1
  by_cases hT : so1 = 2 ∧ so2 = 2
  · obtain ⟨rfl, rfl⟩ := hT
    have hab : ∃ s1 s2, a = .text s1 ∧ b = .text s2 := by
      cases a <;> cases b <;> first | exact ⟨_, _, rfl, rfl⟩ | (simp [Th.sort] at hs1; done) | (simp [Th.sort] at hs2; done)
    obtain ⟨s1, s2, rfl, rfl⟩ := hab
    have hl1 : s1.length ≤ 4096 := hokA
    have hl2 : s2.length ≤ 4096 := hokB
    have hz1 : S1.size = s1.length := by rw [← hS1]; exact str_size _
    have hz2 : S2.size = s2.length := by rw [← hS2]; exact str_size _
    obtain ⟨J, hJ⟩ : ∃ J, str (s1 ++ s2) = J := ⟨_, rfl⟩
    have hJ2 : S1 ++ ⟨#[]⟩ ++ S2 = J := by
      rw [← hJ, ← hS1, ← hS2]
      apply ls_inj
      rw [ls_append, ls_append, ls_str]
      show ls (str s1) ++ [] ++ ls (str s2) = _
      rw [ls_str, ls_str, List.append_nil]
      rfl
    have JX : Hid (∀ W, Calls Tryd.prog 72 #[.string S1, .string ⟨#[]⟩, .string S2] W fun e w' => e = .returned (.string J) ∧ Below W.heap.size W w') := fun W => by
      have := join_any (w := W) S1 ⟨#[]⟩ S2 (by rw [hz1, hz2]; show s1.length + 0 + s2.length ≤ _; omega)
      rw [hJ2] at this
      exact this
    have TX : Hid (∀ W, Calls Tryd.prog 46 #[.agg #[.pointer (some ⟨x, 0, none⟩), .int .i64 (r : Nat)], .string J] W fun e w' => e = endO r (textE (s1 ++ s2)) ∧ Below W.heap.size W w') := fun W => by
      rw [← hJ]
      exact textOf_any W x r (s1 ++ s2) (by rw [List.length_append]; omega)
    show Calls _ _ _ _ fun e w' => e = endO r (textE (s1 ++ s2)) ∧ _
    obtain ⟨R, hR⟩ : ∃ R, textE (s1 ++ s2) = R := ⟨_, rfl⟩
    rw [hR] at TX
    rw [hR]
    clear hs1 hs2 hbl1 hbl2 hnn1 hnn2 hS1 hS2 e1 e2 hokA hokB hR hJ hJ2 hl1 hl2 hz1 hz2
    cases R with
    | error ze =>
      have he : endO r (.error ze) = .panicked [faultV r ze] := rfl
      rw [he] at TX
      rw [he]
      clear he
      go_enter Tryd.func48, Tryd.ntmps48
      go_wp2_with (first
        | (go_at_call 49; refine CO.out.mono ?_; rintro e w3 ⟨rfl, hb3⟩; obtain ⟨w5, hw5, FX⟩ := AX.out w3 hb3 2 2 bl1 bl2 nn1 nn2 S1 S2; have FX := Lib.hid FX; obtain ⟨⟨p0, p1⟩, ⟨q0, q1, q2, q3⟩, ⟨r0, r1, r2, r3⟩, _, _, _⟩ := FX.out w5 (Below.refl _ _))
        | fail)
      have hB : Below w5.heap.size w5 w5.drew := Below.thenN (Below.refl _ _) 1
      have SX : Hid (∀ W, Below w5.heap.size w5 W → W.cell? ⟨w.heap.size, 0, none⟩ = some (.pointer (some ⟨x, 0, none⟩)) ∧ W.cell? ⟨w.heap.size, 1, none⟩ = some (.int .i64 (r : Nat)) ∧ W.cell? ⟨w3.heap.size, 3, none⟩ = some (.string S1) ∧ W.cell? ⟨w3.heap.size + 1, 3, none⟩ = some (.string S2)) := fun W hW => by
        obtain ⟨⟨a0, a1⟩, ⟨_, _, _, a2⟩, ⟨_, _, _, a3⟩, _⟩ := FX.out W hW
        exact ⟨a0, a1, a2, a3⟩
      obtain ⟨a0, a1, a2, a3⟩ := SX.out _ hB
      go_region_dies
      all_goals
        refine (JX.out _).mono ?_
        rintro e w6 ⟨rfl, hb6⟩
        rename_i K hK
        have hB6 : Below w5.heap.size w5 w6 := Below.both hB hb6
        obtain ⟨l0, l1, l2, l3⟩ := SX.out _ hB6
        refine hK _ _ ?_
        clear hK K
        try
          refine wpAny_ready (rs := [0]) (by decide +kernel) (by simp) ?_
          refine AllReady.cons rfl (fun K2 hK2 => ?_) AllReady.nil
          go_simp
          refine hK2 _ _ ?_
          clear hK2 K2
        refine wpAny_ready (rs := [6]) (by decide +kernel) (by simp) ?_
        refine AllReady.cons rfl (fun K2 hK2 => ?_) AllReady.nil
        go_simp
        refine (TX.out _).mono ?_
        rintro e w7 ⟨rfl, hb7⟩
        obtain ⟨_, _, _, _, hz, _⟩ := FX.out _ (Below.both hB6 hb7)
        exact ⟨rfl, rfl, hz⟩
    | ok t =>
      obtain ⟨so9, bl9, nn9, S9, hth⟩ := thC_four t
      have he : endO r (.ok t) = .returned (.agg #[.int .i64 so9, .bool bl9, .int .u64 (nn9 : Nat), .string S9]) := by rw [← hth]; rfl
      rw [he] at TX
      rw [he]
      clear he hth
      go_enter Tryd.func48, Tryd.ntmps48
      go_wp2_with (first
        | (go_at_call 49; refine CO.out.mono ?_; rintro e w3 ⟨rfl, hb3⟩; obtain ⟨w5, hw5, FX⟩ := AX.out w3 hb3 2 2 bl1 bl2 nn1 nn2 S1 S2; have FX := Lib.hid FX; obtain ⟨⟨p0, p1⟩, ⟨q0, q1, q2, q3⟩, ⟨r0, r1, r2, r3⟩, _, _, _⟩ := FX.out w5 (Below.refl _ _))
        | fail)
      have hB : Below w5.heap.size w5 w5.drew := Below.thenN (Below.refl _ _) 1
      have SX : Hid (∀ W, Below w5.heap.size w5 W → W.cell? ⟨w.heap.size, 0, none⟩ = some (.pointer (some ⟨x, 0, none⟩)) ∧ W.cell? ⟨w.heap.size, 1, none⟩ = some (.int .i64 (r : Nat)) ∧ W.cell? ⟨w3.heap.size, 3, none⟩ = some (.string S1) ∧ W.cell? ⟨w3.heap.size + 1, 3, none⟩ = some (.string S2)) := fun W hW => by
        obtain ⟨⟨a0, a1⟩, ⟨_, _, _, a2⟩, ⟨_, _, _, a3⟩, _⟩ := FX.out W hW
        exact ⟨a0, a1, a2, a3⟩
      have KX : Hid (∀ W, Below w5.heap.size w5 W → (W.cell? ⟨w.heap.size + 1, 0, none⟩ = some (.int .i64 0) ∧ W.cell? ⟨w.heap.size + 1, 1, none⟩ = some (.bool false) ∧ W.cell? ⟨w.heap.size + 1, 2, none⟩ = some (.int .u64 0) ∧ W.cell? ⟨w.heap.size + 1, 3, none⟩ = some (.string ⟨#[]⟩)) ∧ (W.frozen? ⟨w.heap.size + 1, 0, none⟩ = false ∧ W.frozen? ⟨w.heap.size + 1, 1, none⟩ = false ∧ W.frozen? ⟨w.heap.size + 1, 2, none⟩ = false ∧ W.frozen? ⟨w.heap.size + 1, 3, none⟩ = false) ∧
          Hid (CB (set4 W (w.heap.size + 1) (.int .i64 so9) (.bool bl9) (.int .u64 (nn9 : Nat)) (.string S9)) (w.heap.size + 1) 64 #[.int .i64 so9, .bool bl9, .int .u64 (nn9 : Nat), .string S9] ∧ Below w.heap.size w (set4 W (w.heap.size + 1) (.int .i64 so9) (.bool bl9) (.int .u64 (nn9 : Nat)) (.string S9)))) := fun W hW => by
        obtain ⟨_, _, _, h9, hz, _⟩ := FX.out W hW
        refine ⟨⟨h9.at_ 0, h9.at_ 1, h9.at_ 2, h9.at_ 3⟩, ⟨h9.frozen 0, h9.frozen 1, h9.frozen 2, h9.frozen 3⟩, ?_⟩
        have q := set4_eq W (w.heap.size + 1) (.int .i64 so9) (.bool bl9) (.int .u64 (nn9 : Nat)) (.string S9)
        have k9 := h9.store (cs := #[.int .i64 so9, .bool bl9, .int .u64 (nn9 : Nat), .string S9]) rfl
        have t9 : Turned (w.heap.size + 1) W (W.setCells (w.heap.size + 1) 0 (#[.int .i64 so9, .bool bl9, .int .u64 (nn9 : Nat), .string S9] : Array Value).toList) := Turned.setCells _ _ _ (Turned.refl _ W)
        rw [q] at k9 t9
        exact ⟨k9, hz.trans (t9.below (by omega))⟩
      obtain ⟨a0, a1, a2, a3⟩ := SX.out _ hB
      go_region_with (first
          | (go_at_call 72; (with_reducible refine (JX.out _).mono ?_); rintro e w6 ⟨rfl, hb6⟩; have hB6 : Below w5.heap.size w5 w6 := Below.both hB hb6; obtain ⟨l0, l1, l2, l3⟩ := SX.out _ hB6)
          | (go_at_call 46; (with_reducible refine (TX.out _).mono ?_); rintro e w7 ⟨rfl, hb7⟩; have hB7 : Below w5.heap.size w5 w7 := Below.both hB6 hb7; obtain ⟨⟨m0, m1, m2, m3⟩, ⟨f0, f1, f2, f3⟩, H7⟩ := KX.out _ hB7)
          | fail)
      all_goals
        go_wp2
        exact bodyPost_ret (results_cb rfl _ _ _ _ rfl H7.out.1 Tryd.underlying64 rfl (by kernel_rfl)) rfl ⟨rfl, H7.out.2⟩
  · have hf := addF_no (a := a) (b := b) (by rw [hs1, hs2]; exact hT)
    rw [hf]
    have CA : Hid (∀ W, Calls Tryd.prog 50 #[.agg #[.pointer (some ⟨x, 0, none⟩), .int .i64 (r : Nat)], .agg #[.int .i64 so1, .bool bl1, .int .u64 (nn1 : Nat), .string S1], .agg #[.int .i64 so2, .bool bl2, .int .u64 (nn2 : Nat), .string S2], .func (.func 73) #[] #[]] W fun e w' => e = endO r (arF (· + ·) a b) ∧ Below W.heap.size W w') := fun W => by
      have := arith_any W x r 73 (· + ·) (enters_of Tryd.func73 (by kernel_rfl) rfl) sum_do a b hokA hokB
      rw [e1, e2] at this
      exact this
    obtain ⟨R, hR⟩ : ∃ R, arF (· + ·) a b = R := ⟨_, rfl⟩
    rw [hR] at CA
    rw [hR]
    have hg : (so1 == 2) = false ∨ ((so1 == 2) = true ∧ (so2 == 2) = false) := by
      by_cases h1 : so1 = 2
      · exact .inr ⟨by rw [h1]; rfl, beq_eq_false_iff_ne.2 fun h2 => hT ⟨h1, h2⟩⟩
      · exact .inl (beq_eq_false_iff_ne.2 h1)
    clear hT hs1 hs2 hbl1 hbl2 hnn1 hnn2 hS1 hS2 e1 e2 hokA hokB hf hR
    cases R with
    | error ze =>
      have he : endO r (.error ze) = .panicked [faultV r ze] := rfl
      rw [he] at CA
      rw [he]
      clear he
      rcases hg with hg | ⟨hg, hh⟩
      all_goals
        go_enter Tryd.func48, Tryd.ntmps48
        go_wp2_with (first
          | (go_at_call 49; refine CO.out.mono ?_; rintro e w3 ⟨rfl, hb3⟩; obtain ⟨w5, hw5, FX⟩ := AX.out w3 hb3 so1 so2 bl1 bl2 nn1 nn2 S1 S2; have FX := Lib.hid FX; obtain ⟨⟨p0, p1⟩, ⟨q0, q1, q2, q3⟩, ⟨r0, r1, r2, r3⟩, _, _, _⟩ := FX.out w5 (Below.refl _ _))
          | (go_at_call 50; refine (CA.out w5).mono ?_; rintro e w6 ⟨rfl, hb6⟩; obtain ⟨_, _, _, _, hz, _⟩ := FX.out w6 hb6)
          | fail)
        exact ⟨rfl, rfl, hz⟩
    | ok t =>
      obtain ⟨so9, bl9, nn9, S9, hth⟩ := thC_four t
      have he : endO r (.ok t) = .returned (.agg #[.int .i64 so9, .bool bl9, .int .u64 (nn9 : Nat), .string S9]) := by rw [← hth]; rfl
      rw [he] at CA
      rw [he]
      clear he hth
      rcases hg with hg | ⟨hg, hh⟩
      all_goals
        go_enter Tryd.func48, Tryd.ntmps48
        go_wp2_with (first
          | (go_at_call 49; refine CO.out.mono ?_; rintro e w3 ⟨rfl, hb3⟩; obtain ⟨w5, hw5, FX⟩ := AX.out w3 hb3 so1 so2 bl1 bl2 nn1 nn2 S1 S2; have FX := Lib.hid FX; obtain ⟨⟨p0, p1⟩, ⟨q0, q1, q2, q3⟩, ⟨r0, r1, r2, r3⟩, _, _, _⟩ := FX.out w5 (Below.refl _ _))
          | (go_at_call 50; refine (CA.out w5).mono ?_; rintro e w6 ⟨rfl, hb6⟩; obtain ⟨_, _, _, h9, hz, hsz⟩ := FX.out w6 hb6)
          | (refine wpList_store_cb rfl 64 (.tmp 2) (.tmp 28) rfl (w.heap.size + 1) _ #[.int .i64 so9, .bool bl9, .int .u64 (nn9 : Nat), .string S9] rfl rfl h9 rfl (by kernel_rfl) (by kernel_rfl) ?_; intro w9 k9 t9)
          | fail)
        exact bodyPost_ret (results_cb rfl _ _ _ _ rfl k9 Tryd.underlying64 rfl (by kernel_rfl)) rfl ⟨rfl, hz.trans (t9.below (by omega))⟩
end Go.Proofs.YtmbiompmhaiehaaDoor
