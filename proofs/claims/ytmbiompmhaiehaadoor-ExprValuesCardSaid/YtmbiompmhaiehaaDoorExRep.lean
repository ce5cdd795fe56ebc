/- The walk of the code: a text so many times. -/
import Derived.Test.YtmbiompmhaiehaaDoorExTwo
import Derived.Test.YtmbiompmhaiehaaDoorExGp
namespace Go.Proofs.YtmbiompmhaiehaaDoor
open Go.RowKit

def repF : Th → Th → Except Nat Th
  | .text s, .num v => repE' s v
  | _, _ => .error 110
theorem timesL_rp (s : List UInt8) (n : Nat) : rpL (str s) n = timesL s n := by
  unfold rpL catL timesL
  rw [List.map_replicate, ls_str]
set_option maxRecDepth 100000 in
set_option maxHeartbeats 8000000 in
theorem rep_node {w : World} {x f d : Nat} {A : Option Addr} {c : Nat} {N : List Rn} {F D : List Nat} {r : Nat} {P : List Pe} (IH : ∀ r', r' < r → RecC x f d A c N F D r') (hE : Ex w x f d A c N F D) (hP : pileP N r = some P) (hk : 2 ≤ P.length) (hF : F[r]? = some (bottom r (P.take 2))) (hr : r < N.length) :
    Calls Tryd.prog 54 #[.agg #[.pointer (some ⟨x, 0, none⟩), .int .i64 (r : Nat)]] w fun e w' => e = comb2 r repF (resAt N P[1].r) (resAt N P[0].r) ∧ Below w.heap.size w w' := by
  obtain ⟨w2, hw2, b2, s2, k0, k1⟩ := sub_mean w x r
  have c0 : w2.cell? ⟨w.heap.size, 0, none⟩ = some (.pointer (some ⟨x, 0, none⟩)) := k0.at_ 0
  have c1 : w2.cell? ⟨w.heap.size, 1, none⟩ = some (.int .i64 (r : Nat)) := k0.at_ 1
  have co := two_any IH (hE.below b2) hP hk hF hr
  have hok : ∀ j t, resAt N j = .ok t → t.Ok := fun j t ht => res_ok (fun y hy => (hE.num y hy).1) ht
  have hokA := hok P[1].r
  have hokB := hok P[0].r
  obtain ⟨z1, hz1⟩ : ∃ z, resAt N P[1].r = z := ⟨_, rfl⟩
  obtain ⟨z2, hz2⟩ : ∃ z, resAt N P[0].r = z := ⟨_, rfl⟩
  rw [hz1, hz2] at co
  rw [hz1] at hokA
  rw [hz2] at hokB
  rw [hz1, hz2]
  clear hz1 hz2 IH hE hP hF hr hok
  -- a kid's fault
  have FLT : ∀ za ze, endTwo z1 z2 = .panicked [faultV za ze] → comb2 r repF z1 z2 = .panicked [faultV za ze] → Calls Tryd.prog 54 #[.agg #[.pointer (some ⟨x, 0, none⟩), .int .i64 (r : Nat)]] w fun e w' => e = comb2 r repF z1 z2 ∧ Below w.heap.size w w' := by
    intro za ze h1 h2
    rw [h1] at co
    rw [h2]
    have CO := Lib.hid co
    clear co k0 k1 hokA hokB h1 h2
    go_enter Tryd.func54, Tryd.ntmps54
    go_wp2_with (go_at_call 49; refine CO.out.mono ?_; rintro e w3 ⟨rfl, hb3⟩)
    exact ⟨rfl, rfl, b2.trans (hb3.mono b2.size)⟩
  cases z1 with
  | error z => exact FLT z.1 z.2 rfl rfl
  | ok a =>
  cases z2 with
  | error z => exact FLT z.1 z.2 rfl rfl
  | ok b =>
  clear FLT
  have hokA := hokA a rfl
  have hokB := hokB b rfl
  show Calls _ _ _ _ fun e w' => e = endO r (repF a b) ∧ _
  have AX : Hid (∀ w3, Below w2.heap.size w2 w3 → ∀ (so1 so2 : Int) bl1 bl2 (nn1 nn2 : Nat) S1 S2, ∃ w5, (w3.alloc (.cells #[.int .i64 so1, .bool bl1, .int .u64 (nn1 : Nat), .string S1] 64)).alloc (.cells #[.int .i64 so2, .bool bl2, .int .u64 (nn2 : Nat), .string S2] 64) = w5 ∧ ∀ W, Below w5.heap.size w5 W → (W.cell? ⟨w.heap.size, 0, none⟩ = some (.pointer (some ⟨x, 0, none⟩)) ∧ W.cell? ⟨w.heap.size, 1, none⟩ = some (.int .i64 (r : Nat))) ∧
      (W.cell? ⟨w3.heap.size, 0, none⟩ = some (.int .i64 so1) ∧ W.cell? ⟨w3.heap.size, 1, none⟩ = some (.bool bl1) ∧ W.cell? ⟨w3.heap.size, 2, none⟩ = some (.int .u64 (nn1 : Nat)) ∧ W.cell? ⟨w3.heap.size, 3, none⟩ = some (.string S1)) ∧
      (W.cell? ⟨w3.heap.size + 1, 0, none⟩ = some (.int .i64 so2) ∧ W.cell? ⟨w3.heap.size + 1, 1, none⟩ = some (.bool bl2) ∧ W.cell? ⟨w3.heap.size + 1, 2, none⟩ = some (.int .u64 (nn2 : Nat)) ∧ W.cell? ⟨w3.heap.size + 1, 3, none⟩ = some (.string S2)) ∧
      CB W (w.heap.size + 1) 64 #[.int .i64 0, .bool false, .int .u64 0, .string ⟨#[]⟩] ∧ Below w.heap.size w W ∧ w.heap.size + 1 < w3.heap.size) := fun w3 hb so1 so2 bl1 bl2 nn1 nn2 S1 S2 => after_two k0 k1 b2 hb
  obtain ⟨so1, hs1⟩ : ∃ so, a.sort = so := ⟨_, rfl⟩
  obtain ⟨bl1, hbl1⟩ : ∃ bl, decide (a.n < 0) = bl := ⟨_, rfl⟩
  obtain ⟨nn1, hnn1⟩ : ∃ nn, a.n.natAbs = nn := ⟨_, rfl⟩
  obtain ⟨S1, hS1⟩ : ∃ S, str a.s = S := ⟨_, rfl⟩
  obtain ⟨so2, hs2⟩ : ∃ so, b.sort = so := ⟨_, rfl⟩
  obtain ⟨bl2, hbl2⟩ : ∃ bl, decide (b.n < 0) = bl := ⟨_, rfl⟩
  obtain ⟨nn2, hnn2⟩ : ∃ nn, b.n.natAbs = nn := ⟨_, rfl⟩
  obtain ⟨S2, hS2⟩ : ∃ S, str b.s = S := ⟨_, rfl⟩
  have e1 : thC a = #[.int .i64 so1, .bool bl1, .int .u64 (nn1 : Nat), .string S1] := by rw [← hs1, ← hbl1, ← hnn1, ← hS1]; rfl
  have e2 : thC b = #[.int .i64 so2, .bool bl2, .int .u64 (nn2 : Nat), .string S2] := by rw [← hs2, ← hbl2, ← hnn2, ← hS2]; rfl
  have he : endTwo (.ok a) (.ok b) = .returned (.tuple #[.agg #[.int .i64 so1, .bool bl1, .int .u64 (nn1 : Nat), .string S1], .agg #[.int .i64 so2, .bool bl2, .int .u64 (nn2 : Nat), .string S2]]) := by rw [← e1, ← e2]; rfl
  rw [he] at co
  have CO := Lib.hid co
  clear co he k0 k1
  by_cases hT : so1 = 2 ∧ so2 = 1
  · obtain ⟨rfl, rfl⟩ := hT
    have hab : ∃ s v, a = .text s ∧ b = .num v := by
      cases a <;> cases b <;> first | exact ⟨_, _, rfl, rfl⟩ | (simp [Th.sort] at hs1; done) | (simp [Th.sort] at hs2; done)
    obtain ⟨s, v, rfl, rfl⟩ := hab
    have hl1 : s.length ≤ 4096 := hokA
    have hv1 : -9223372036854775808 ≤ v ∧ v < 18446744073709551616 := hokB
    have hz1 : S1.size = s.length := by rw [← hS1]; exact str_size _
    have hls : S1 = str s := hS1.symm
    have hbv : decide (v < 0) = bl2 := hbl2
    have hnv : v.natAbs = nn2 := hnn2
    have WY : Hid (∀ W, Calls Tryd.prog 27 #[.agg #[.pointer (some ⟨x, 0, none⟩), .int .i64 (r : Nat)], .bool true] W fun q w' => q = .returned (.tuple #[]) ∧ Below W.heap.size W w') := fun W => want_yes W x r
    have GX : Hid (∀ W (z : Nat), Calls Tryd.prog 32 #[.agg #[.pointer (some ⟨x, 0, none⟩), .int .i64 (r : Nat)], .int .i64 (z : Nat)] W fun q w' => q = .panicked [faultV r z] ∧ Below W.heap.size W w') := fun W z => give_any W x r z
    show Calls _ _ _ _ fun e w' => e = endO r (repE' s v) ∧ _
    by_cases hneg : v < 0
    · have he : endO r (repE' s v) = .panicked [faultV r 111] := by unfold repE'; rw [if_pos hneg]; rfl
      obtain rfl : bl2 = true := by rw [← hbv]; exact decide_eq_true hneg
      rw [he]
      have G9 := Lib.hid (fun W => GX.out W 111)
      clear hs1 hs2 hbl1 hbl2 hnn1 hnn2 hS1 hS2 e1 e2 hokA hokB hl1 hv1 hz1 hls hbv hnv he hneg
      go_enter Tryd.func54, Tryd.ntmps54
      go_wp2_with (first
        | (go_at_call 49; refine CO.out.mono ?_; rintro e w3 ⟨rfl, hb3⟩; obtain ⟨w5, hw5, FX⟩ := AX.out w3 hb3 2 1 bl1 true nn1 nn2 S1 S2; have FX := Lib.hid FX; obtain ⟨⟨p0, p1⟩, ⟨q0, q1, q2, q3⟩, ⟨r0, r1, r2, r3⟩, _, _, _⟩ := FX.out w5 (Below.refl _ _))
        | (go_at_call 27; refine (WY.out w5).mono ?_; rintro e w6 ⟨rfl, hb6⟩; clear p0 p1 q0 q1 q2 q3 r0 r1 r2 r3; obtain ⟨⟨p0, p1⟩, ⟨q0, q1, q2, q3⟩, ⟨r0, r1, r2, r3⟩, _, _, _⟩ := FX.out w6 hb6)
        | (go_at_call 32; refine (G9.out w6).mono ?_; rintro e w7 ⟨rfl, hb7⟩; obtain ⟨_, _, _, _, hz, _⟩ := FX.out w7 (Below.both hb6 hb7))
        | fail)
      exact ⟨rfl, rfl, hz⟩
    · obtain rfl : bl2 = false := by rw [← hbv]; exact decide_eq_false hneg
      have hvn : v.toNat = nn2 := by omega
      have PX0 := fun W => rep_any (w := W) S1 nn2 (by omega) (by omega)
      by_cases hfit : nn2 * S1.size ≤ 4096
      · obtain ⟨T0, hT0⟩ : ∃ T, str (timesL s nn2) = T := ⟨_, rfl⟩
        have PX : Hid (∀ W, Calls Tryd.prog 80 #[.string S1, .int .u64 (nn2 : Nat)] W fun e w' => e = .returned (.tuple #[.string T0, .int .i64 0]) ∧ Below W.heap.size W w') := fun W => by
          have := PX0 W
          unfold repT repE at this
          rw [if_pos hfit, if_pos hfit] at this
          unfold rp at this
          rw [hls, timesL_rp, hT0] at this
          rw [hls]
          exact this
        have hlen : (timesL s nn2).length ≤ 4096 := by rw [timesL_len, ← hz1]; exact hfit
        have TX : Hid (∀ W, Calls Tryd.prog 46 #[.agg #[.pointer (some ⟨x, 0, none⟩), .int .i64 (r : Nat)], .string T0] W fun e w' => e = .returned (.agg #[.int .i64 2, .bool false, .int .u64 0, .string T0]) ∧ Below W.heap.size W w') := fun W => by
          have := textOf_any W x r (timesL s nn2) (by omega)
          have he : endO r (textE (timesL s nn2)) = .returned (.agg #[.int .i64 2, .bool false, .int .u64 0, .string T0]) := by unfold textE; rw [if_pos hlen, ← hT0]; rfl
          rw [he, hT0] at this
          exact this
        have he : endO r (repE' s v) = .returned (.agg #[.int .i64 2, .bool false, .int .u64 0, .string T0]) := by
          unfold repE'
          rw [if_neg hneg, hvn, if_pos (by rw [← hz1]; exact hfit), ← hT0]
          rfl
        rw [he]
        clear hs1 hs2 hbl1 hbl2 hnn1 hnn2 hS1 hS2 e1 e2 hokA hokB hl1 hv1 hz1 hls hbv hnv he hneg hvn PX0 hfit hT0 hlen GX
        go_enter Tryd.func54, Tryd.ntmps54
        go_wp2_with (first
          | (go_at_call 49; refine CO.out.mono ?_; rintro e w3 ⟨rfl, hb3⟩; obtain ⟨w5, hw5, FX⟩ := AX.out w3 hb3 2 1 bl1 false nn1 nn2 S1 S2; have FX := Lib.hid FX; obtain ⟨⟨p0, p1⟩, ⟨q0, q1, q2, q3⟩, ⟨r0, r1, r2, r3⟩, _, _, _⟩ := FX.out w5 (Below.refl _ _))
          | (go_at_call 27; refine (WY.out w5).mono ?_; rintro e w6 ⟨rfl, hb6⟩; clear p0 p1 q0 q1 q2 q3 r0 r1 r2 r3; obtain ⟨⟨p0, p1⟩, ⟨q0, q1, q2, q3⟩, ⟨r0, r1, r2, r3⟩, _, _, _⟩ := FX.out w6 hb6)
          | (go_at_call 80; refine (PX.out w6).mono ?_; rintro e w7 ⟨rfl, hb7⟩; clear p0 p1 q0 q1 q2 q3 r0 r1 r2 r3; have h7 := Below.both hb6 hb7; obtain ⟨⟨p0, p1⟩, ⟨q0, q1, q2, q3⟩, ⟨r0, r1, r2, r3⟩, _, _, _⟩ := FX.out w7 h7)
          | (go_at_call 46; refine (TX.out w7).mono ?_; rintro e w8 ⟨rfl, hb8⟩; obtain ⟨_, _, _, h9, hz, hsz⟩ := FX.out w8 (Below.both h7 hb8))
          | (refine wpList_store_cb rfl 64 (.tmp 2) (.tmp 43) rfl (w.heap.size + 1) _ #[.int .i64 2, .bool false, .int .u64 0, .string T0] rfl rfl h9 rfl (by kernel_rfl) (by kernel_rfl) ?_; intro w9 k9 t9)
          | fail)
        exact bodyPost_ret (results_cb rfl _ _ _ _ rfl k9 Tryd.underlying64 rfl (by kernel_rfl)) rfl ⟨rfl, hz.trans (t9.below (by omega))⟩
      · have PX : Hid (∀ W, Calls Tryd.prog 80 #[.string S1, .int .u64 (nn2 : Nat)] W fun e w' => e = .returned (.tuple #[.string ByteArray.empty, .int .i64 2]) ∧ Below W.heap.size W w') := fun W => by
          have := PX0 W
          unfold repT repE at this
          rw [if_neg hfit, if_neg hfit] at this
          exact this
        have he : endO r (repE' s v) = .panicked [faultV r 2] := by
          unfold repE'
          rw [if_neg hneg, hvn, if_neg (by rw [← hz1]; exact hfit)]
          rfl
        rw [he]
        have G9 := Lib.hid (fun W => GX.out W 2)
        clear hs1 hs2 hbl1 hbl2 hnn1 hnn2 hS1 hS2 e1 e2 hokA hokB hl1 hv1 hz1 hls hbv hnv he hneg hvn PX0 hfit
        go_enter Tryd.func54, Tryd.ntmps54
        go_wp2_with (first
          | (go_at_call 49; refine CO.out.mono ?_; rintro e w3 ⟨rfl, hb3⟩; obtain ⟨w5, hw5, FX⟩ := AX.out w3 hb3 2 1 bl1 false nn1 nn2 S1 S2; have FX := Lib.hid FX; obtain ⟨⟨p0, p1⟩, ⟨q0, q1, q2, q3⟩, ⟨r0, r1, r2, r3⟩, _, _, _⟩ := FX.out w5 (Below.refl _ _))
          | (go_at_call 27; refine (WY.out w5).mono ?_; rintro e w6 ⟨rfl, hb6⟩; clear p0 p1 q0 q1 q2 q3 r0 r1 r2 r3; obtain ⟨⟨p0, p1⟩, ⟨q0, q1, q2, q3⟩, ⟨r0, r1, r2, r3⟩, _, _, _⟩ := FX.out w6 hb6)
          | (go_at_call 80; refine (PX.out w6).mono ?_; rintro e w7 ⟨rfl, hb7⟩; clear p0 p1 q0 q1 q2 q3 r0 r1 r2 r3; have h7 := Below.both hb6 hb7; obtain ⟨⟨p0, p1⟩, ⟨q0, q1, q2, q3⟩, ⟨r0, r1, r2, r3⟩, _, _, _⟩ := FX.out w7 h7)
          | (go_at_call 32; refine (G9.out w7).mono ?_; rintro e w8 ⟨rfl, hb8⟩; obtain ⟨_, _, _, _, hz, _⟩ := FX.out w8 (Below.both h7 hb8))
          | fail)
        exact ⟨rfl, rfl, hz⟩
  · have hf : endO r (repF a b) = .panicked [faultV r 110] := by
      cases a <;> cases b <;> first | rfl | (exact absurd ⟨hs1.symm, hs2.symm⟩ hT)
    rw [hf]
    have WN : Hid (∀ W, Calls Tryd.prog 27 #[.agg #[.pointer (some ⟨x, 0, none⟩), .int .i64 (r : Nat)], .bool false] W fun q w' => q = .panicked [faultV r 110] ∧ Below W.heap.size W w') := fun W => want_no W x r
    have hg : (so1 == 2) = false ∨ ((so1 == 2) = true ∧ (so2 == 1) = false) := by
      by_cases h1 : so1 = 2
      · exact .inr ⟨by rw [h1]; rfl, beq_eq_false_iff_ne.2 fun h2 => hT ⟨h1, h2⟩⟩
      · exact .inl (beq_eq_false_iff_ne.2 h1)
    clear hT hs1 hs2 hbl1 hbl2 hnn1 hnn2 hS1 hS2 e1 e2 hokA hokB hf
    rcases hg with hg | ⟨hg, hh⟩
    all_goals
      go_enter Tryd.func54, Tryd.ntmps54
      go_wp2_with (first
        | (go_at_call 49; refine CO.out.mono ?_; rintro e w3 ⟨rfl, hb3⟩; obtain ⟨w5, hw5, FX⟩ := AX.out w3 hb3 so1 so2 bl1 bl2 nn1 nn2 S1 S2; have FX := Lib.hid FX; obtain ⟨⟨p0, p1⟩, ⟨q0, q1, q2, q3⟩, ⟨r0, r1, r2, r3⟩, _, _, _⟩ := FX.out w5 (Below.refl _ _))
        | (go_at_call 27; refine (WN.out w5).mono ?_; rintro e w6 ⟨rfl, hb6⟩; obtain ⟨_, _, _, _, hz, _⟩ := FX.out w6 hb6)
        | fail)
      exact ⟨rfl, rfl, hz⟩
end Go.Proofs.YtmbiompmhaiehaaDoor
