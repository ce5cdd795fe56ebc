/- The walk of the code: arithmetic, whatever it does. -/
import Derived.Test.YtmbiompmhaiehaaDoorExOne
namespace Go.Proofs.YtmbiompmhaiehaaDoor
open Go.RowKit

/-- a node over two kids -/
def comb2 (r : Nat) (f : Th → Th → Except Nat Th) : Res → Res → Ending
  | .error (a, e), _ => .panicked [faultV a e]
  | .ok _, .error (a, e) => .panicked [faultV a e]
  | .ok t, .ok u => endO r (f t u)
def arF (op : Int → Int → Int) : Th → Th → Except Nat Th
  | .num v, .num u => numE (op v u)
  | _, _ => .error 110
/-- what stands when arithmetic begins its work -/
theorem ar_start (w : World) (x r : Nat) (so1 so2 : Int) (bl1 bl2 : Bool) (nn1 nn2 : Nat) (S1 S2 : ByteArray) :
    ∃ w4, (((w.alloc (.cells #[.pointer (some ⟨x, 0, none⟩), .int .i64 (r : Nat)] 43)).alloc (.cells #[.int .i64 so1, .bool bl1, .int .u64 (nn1 : Nat), .string S1] 64)).alloc (.cells #[.int .i64 so2, .bool bl2, .int .u64 (nn2 : Nat), .string S2] 64)).alloc (.cells #[.int .i64 0, .bool false, .int .u64 0, .string ⟨#[]⟩] 64) = w4 ∧
      ∀ W, Below w4.heap.size w4 W → (W.cell? ⟨w.heap.size, 0, none⟩ = some (.pointer (some ⟨x, 0, none⟩)) ∧ W.cell? ⟨w.heap.size, 1, none⟩ = some (.int .i64 (r : Nat))) ∧
      (W.cell? ⟨w.heap.size + 1, 0, none⟩ = some (.int .i64 so1) ∧ W.cell? ⟨w.heap.size + 1, 1, none⟩ = some (.bool bl1) ∧ W.cell? ⟨w.heap.size + 1, 2, none⟩ = some (.int .u64 (nn1 : Nat))) ∧
      (W.cell? ⟨w.heap.size + 1 + 1, 0, none⟩ = some (.int .i64 so2) ∧ W.cell? ⟨w.heap.size + 1 + 1, 1, none⟩ = some (.bool bl2) ∧ W.cell? ⟨w.heap.size + 1 + 1, 2, none⟩ = some (.int .u64 (nn2 : Nat))) ∧
      CB W (w.heap.size + 1 + 1 + 1) 64 #[.int .i64 0, .bool false, .int .u64 0, .string ⟨#[]⟩] ∧ Below w.heap.size w W := by
  obtain ⟨w1, hw1⟩ : ∃ w1, w1 = w.alloc (.cells #[.pointer (some ⟨x, 0, none⟩), .int .i64 (r : Nat)] 43) := ⟨_, rfl⟩
  obtain ⟨w2, hw2⟩ : ∃ w2, w2 = w1.alloc (.cells #[.int .i64 so1, .bool bl1, .int .u64 (nn1 : Nat), .string S1] 64) := ⟨_, rfl⟩
  obtain ⟨w3, hw3⟩ : ∃ w3, w3 = w2.alloc (.cells #[.int .i64 so2, .bool bl2, .int .u64 (nn2 : Nat), .string S2] 64) := ⟨_, rfl⟩
  rw [← hw1, ← hw2, ← hw3]
  have s1 : w1.heap.size = w.heap.size + 1 := by rw [hw1]; simp
  have s2 : w2.heap.size = w.heap.size + 1 + 1 := by rw [hw2]; simp [s1]
  have s3 : w3.heap.size = w.heap.size + 1 + 1 + 1 := by rw [hw3]; simp [s2]
  have b1 : Below w.heap.size w w1 := by rw [hw1]; exact (Below.refl _ w).alloc (Nat.le_refl _) _
  have b2 : Below w1.heap.size w1 w2 := by rw [hw2]; exact (Below.refl _ w1).alloc (Nat.le_refl _) _
  have b3 : Below w2.heap.size w2 w3 := by rw [hw3]; exact (Below.refl _ w2).alloc (Nat.le_refl _) _
  have b4 : Below w3.heap.size w3 (w3.alloc (.cells #[.int .i64 0, .bool false, .int .u64 0, .string ⟨#[]⟩] 64)) := (Below.refl _ w3).alloc (Nat.le_refl _) _
  have q0 : CB w1 w.heap.size 43 #[.pointer (some ⟨x, 0, none⟩), .int .i64 (r : Nat)] := by rw [hw1]; exact CB.new w _ _
  have q1 : CB w2 (w.heap.size + 1) 64 #[.int .i64 so1, .bool bl1, .int .u64 (nn1 : Nat), .string S1] := by rw [← s1, hw2]; exact CB.new w1 _ _
  have q2 : CB w3 (w.heap.size + 1 + 1) 64 #[.int .i64 so2, .bool bl2, .int .u64 (nn2 : Nat), .string S2] := by rw [← s2, hw3]; exact CB.new w2 _ _
  refine ⟨_, rfl, fun W hW => ?_⟩
  have a0 := (((q0.below b2).below b3).below b4).below hW
  have a1 := ((q1.below b3).below b4).below hW
  have a2 := (q2.below b4).below hW
  refine ⟨⟨a0.at_ 0, a0.at_ 1⟩, ⟨a1.at_ 0, a1.at_ 1, a1.at_ 2⟩, ⟨a2.at_ 0, a2.at_ 1, a2.at_ 2⟩, ?_, ?_⟩
  · rw [← s3]; exact (CB.new w3 _ _).below hW
  · exact ((b1.trans (b2.mono (by omega))).trans (b3.mono (by omega))).trans ((b4.trans (hW.mono b4.size)).mono (by omega))

set_option maxRecDepth 100000 in
set_option maxHeartbeats 4000000 in
theorem arith_no (w : World) (x r : Nat) (fn : FuncId) (a b : Th) (h : a.sort ≠ 1 ∨ b.sort ≠ 1) :
    Calls Tryd.prog 50 #[.agg #[.pointer (some ⟨x, 0, none⟩), .int .i64 (r : Nat)], .agg (thC a), .agg (thC b), .func (.func fn) #[] #[]] w fun e w' => e = .panicked [faultV r 110] ∧ Below w.heap.size w w' := by
  obtain ⟨so1, hs1⟩ : ∃ so, a.sort = so := ⟨_, rfl⟩
  obtain ⟨so2, hs2⟩ : ∃ so, b.sort = so := ⟨_, rfl⟩
  unfold thC
  rw [hs1, hs2]
  rw [hs1, hs2] at h
  obtain ⟨bl1, hbl1⟩ : ∃ bl, decide (a.n < 0) = bl := ⟨_, rfl⟩
  obtain ⟨nn1, hnn1⟩ : ∃ nn, a.n.natAbs = nn := ⟨_, rfl⟩
  obtain ⟨S1, hS1⟩ : ∃ S, str a.s = S := ⟨_, rfl⟩
  obtain ⟨bl2, hbl2⟩ : ∃ bl, decide (b.n < 0) = bl := ⟨_, rfl⟩
  obtain ⟨nn2, hnn2⟩ : ∃ nn, b.n.natAbs = nn := ⟨_, rfl⟩
  obtain ⟨S2, hS2⟩ : ∃ S, str b.s = S := ⟨_, rfl⟩
  rw [hbl1, hnn1, hS1, hbl2, hnn2, hS2]
  obtain ⟨w4, hw4, FX⟩ := ar_start w x r so1 so2 bl1 bl2 nn1 nn2 S1 S2
  have FX := Lib.hid FX
  obtain ⟨⟨p0, p1⟩, ⟨q0, q1, q2⟩, ⟨r0, r1, r2⟩, _, _⟩ := FX.out w4 (Below.refl _ _)
  have WN : Hid (Calls Tryd.prog 27 #[.agg #[.pointer (some ⟨x, 0, none⟩), .int .i64 (r : Nat)], .bool false] w4 fun q w' => q = .panicked [faultV r 110] ∧ Below w4.heap.size w4 w') := want_no w4 x r
  clear hs1 hs2 hbl1 hnn1 hS1 hbl2 hnn2 hS2
  by_cases h1 : so1 = 1
  · have z2 : (so2 == 1) = false := beq_eq_false_iff_ne.2 (h.resolve_left fun z => z h1)
    subst h1
    clear h
    go_enter Tryd.func50, Tryd.ntmps50
    go_wp2_with (go_at_call 27; refine WN.out.mono ?_; rintro e w5 ⟨rfl, hb5⟩; obtain ⟨_, _, _, _, hz⟩ := FX.out w5 hb5)
    exact ⟨rfl, rfl, hz⟩
  · have z1 : (so1 == 1) = false := beq_eq_false_iff_ne.2 h1
    clear h h1
    go_enter Tryd.func50, Tryd.ntmps50
    go_wp2_with (go_at_call 27; refine WN.out.mono ?_; rintro e w5 ⟨rfl, hb5⟩; obtain ⟨_, _, _, _, hz⟩ := FX.out w5 hb5)
    exact ⟨rfl, rfl, hz⟩

set_option maxRecDepth 100000 in
set_option maxHeartbeats 4000000 in
theorem arith_yes (w : World) (x r : Nat) (fn : FuncId) (hen : ∀ args w, (callFunc fn args).run Tryd.prog w = .ok (.enter fn args) w) (v u z : Int)
    (hdo : ∀ W, Calls Tryd.prog fn #[.agg (numC v), .agg (numC u)] W (NumAt z W)) :
    Calls Tryd.prog 50 #[.agg #[.pointer (some ⟨x, 0, none⟩), .int .i64 (r : Nat)], .agg (thC (.num v)), .agg (thC (.num u)), .func (.func fn) #[] #[]] w fun e w' => e = endO r (numE z) ∧ Below w.heap.size w w' := by
  obtain ⟨bl1, hbl1⟩ : ∃ bl, decide (v < 0) = bl := ⟨_, rfl⟩
  obtain ⟨nn1, hnn1⟩ : ∃ nn, v.natAbs = nn := ⟨_, rfl⟩
  obtain ⟨bl2, hbl2⟩ : ∃ bl, decide (u < 0) = bl := ⟨_, rfl⟩
  obtain ⟨nn2, hnn2⟩ : ∃ nn, u.natAbs = nn := ⟨_, rfl⟩
  have e1 : thC (.num v) = #[.int .i64 1, .bool bl1, .int .u64 (nn1 : Nat), .string ⟨#[]⟩] := by rw [← hbl1, ← hnn1]; rfl
  have e2 : thC (.num u) = #[.int .i64 1, .bool bl2, .int .u64 (nn2 : Nat), .string ⟨#[]⟩] := by rw [← hbl2, ← hnn2]; rfl
  rw [e1, e2]
  obtain ⟨w4, hw4, FX⟩ := ar_start w x r 1 1 bl1 bl2 nn1 nn2 ⟨#[]⟩ ⟨#[]⟩
  have FX := Lib.hid FX
  obtain ⟨⟨p0, p1⟩, ⟨q0, q1, q2⟩, ⟨r0, r1, r2⟩, _, _⟩ := FX.out w4 (Below.refl _ _)
  have WY : Hid (Calls Tryd.prog 27 #[.agg #[.pointer (some ⟨x, 0, none⟩), .int .i64 (r : Nat)], .bool true] w4 fun q w' => q = .returned (.tuple #[]) ∧ Below w4.heap.size w4 w') := want_yes w4 x r
  have DX : Hid (∀ W, Calls Tryd.prog fn #[.agg #[.bool bl1, .int .u64 (nn1 : Nat)], .agg #[.bool bl2, .int .u64 (nn2 : Nat)]] W fun e w' => ∃ (b : Bool) (s : Nat), e = .returned (.tuple #[.agg #[.bool b, .int .u64 (s : Nat)], .bool (inR z)]) ∧ Hid (Below W.heap.size W w' ∧ (inR z = true → b = decide (z < 0) ∧ s = z.natAbs))) := fun W => by
    have := hdo W
    unfold numC at this
    rw [hbl1, hnn1, hbl2, hnn2] at this
    refine this.mono ?_
    rintro e w' ⟨b, s, he, h1, h2, _⟩
    exact ⟨b, s, he, h1, h2⟩
  have NX : Hid (∀ W b s, (inR z = true → b = decide (z < 0) ∧ s = z.natAbs) → Calls Tryd.prog 71 #[.agg #[.pointer (some ⟨x, 0, none⟩), .int .i64 (r : Nat)], .agg #[.bool b, .int .u64 (s : Nat)], .bool (inR z)] W fun q w' => q = endO r (numE z) ∧ Below W.heap.size W w') := fun W b s h => numberOf_any W x r z b s h
  clear hdo e1 e2 hbl1 hnn1 hbl2 hnn2
  cases hi : inR z with
  | true =>
    obtain ⟨so2, bl9, nn9, S9, hth⟩ := thC_four (.num z)
    have he : endO r (numE z) = .returned (.agg #[.int .i64 so2, .bool bl9, .int .u64 (nn9 : Nat), .string S9]) := by rw [← hth, numE_eq, if_pos hi]; rfl
    rw [he, hi] at NX
    rw [hi] at DX
    rw [he]
    clear he hth hi
    go_enter Tryd.func50, Tryd.ntmps50
    go_wp2_with (first
      | (go_at_call 27; refine WY.out.mono ?_; rintro e w5 ⟨rfl, hb5⟩; clear p0 p1 q0 q1 q2 r0 r1 r2; obtain ⟨⟨p0, p1⟩, ⟨q0, q1, q2⟩, ⟨r0, r1, r2⟩, _, _⟩ := FX.out w5 hb5; have cd := DX.out w5)
      | (go_at_fn fn; refine cd.mono ?_; rintro e w6 ⟨b, s, rfl, H6⟩; clear p0 p1 q0 q1 q2 r0 r1 r2; obtain ⟨w7, hw7, hb7, n0, n1⟩ := num_block w6 b s; have h7 : Below w4.heap.size w4 w7 := Below.both hb5 (Below.both H6.out.1 hb7); obtain ⟨⟨p0, p1⟩, _, _, _, _⟩ := FX.out w7 h7; have cn := NX.out w7 b s H6.out.2)
      | (go_at_call 71; refine cn.mono ?_; rintro e w8 ⟨rfl, hb8⟩; obtain ⟨_, _, _, h9, hz⟩ := FX.out w8 (Below.both h7 hb8))
      | (refine wpList_store_cb rfl 64 (.tmp 8) (.tmp 33) rfl (w.heap.size + 1 + 1 + 1) _ #[.int .i64 so2, .bool bl9, .int .u64 (nn9 : Nat), .string S9] rfl rfl h9 rfl (by kernel_rfl) (by kernel_rfl) ?_; intro w9 k9 t9)
      | fail)
    exact bodyPost_ret (results_cb rfl _ _ _ _ rfl k9 Tryd.underlying64 rfl (by kernel_rfl)) rfl ⟨rfl, hz.trans (t9.below (by omega))⟩
  | false =>
    have he : endO r (numE z) = .panicked [faultV r 111] := by rw [numE_eq, hi]; rfl
    rw [he, hi] at NX
    rw [hi] at DX
    rw [he]
    clear he hi
    go_enter Tryd.func50, Tryd.ntmps50
    go_wp2_with (first
      | (go_at_call 27; refine WY.out.mono ?_; rintro e w5 ⟨rfl, hb5⟩; clear p0 p1 q0 q1 q2 r0 r1 r2; obtain ⟨⟨p0, p1⟩, ⟨q0, q1, q2⟩, ⟨r0, r1, r2⟩, _, _⟩ := FX.out w5 hb5; have cd := DX.out w5)
      | (go_at_fn fn; refine cd.mono ?_; rintro e w6 ⟨b, s, rfl, H6⟩; clear p0 p1 q0 q1 q2 r0 r1 r2; obtain ⟨w7, hw7, hb7, n0, n1⟩ := num_block w6 b s; have h7 : Below w4.heap.size w4 w7 := Below.both hb5 (Below.both H6.out.1 hb7); obtain ⟨⟨p0, p1⟩, _, _, _, _⟩ := FX.out w7 h7; have cn := NX.out w7 b s H6.out.2)
      | (go_at_call 71; refine cn.mono ?_; rintro e w8 ⟨rfl, hb8⟩; obtain ⟨_, _, _, _, hz⟩ := FX.out w8 (Below.both h7 hb8))
      | fail)
    exact ⟨rfl, rfl, hz⟩
/-- arithmetic of two things, by a function on numbers that does op -/
theorem arith_any (w : World) (x r : Nat) (fn : FuncId) (op : Int → Int → Int) (hen : ∀ args w, (callFunc fn args).run Tryd.prog w = .ok (.enter fn args) w) (hdo : ∀ W v u, v.natAbs < 18446744073709551616 → u.natAbs < 18446744073709551616 → Calls Tryd.prog fn #[.agg (numC v), .agg (numC u)] W (NumAt (op v u) W)) (a b : Th) (ha : a.Ok) (hb : b.Ok) :
    Calls Tryd.prog 50 #[.agg #[.pointer (some ⟨x, 0, none⟩), .int .i64 (r : Nat)], .agg (thC a), .agg (thC b), .func (.func fn) #[] #[]] w fun e w' => e = endO r (arF op a b) ∧ Below w.heap.size w w' := by
  by_cases h : ∃ v u, a = .num v ∧ b = .num u
  · obtain ⟨v, u, rfl, rfl⟩ := h
    exact arith_yes w x r fn hen v u (op v u) fun W => hdo W v u (by have h1 := ha.1; have h2 := ha.2; omega) (by have h1 := hb.1; have h2 := hb.2; omega)
  · have hs : a.sort ≠ 1 ∨ b.sort ≠ 1 := by
      cases a <;> cases b <;> first | (exact absurd ⟨_, _, rfl, rfl⟩ h) | (left; simp [Th.sort]; done) | (right; simp [Th.sort]; done)
    have hf : endO r (arF op a b) = .panicked [faultV r 110] := by
      cases a <;> cases b <;> first | (exact absurd ⟨_, _, rfl, rfl⟩ h) | rfl
    rw [hf]
    exact arith_no w x r fn a b hs
end Go.Proofs.YtmbiompmhaiehaaDoor
