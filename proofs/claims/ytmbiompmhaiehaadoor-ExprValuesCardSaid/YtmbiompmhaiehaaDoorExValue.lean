/- The walk of the code: Value. -/
import Derived.Test.YtmbiompmhaiehaaDoorExCatch
import Derived.Test.YtmbiompmhaiehaaDoorExValW
namespace Go.Proofs.YtmbiompmhaiehaaDoor
open Go.RowKit

/-- what Value answers -/
def vaEnd (v : Va) : Ending := .returned (.tuple #[.agg #[.int .i64 v.k, .int .u64 (v.n : Nat), .string (str v.s)], .int .i64 (v.at_ : Nat), .int .i64 (v.e : Nat)])
theorem VB.setAE {w : World} {g : Nat} {k : Int} {n : Nat} {S : ByteArray} {a e : Nat} (h : VB w g k n S a e) (a' e' : Nat) {B : Nat} (hB : B ≤ g) :
    VB ((w.setCell ⟨g + 1, 0, none⟩ (.int .i64 (a' : Nat))).setCell ⟨g + 1 + 1, 0, none⟩ (.int .i64 (e' : Nat))) g k n S a' e' ∧ Below B w ((w.setCell ⟨g + 1, 0, none⟩ (.int .i64 (a' : Nat))).setCell ⟨g + 1 + 1, 0, none⟩ (.int .i64 (e' : Nat))) := by
  have t2 : Turned (g + 1) w (w.setCell ⟨g + 1, 0, none⟩ (.int .i64 (a' : Nat))) := (Turned.refl _ w).setCell 0 _
  have a2 := one_set (v := .int .i64 (a' : Nat)) h.a
  have k2 := h.v.keep (t2.others g (by omega))
  have e2 := h.e.keep (t2.others (g + 1 + 1) (by omega))
  generalize w.setCell ⟨g + 1, 0, none⟩ (.int .i64 (a' : Nat)) = Z at t2 a2 k2 e2 ⊢
  have t3 : Turned (g + 1 + 1) Z (Z.setCell ⟨g + 1 + 1, 0, none⟩ (.int .i64 (e' : Nat))) := (Turned.refl _ Z).setCell 0 _
  exact ⟨⟨k2.keep (t3.others _ (by omega)), a2.keep (t3.others _ (by omega)), one_set e2⟩, (t2.below (by omega)).trans (t3.below (by omega))⟩
/-- three results out of their blocks -/
theorem results_vb {w : World} {g : Nat} {k : Int} {n : Nat} {S : ByteArray} {a e : Nat} (h : VB w g k n S a e) (tmps : Array Value) (h4 : tmps.getD 4 undef = .pointer (some ⟨g, 0, none⟩)) (h5 : tmps.getD 5 undef = .pointer (some ⟨g + 1, 0, none⟩)) (h6 : tmps.getD 6 undef = .pointer (some ⟨g + 1 + 1, 0, none⟩)) :
    (results Tryd.f8 tmps).run Tryd.prog w = .ok (.tuple #[.agg #[.int .i64 k, .int .u64 (n : Nat), .string S], .int .i64 (a : Nat), .int .i64 (e : Nat)]) w := by
  unfold results
  rw [Tryd.results8]
  have h4' : tmps[4]?.getD undef = .pointer (some ⟨g, 0, none⟩) := by simpa [Array.getD_eq_getD_getElem?] using h4
  have h5' : tmps[5]?.getD undef = .pointer (some ⟨g + 1, 0, none⟩) := by simpa [Array.getD_eq_getD_getElem?] using h5
  have h6' : tmps[6]?.getD undef = .pointer (some ⟨g + 1 + 1, 0, none⟩) := by simpa [Array.getD_eq_getD_getElem?] using h6
  have l1 := h.v.load (P := Tryd.prog) Tryd.underlying31 rfl (by kernel_rfl)
  have c1 : w.cell? ⟨g + 1, 0, none⟩ = some (.int .i64 (a : Nat)) := h.a.at_ 0
  have c2 : w.cell? ⟨g + 1 + 1, 0, none⟩ = some (.int .i64 (e : Nat)) := h.e.at_ 0
  have l2 : (loadVar 3 ⟨g + 1, 0, none⟩).run Tryd.prog w = .ok (.int .i64 (a : Nat)) w := by simp [go_sem, c1]
  have l3 : (loadVar 32 ⟨g + 1 + 1, 0, none⟩).run Tryd.prog w = .ok (.int .i64 (e : Nat)) w := by simp [go_sem, c2]
  simp [h4', h5', h6', asAddr, l1, l2, l3]
theorem val_three (w : World) : ∃ w3, ((w.alloc (.cells #[.int .i64 0, .int .u64 0, .string ⟨#[]⟩] 31)).alloc (.cells #[.int .i64 0] 3)).alloc (.cells #[.int .i64 0] 32) = w3 ∧ Below w.heap.size w w3 ∧ VB w3 w.heap.size 0 0 ⟨#[]⟩ 0 0 := by
  obtain ⟨w1, hw1⟩ : ∃ w1, w1 = w.alloc (.cells #[.int .i64 0, .int .u64 0, .string ⟨#[]⟩] 31) := ⟨_, rfl⟩
  obtain ⟨w2, hw2⟩ : ∃ w2, w2 = w1.alloc (.cells #[.int .i64 0] 3) := ⟨_, rfl⟩
  rw [← hw1, ← hw2]
  have s1 : w1.heap.size = w.heap.size + 1 := by rw [hw1]; simp
  have s2 : w2.heap.size = w.heap.size + 1 + 1 := by rw [hw2]; simp [s1]
  have b1 : Below w.heap.size w w1 := by rw [hw1]; exact (Below.refl _ w).alloc (Nat.le_refl _) _
  have b2 : Below w1.heap.size w1 w2 := by rw [hw2]; exact (Below.refl _ w1).alloc (Nat.le_refl _) _
  have b3 : Below w2.heap.size w2 (w2.alloc (.cells #[.int .i64 0] 32)) := (Below.refl _ w2).alloc (Nat.le_refl _) _
  refine ⟨_, rfl, (b1.trans (b2.mono (by omega))).trans (b3.mono (by omega)), ⟨?_, ?_, ?_⟩⟩
  · exact CB.below (CB.below (by rw [hw1]; exact CB.new w _ _) b2) b3
  · exact CB.below (by rw [← s1, hw2]; exact CB.new w1 _ _) b3
  · rw [← s2]; exact CB.new w2 _ _

set_option maxRecDepth 100000 in
set_option maxHeartbeats 8000000 in
theorem value_bad {w : World} {A : Option Addr} {c : Nat} {N : List Rn} {k : Int} (hR : RN w w.heap.size A N) (hF : Few N) (hbad : (chkP N).2 ≠ 0) :
    Calls Tryd.prog 8 #[.slice A N.length c, .int .i64 k] w fun e w' => e = vaEnd (noneV (chkP N).1 (chkP N).2) ∧ Below w.heap.size w w' := by
  obtain ⟨w3, hw3, b3, V3⟩ := val_three w
  obtain ⟨n, hn⟩ : ∃ n, N.length = n := ⟨_, rfl⟩
  obtain ⟨av, hav⟩ : ∃ a, (chkP N).1 = a := ⟨_, rfl⟩
  obtain ⟨ev, hev⟩ : ∃ a, (chkP N).2 = a := ⟨_, rfl⟩
  have cr := rootOf_any (c := c) ((hR.below b3).more b3.size) hF
  rw [hn] at cr
  have CR : Hid (Calls Tryd.prog 15 #[.slice A n c] w3 fun e w4 => ∃ (pa : Option Addr) (rv : Int), e = .returned (.tuple #[.agg #[.pointer pa, .int .i64 rv], .int .i64 (av : Nat), .int .i64 (ev : Nat)]) ∧ Hid (Below w3.heap.size w3 w4)) := by
    refine cr.mono ?_
    rintro e w4 ⟨hb, pv, rv, he, _⟩
    exact ⟨pv, rv, by rw [← hav, ← hev]; exact he, hb⟩
  rw [hn, hav, hev]
  rw [hev] at hbad
  have hez : ((ev : Int) != 0) = true := by rw [bne_iff_ne]; omega
  have hmf : ∀ (fn : Fn) (first cap : Array Value) (w : World), (Instr.makeFunc fn first cap).run Tryd.prog w = .ok (.func fn first cap) w := fun _ _ _ _ => rfl
  have RX : Hid (∀ w4, Below w3.heap.size w3 w4 → ∀ (pa : Option Addr) (rv : Int), ∃ w5, w4.alloc (.cells #[.pointer pa, .int .i64 rv] 43) = w5 ∧ Hid (VB w5 w.heap.size 0 0 ⟨#[]⟩ 0 0) ∧
      Hid (VB ((w5.setCell ⟨w.heap.size + 1, 0, none⟩ (.int .i64 (av : Nat))).setCell ⟨w.heap.size + 1 + 1, 0, none⟩ (.int .i64 (ev : Nat))) w.heap.size 0 0 ⟨#[]⟩ av ev ∧ Below w.heap.size w ((w5.setCell ⟨w.heap.size + 1, 0, none⟩ (.int .i64 (av : Nat))).setCell ⟨w.heap.size + 1 + 1, 0, none⟩ (.int .i64 (ev : Nat))))) := fun w4 h4 pa rv => by
    have hb5 : Below w4.heap.size w4 (w4.alloc (.cells #[.pointer pa, .int .i64 rv] 43)) := (Below.refl _ w4).alloc (Nat.le_refl _) _
    have h35 := Below.both h4 hb5
    have V5 := V3.below h35
    obtain ⟨V6, b6⟩ := V5.setAE av ev (B := w.heap.size) (Nat.le_refl _)
    exact ⟨_, rfl, V5, V6, (b3.trans (h35.mono b3.size)).trans b6⟩
  have d4 : w.heap.size + 1 ≠ w.heap.size := by omega
  have d5 : w.heap.size + 1 + 1 ≠ w.heap.size := by omega
  have d6 : w.heap.size + 1 + 1 ≠ w.heap.size + 1 := by omega
  clear cr hR hF hn hav hev hbad V3
  go_enter_defers Tryd.func8, Tryd.ntmps8
  go_wp2_with (go_at_call 15; refine CR.out.mono ?_; rintro e w4 ⟨pv, rv, rfl, H4⟩; obtain ⟨w5, hw5, V5, V6⟩ := RX.out w4 H4.out pv rv; obtain ⟨⟨c0, c1, c2⟩, ⟨c3, c4⟩, ⟨y0, y1, y2⟩, ⟨y3, y4⟩⟩ := V5.out.cells; obtain ⟨⟨b0, b1, b2⟩, ⟨b3, b4⟩, ⟨x0, x1, x2⟩, ⟨x3, x4⟩⟩ := V6.out.1.cells)
  have V7 := V6.out
  clear b0 b1 b2 b3 b4 x0 x1 x2 x3 x4 V6 c0 c1 c2 c3 c4 y0 y1 y2 y3 y4
  generalize (w5.setCell ⟨w.heap.size + 1, 0, none⟩ (.int .i64 (av : Nat))).setCell ⟨w.heap.size + 1 + 1, 0, none⟩ (.int .i64 (ev : Nat)) = w6 at V7 ⊢
  obtain ⟨⟨b0, b1, b2⟩, ⟨b3, b4⟩, ⟨x0, x1, x2⟩, ⟨x3, x4⟩⟩ := V7.1.cells
  have END := Lib.hid (V7.1.store 0 0 ⟨#[]⟩ av ev (B := w.heap.size) (Nat.le_refl _))
  have HB7 := Lib.hid V7.2
  clear V7
  go_region
  all_goals
    go_wp2
    refine leaves_cons (f := 14) (args := #[.pointer (some ⟨w.heap.size, 0, none⟩), .pointer (some ⟨w.heap.size + 1, 0, none⟩), .pointer (some ⟨w.heap.size + 1 + 1, 0, none⟩)]) (by simp) (by simp [go_sem]) ?_
    refine (catch_idle _ _ _ _).mono ?_
    rintro e u' w'' ⟨rfl, rfl, rfl⟩
    exact ⟨_, results_vb (END.out.1.below (Below.thenN (Below.refl _ _) 1)) _ rfl rfl rfl, rfl, Below.thenN (HB7.out.trans END.out.2) 1⟩

set_option maxRecDepth 100000 in
set_option maxHeartbeats 8000000 in
theorem value_nokind {w : World} {A : Option Addr} {c : Nat} {N : List Rn} {k : Int} (hK : KSt w w) (hR : RN w w.heap.size A N) (hF : Few N) (hgood : (chkP N).2 = 0) (hk : ¬ (1 ≤ k ∧ k ≤ 5)) :
    Calls Tryd.prog 8 #[.slice A N.length c, .int .i64 k] w fun e w' => e = vaEnd (noneV N.length 1) ∧ Below w.heap.size w w' := by
  obtain ⟨w3, hw3, b3, V3⟩ := val_three w
  obtain ⟨n, hn⟩ : ∃ n, N.length = n := ⟨_, rfl⟩
  obtain ⟨av, hav⟩ : ∃ a, (chkP N).1 = a := ⟨_, rfl⟩
  obtain ⟨la, hla⟩ : ∃ la, N.length - 1 = la := ⟨_, rfl⟩
  have hR3 := (hR.below b3).more b3.size
  have cr := rootOf_any (c := c) hR3 hF
  rw [hn] at cr
  have CR : Hid (Calls Tryd.prog 15 #[.slice A n c] w3 fun e w4 => ∃ (x : Nat), e = .returned (.tuple #[.agg #[.pointer (some ⟨x, 0, none⟩), .int .i64 (la : Nat)], .int .i64 (av : Nat), .int .i64 0]) ∧ Hid (Below w3.heap.size w3 w4 ∧ 0 < N.length ∧ ∃ f d F D, Xb w4 x f d A c N F D ∧ Known N F D N.length ∧ (w3.heap.size ≤ x ∧ w3.heap.size ≤ f ∧ w3.heap.size ≤ d))) := by
    refine cr.mono ?_
    rintro e w4 ⟨hb, pa, rv, he, hx⟩
    obtain ⟨x, f, d, F, D, rfl, rfl, hpos, hX, hKn, hge⟩ := hx hgood
    refine ⟨x, ?_, hb, hpos, f, d, F, D, hX, hKn, hge⟩
    rw [he, hav, hgood, hla]
    rfl
  have hmf : ∀ (fn : Fn) (first cap : Array Value) (w : World), (Instr.makeFunc fn first cap).run Tryd.prog w = .ok (.func fn first cap) w := fun _ _ _ _ => rfl
  have RX : Hid (∀ w4, Below w3.heap.size w3 w4 → ∀ (pa : Option Addr) (rv : Int), ∃ w5, w4.alloc (.cells #[.pointer pa, .int .i64 rv] 43) = w5 ∧ Hid (VB w5 w.heap.size 0 0 ⟨#[]⟩ 0 0) ∧ (w5.cell? ⟨w4.heap.size, 0, none⟩ = some (.pointer pa) ∧ w5.cell? ⟨w4.heap.size, 1, none⟩ = some (.int .i64 rv)) ∧ w.heap.size + 1 + 1 < w4.heap.size ∧
      Hid (VB ((w5.setCell ⟨w.heap.size + 1, 0, none⟩ (.int .i64 (av : Nat))).setCell ⟨w.heap.size + 1 + 1, 0, none⟩ (.int .i64 0)) w.heap.size 0 0 ⟨#[]⟩ av 0 ∧ Below w3.heap.size w3 w5 ∧ Below w.heap.size w5 ((w5.setCell ⟨w.heap.size + 1, 0, none⟩ (.int .i64 (av : Nat))).setCell ⟨w.heap.size + 1 + 1, 0, none⟩ (.int .i64 0)))) := fun w4 h4 pa rv => by
    have hb5 : Below w4.heap.size w4 (w4.alloc (.cells #[.pointer pa, .int .i64 rv] 43)) := (Below.refl _ w4).alloc (Nat.le_refl _) _
    have h35 := Below.both h4 hb5
    have V5 := V3.below h35
    have n5 := CB.new w4 43 #[.pointer pa, .int .i64 rv]
    obtain ⟨V6, b6⟩ := V5.setAE av 0 (B := w.heap.size) (Nat.le_refl _)
    refine ⟨_, rfl, V5, ⟨n5.at_ 0, n5.at_ 1⟩, ?_, V6, h35, b6⟩
    have := V3.e.len
    have := h4.size
    omega
  have d4 : w.heap.size + 1 ≠ w.heap.size := by omega
  have d5 : w.heap.size + 1 + 1 ≠ w.heap.size := by omega
  have d6 : w.heap.size + 1 + 1 ≠ w.heap.size + 1 := by omega
  have B3 := Lib.hid b3
  have HK := Lib.hid hK
  have IK : Hid (∀ W, Calls Tryd.prog 16 #[.int .i64 k] W fun e w' => e = .returned (.bool false) ∧ Below W.heap.size W w') := fun W => by
    have := isKind_any W k
    rw [decide_eq_false hk] at this
    exact this
  rw [hn]
  clear cr hR hR3 hF hn hav hla hgood V3 hk hK b3
  go_enter_defers Tryd.func8, Tryd.ntmps8
  go_wp2_with (first
    | (go_at_call 15; refine CR.out.mono ?_; rintro e w4 ⟨x, rfl, H4⟩; obtain ⟨w5, hw5, V5, ⟨z0, z1⟩, hlt, V6⟩ := RX.out w4 H4.out.1 (some ⟨x, 0, none⟩) la; obtain ⟨⟨c0, c1, c2⟩, ⟨c3, c4⟩, ⟨y0, y1, y2⟩, ⟨y3, y4⟩⟩ := V5.out.cells)
    | (go_at_call 16; refine (IK.out _).mono ?_; rintro e w7 ⟨rfl, hb7⟩; have V7 := Lib.hid (V6.out.1.below hb7); obtain ⟨⟨b0, b1, b2⟩, ⟨b3, b4⟩, ⟨x0, x1, x2⟩, ⟨x3, x4⟩⟩ := V7.out.cells)
    | fail)
  have b37 : Below w.heap.size w w7 := (B3.out.trans (V6.out.2.1.mono B3.out.size)).trans (V6.out.2.2.trans (hb7.mono (Nat.le_trans (B3.out.trans (V6.out.2.1.mono B3.out.size)).size V6.out.2.2.size)))
  have END := V7.out.store 0 0 ⟨#[]⟩ n 1 (B := w.heap.size) (Nat.le_refl _)
  refine leaves_cons (f := 14) (args := #[.pointer (some ⟨w.heap.size, 0, none⟩), .pointer (some ⟨w.heap.size + 1, 0, none⟩), .pointer (some ⟨w.heap.size + 1 + 1, 0, none⟩)]) (by simp) (by simp [go_sem]) ?_
  refine (catch_idle _ _ _ _).mono ?_
  rintro e u' w'' ⟨rfl, rfl, rfl⟩
  exact ⟨_, results_vb END.1 _ rfl rfl rfl, rfl, b37.trans END.2⟩

set_option maxRecDepth 100000 in
set_option maxHeartbeats 8000000 in
theorem value_kind {w : World} {A : Option Addr} {c : Nat} {N : List Rn} {k : Int} (hK : KSt w w) (hR : RN w w.heap.size A N) (hF : Few N) (hgood : (chkP N).2 = 0) (hk : 1 ≤ k ∧ k ≤ 5) :
    Calls Tryd.prog 8 #[.slice A N.length c, .int .i64 k] w fun e w' => e = vaEnd (valV N k) ∧ Below w.heap.size w w' := by
  obtain ⟨w3, hw3, b3, V3⟩ := val_three w
  obtain ⟨n, hn⟩ : ∃ n, N.length = n := ⟨_, rfl⟩
  obtain ⟨av, hav⟩ : ∃ a, (chkP N).1 = a := ⟨_, rfl⟩
  obtain ⟨la, hla⟩ : ∃ la, N.length - 1 = la := ⟨_, rfl⟩
  have hR3 := (hR.below b3).more b3.size
  have cr := rootOf_any (c := c) hR3 hF
  rw [hn] at cr
  have CR : Hid (Calls Tryd.prog 15 #[.slice A n c] w3 fun e w4 => ∃ (x : Nat), e = .returned (.tuple #[.agg #[.pointer (some ⟨x, 0, none⟩), .int .i64 (la : Nat)], .int .i64 (av : Nat), .int .i64 0]) ∧ Hid (Below w3.heap.size w3 w4 ∧ 0 < N.length ∧ ∃ f d F D, Xb w4 x f d A c N F D ∧ Known N F D N.length ∧ (w3.heap.size ≤ x ∧ w3.heap.size ≤ f ∧ w3.heap.size ≤ d))) := by
    refine cr.mono ?_
    rintro e w4 ⟨hb, pa, rv, he, hx⟩
    obtain ⟨x, f, d, F, D, rfl, rfl, hpos, hX, hKn, hge⟩ := hx hgood
    refine ⟨x, ?_, hb, hpos, f, d, F, D, hX, hKn, hge⟩
    rw [he, hav, hgood, hla]
    rfl
  have hmf : ∀ (fn : Fn) (first cap : Array Value) (w : World), (Instr.makeFunc fn first cap).run Tryd.prog w = .ok (.func fn first cap) w := fun _ _ _ _ => rfl
  have RX : Hid (∀ w4, Below w3.heap.size w3 w4 → ∀ (pa : Option Addr) (rv : Int), ∃ w5, w4.alloc (.cells #[.pointer pa, .int .i64 rv] 43) = w5 ∧ Hid (VB w5 w.heap.size 0 0 ⟨#[]⟩ 0 0) ∧ (w5.cell? ⟨w4.heap.size, 0, none⟩ = some (.pointer pa) ∧ w5.cell? ⟨w4.heap.size, 1, none⟩ = some (.int .i64 rv)) ∧ w.heap.size + 1 + 1 < w4.heap.size ∧
      Hid (VB ((w5.setCell ⟨w.heap.size + 1, 0, none⟩ (.int .i64 (av : Nat))).setCell ⟨w.heap.size + 1 + 1, 0, none⟩ (.int .i64 0)) w.heap.size 0 0 ⟨#[]⟩ av 0 ∧ Below w3.heap.size w3 w5 ∧ Below w.heap.size w5 ((w5.setCell ⟨w.heap.size + 1, 0, none⟩ (.int .i64 (av : Nat))).setCell ⟨w.heap.size + 1 + 1, 0, none⟩ (.int .i64 0)))) := fun w4 h4 pa rv => by
    have hb5 : Below w4.heap.size w4 (w4.alloc (.cells #[.pointer pa, .int .i64 rv] 43)) := (Below.refl _ w4).alloc (Nat.le_refl _) _
    have h35 := Below.both h4 hb5
    have V5 := V3.below h35
    have n5 := CB.new w4 43 #[.pointer pa, .int .i64 rv]
    obtain ⟨V6, b6⟩ := V5.setAE av 0 (B := w.heap.size) (Nat.le_refl _)
    refine ⟨_, rfl, V5, ⟨n5.at_ 0, n5.at_ 1⟩, ?_, V6, h35, b6⟩
    have := V3.e.len
    have := h4.size
    omega
  have d4 : w.heap.size + 1 ≠ w.heap.size := by omega
  have d5 : w.heap.size + 1 + 1 ≠ w.heap.size := by omega
  have d6 : w.heap.size + 1 + 1 ≠ w.heap.size + 1 := by omega
  have B3 := Lib.hid b3
  have HK := Lib.hid hK
  have IK : Hid (∀ W, Calls Tryd.prog 16 #[.int .i64 k] W fun e w' => e = .returned (.bool true) ∧ Below W.heap.size W w') := fun W => by
    have := isKind_any W k
    rw [decide_eq_true hk] at this
    exact this
  have VO : Hid (∀ W x, KSt W W → 0 < N.length → (∃ f d F D, Ex W x f d A c N F D) → Calls Tryd.prog 17 #[.agg #[.pointer (some ⟨x, 0, none⟩), .int .i64 (la : Nat)], .int .i64 k] W fun e w' => e = endV la k (resAt N la) ∧ Below W.heap.size W w') := fun W x h1 h2 ⟨f, d, F, D, h3⟩ => valueOf_any h1 h3 (by omega) hk
  have hval : valV N k = match resAt N la with
      | .error (a, e) => noneV a e
      | .ok t => match lastV t k with
        | .error e => noneV la e
        | .ok (n, s) => ⟨k, n, s, 0, 0⟩ := by
    unfold valV
    rw [if_neg (by omega), if_neg (by omega), hla]
    rfl
  rw [hn]
  have END0 : (∃ a e, endV la k (resAt N la) = .panicked [faultV a e] ∧ valV N k = noneV a e) ∨ (∃ (n : Nat) (s : List UInt8), endV la k (resAt N la) = .returned (.agg #[.int .i64 k, .int .u64 (n : Nat), .string (str s)]) ∧ valV N k = ⟨k, n, s, 0, 0⟩) := by
    rw [hval]
    cases resAt N la with
    | error z => exact .inl ⟨z.1, z.2, rfl, rfl⟩
    | ok t =>
      show (∃ a e, endL la k (lastV t k) = _ ∧ (match lastV t k with | .error e => noneV la e | .ok (n, s) => (⟨k, n, s, 0, 0⟩ : Va)) = _) ∨ ∃ (n : Nat) (s : List UInt8), endL la k (lastV t k) = _ ∧ (match lastV t k with | .error e => noneV la e | .ok (n, s) => (⟨k, n, s, 0, 0⟩ : Va)) = _
      cases lastV t k with
      | error e => exact .inl ⟨la, e, rfl, rfl⟩
      | ok p => exact .inr ⟨p.1, p.2, rfl, rfl⟩
  -- what stands ahead of valueOf
  have WX : Hid (∀ w4 w5 w7 x, (Below w3.heap.size w3 w4 ∧ 0 < N.length ∧ ∃ f d F D, Xb w4 x f d A c N F D ∧ Known N F D N.length ∧ (w3.heap.size ≤ x ∧ w3.heap.size ≤ f ∧ w3.heap.size ≤ d)) → w4.alloc (.cells #[.pointer (some ⟨x, 0, none⟩), .int .i64 (la : Nat)] 43) = w5 → VB ((w5.setCell ⟨w.heap.size + 1, 0, none⟩ (.int .i64 (av : Nat))).setCell ⟨w.heap.size + 1 + 1, 0, none⟩ (.int .i64 0)) w.heap.size 0 0 ⟨#[]⟩ av 0 ∧ Below w3.heap.size w3 w5 ∧ Below w.heap.size w5 ((w5.setCell ⟨w.heap.size + 1, 0, none⟩ (.int .i64 (av : Nat))).setCell ⟨w.heap.size + 1 + 1, 0, none⟩ (.int .i64 0)) →
      Below ((w5.setCell ⟨w.heap.size + 1, 0, none⟩ (.int .i64 (av : Nat))).setCell ⟨w.heap.size + 1 + 1, 0, none⟩ (.int .i64 0)).heap.size ((w5.setCell ⟨w.heap.size + 1, 0, none⟩ (.int .i64 (av : Nat))).setCell ⟨w.heap.size + 1 + 1, 0, none⟩ (.int .i64 0)) w7 →
      (w7.cell? ⟨w4.heap.size, 0, none⟩ = some (.pointer (some ⟨x, 0, none⟩)) ∧ w7.cell? ⟨w4.heap.size, 1, none⟩ = some (.int .i64 (la : Nat))) ∧ Hid (VB w7 w.heap.size 0 0 ⟨#[]⟩ av 0 ∧ Below w.heap.size w w7) ∧ Hid (Calls Tryd.prog 17 #[.agg #[.pointer (some ⟨x, 0, none⟩), .int .i64 (la : Nat)], .int .i64 k] w7 fun e w' => e = endV la k (resAt N la) ∧ Below w7.heap.size w7 w')) := by
    rintro w4 w5 w7 x ⟨h4, hpos, f, d, F, D, hX4, hKn, hg1, hg2, hg3⟩ hw5 ⟨V6, h35, h56⟩ hb7
    have hb5 : Below w4.heap.size w4 w5 := by rw [← hw5]; exact (Below.refl _ w4).alloc (Nat.le_refl _) _
    have n5 : CB w5 w4.heap.size 43 #[.pointer (some ⟨x, 0, none⟩), .int .i64 (la : Nat)] := by rw [← hw5]; exact CB.new w4 _ _
    have hl3 := V3.e.len
    have hs4 := h4.size
    have hs5 := hb5.size
    -- the two stores leave all other blocks
    have t2 : Turned (w.heap.size + 1) w5 (w5.setCell ⟨w.heap.size + 1, 0, none⟩ (.int .i64 (av : Nat))) := (Turned.refl _ w5).setCell 0 _
    have t3 : Turned (w.heap.size + 1 + 1) (w5.setCell ⟨w.heap.size + 1, 0, none⟩ (.int .i64 (av : Nat))) ((w5.setCell ⟨w.heap.size + 1, 0, none⟩ (.int .i64 (av : Nat))).setCell ⟨w.heap.size + 1 + 1, 0, none⟩ (.int .i64 0)) := (Turned.refl _ _).setCell 0 _
    generalize w5.setCell ⟨w.heap.size + 1, 0, none⟩ (.int .i64 (av : Nat)) = Y at *
    generalize Y.setCell ⟨w.heap.size + 1 + 1, 0, none⟩ (.int .i64 0) = w6 at *
    have oth : ∀ b, b ≠ w.heap.size + 1 → b ≠ w.heap.size + 1 + 1 → w6.heap[b]? = w5.heap[b]? := fun b g1 g2 => (t3.others b g2).trans (t2.others b g1)
    have hs6 : w5.heap.size ≤ w6.heap.size := h56.size
    have X6 : Xb w6 x f d A c N F D := (hX4.below hb5).keep (oth x (by omega) (by omega)) (oth f (by omega) (by omega)) (oth d (by omega) (by omega))
    have n6 : CB w6 w4.heap.size 43 #[.pointer (some ⟨x, 0, none⟩), .int .i64 (la : Nat)] := n5.keep (oth _ (by omega) (by omega))
    have b06 : Below w.heap.size w w6 := (b3.trans (h35.mono b3.size)).trans h56
    have b07 : Below w.heap.size w w7 := b06.trans (hb7.mono b06.size)
    have n7 := n6.below hb7
    have E7 : Ex w7 x f d A c N F D := ⟨X6.below hb7, (hR.below b07).more b07.size, hKn, hF.few, hF.num⟩
    exact ⟨⟨n7.at_ 0, n7.at_ 1⟩, ⟨V6.below hb7, b07⟩, VO.out w7 x (hK.then_ b07).self hpos ⟨f, d, F, D, E7⟩⟩
  clear cr hR hR3 hF hav hla hgood V3 hk hK b3 hval VO
  rcases END0 with ⟨za, ze, he, hv⟩ | ⟨vn, vs, he, hv⟩
  · rw [he] at WX
    rw [hv]
    clear he hv hn
    go_enter_defers Tryd.func8, Tryd.ntmps8
    go_wp2_with (first
      | (go_at_call 15; refine CR.out.mono ?_; rintro e w4 ⟨x, rfl, H4⟩; obtain ⟨w5, hw5, V5, ⟨z0, z1⟩, hlt, V6⟩ := RX.out w4 H4.out.1 (some ⟨x, 0, none⟩) la; obtain ⟨⟨c0, c1, c2⟩, ⟨c3, c4⟩, ⟨y0, y1, y2⟩, ⟨y3, y4⟩⟩ := V5.out.cells)
      | (go_at_call 16; refine (IK.out _).mono ?_; rintro e w7 ⟨rfl, hb7⟩; obtain ⟨⟨u0, u1⟩, V7, CV⟩ := WX.out w4 w5 w7 x H4.out hw5 V6.out hb7)
      | (go_at_call 17; refine CV.out.mono ?_; rintro e w8 ⟨rfl, hb8⟩)
      | fail)
    have V8 := V7.out.1.below hb8
    have b8 : Below w.heap.size w w8 := V7.out.2.trans (hb8.mono V7.out.2.size)
    refine leaves_cons (f := 14) (args := #[.pointer (some ⟨w.heap.size, 0, none⟩), .pointer (some ⟨w.heap.size + 1, 0, none⟩), .pointer (some ⟨w.heap.size + 1 + 1, 0, none⟩)]) (by simp) (by simp [go_sem]) ?_
    refine (catch_fault V8 za ze).mono ?_
    rintro e u' w'' ⟨rfl, rfl, H9⟩
    exact ⟨_, results_vb H9.out.1 _ rfl rfl rfl, rfl, b8.trans H9.out.2⟩
  · obtain ⟨S, hS⟩ : ∃ S, str vs = S := ⟨_, rfl⟩
    rw [hS] at he
    rw [he] at WX
    have hve : vaEnd (valV N k) = .returned (.tuple #[.agg #[.int .i64 k, .int .u64 (vn : Nat), .string S], .int .i64 0, .int .i64 0]) := by rw [hv, ← hS]; rfl
    rw [hve]
    clear he hv hve hn hS
    go_enter_defers Tryd.func8, Tryd.ntmps8
    go_wp2_with (first
      | (go_at_call 15; refine CR.out.mono ?_; rintro e w4 ⟨x, rfl, H4⟩; obtain ⟨w5, hw5, V5, ⟨z0, z1⟩, hlt, V6⟩ := RX.out w4 H4.out.1 (some ⟨x, 0, none⟩) la; obtain ⟨⟨c0, c1, c2⟩, ⟨c3, c4⟩, ⟨y0, y1, y2⟩, ⟨y3, y4⟩⟩ := V5.out.cells)
      | (go_at_call 16; refine (IK.out _).mono ?_; rintro e w7 ⟨rfl, hb7⟩; obtain ⟨⟨u0, u1⟩, V7, CV⟩ := WX.out w4 w5 w7 x H4.out hw5 V6.out hb7)
      | (go_at_call 17; refine CV.out.mono ?_; rintro e w8 ⟨rfl, hb8⟩; have V8 := Lib.hid (V7.out.1.below hb8); obtain ⟨⟨b0, b1, b2⟩, ⟨b3, b4⟩, ⟨x0, x1, x2⟩, ⟨x3, x4⟩⟩ := V8.out.cells)
      | fail)
    have b8 : Below w.heap.size w w8 := V7.out.2.trans (hb8.mono V7.out.2.size)
    have END := V8.out.store k vn S 0 0 (B := w.heap.size) (Nat.le_refl _)
    refine leaves_cons (f := 14) (args := #[.pointer (some ⟨w.heap.size, 0, none⟩), .pointer (some ⟨w.heap.size + 1, 0, none⟩), .pointer (some ⟨w.heap.size + 1 + 1, 0, none⟩)]) (by simp) (by simp [go_sem]) ?_
    refine (catch_idle _ _ _ _).mono ?_
    rintro e u' w'' ⟨rfl, rfl, rfl⟩
    exact ⟨_, results_vb END.1 _ rfl rfl rfl, rfl, b8.trans END.2⟩
/-- Value, whatever the nodes and the kind -/
theorem value_any {w : World} {A : Option Addr} {c : Nat} {N : List Rn} {k : Int} (hK : KSt w w) (hR : RN w w.heap.size A N) (hF : Few N) :
    Calls Tryd.prog 8 #[.slice A N.length c, .int .i64 k] w fun e w' => e = vaEnd (valV N k) ∧ Below w.heap.size w w' := by
  by_cases hb : (chkP N).2 = 0
  · by_cases hk : 1 ≤ k ∧ k ≤ 5
    · exact value_kind hK hR hF hb hk
    · have : valV N k = noneV N.length 1 := by unfold valV; rw [if_neg (by omega), if_pos (by omega)]
      rw [this]
      exact value_nokind hK hR hF hb hk
  · have : valV N k = noneV (chkP N).1 (chkP N).2 := by unfold valV; rw [if_pos hb]
    rw [this]
    exact value_bad hR hF hb
end Go.Proofs.YtmbiompmhaiehaaDoor
