/- The walk of RollExact. -/
import Derived.Test.YtgdeeojamnbakaaRollMemory
import Derived.StillTailTactics
namespace Go.Proofs.Ytgdeeojamnbakaa
open Go.RowKit

theorem place_is (i : Int) : ∃ k : Nat, k < 3 ∧ Ending.returned (.int .i64 (wrap64 ((IntKind.u64.wrap i).tmod 3))) = .returned (.int .i64 k) := by
  have h0 : 0 ≤ IntKind.u64.wrap i := by simp only [IntKind.wrap, IntKind.bits, IntKind.signed]; simp; omega
  generalize IntKind.u64.wrap i = x at h0
  have h1 : x.tmod 3 = x % 3 := Int.tmod_eq_emod_of_nonneg h0
  have h2 : 0 ≤ x % 3 := by omega
  have h3 : x % 3 < 3 := by omega
  rw [h1, IntWalk.wrap64_in _ ⟨by omega, by omega⟩]
  exact ⟨(x % 3).toNat, by omega, ret_int (by omega)⟩

set_option maxHeartbeats 400000 in
theorem place_any (i : Int) (w : World) : Calls Try.prog 11 #[.int .i64 i] w fun e w' => (∃ k : Nat, k < 3 ∧ e = .returned (.int .i64 k)) ∧ w = w' := by
  go_enter Try.func11, Try.ntmps11
  go_wp2
  go_ret
  exact ⟨place_is i, rfl⟩

/-- What a book, or none, and the reference's answer alike. -/
def Asks (w : World) (bv rv : Value) (es : List Ent) (op : Int → Bool) : Prop :=
  (∀ W, Below w.heap.size w W → Calls Try.prog 14 #[bv] W (Clones 40 es.length (flat es) W)) ∧ AllIs rv es w ∧
  (∀ W f, Below w.heap.size w W → Calls Try.prog 16 #[bv, .int .i64 f] W fun e w' => e = .returned (.bool (op f)) ∧ W = w') ∧
  (∀ W f, Below w.heap.size w W → Calls Try.prog 17 #[rv, .int .i64 f] W fun e w' => e = .returned (.bool (op f)) ∧ W = w') ∧
  (∀ W f, Below w.heap.size w W → Calls Try.prog 18 #[bv, .int .i64 f] W fun e w' => e = .returned (.int .i64 (cnt f es)) ∧ Below W.heap.size W w')

theorem Asks.below {w W : World} {bv rv : Value} {es : List Ent} {op : Int → Bool} (h : Asks w bv rv es op) (hB : Below w.heap.size w W) : Asks W bv rv es op :=
  ⟨fun W' h' => h.1 W' (Below.both hB h'), ⟨h.2.1.1, fun W' h' => h.2.1.2 W' (Below.both hB h')⟩, fun W' f h' => h.2.2.1 W' f (Below.both hB h'), fun W' f h' => h.2.2.2.1 W' f (Below.both hB h'), fun W' f h' => h.2.2.2.2 W' f (Below.both hB h')⟩

theorem Side.asks {w : World} {bv rv : Value} {F : List Nat} (h : Side w bv rv F) : ∃ es op, Asks w bv rv es op := by
  rcases h with ⟨rfl, rfl, rfl⟩ | ⟨b, r, S, T, es, cl, rfl, rfl, hb, hr, hd, rfl⟩
  · refine ⟨[], fun _ => false, fun W _ => ?_, AllIs.nil w, fun W f _ => open_nil f W, fun W f _ => ropen_nil f W, fun W f _ => ?_⟩
    · refine (all_nil W).mono ?_
      rintro e w' ⟨rfl, rfl⟩
      exact ⟨_, rfl, World.ownsRow_nil _ _ _ _, Below.refl _ _⟩
    · refine (count_nil f W).mono ?_
      rintro e w' ⟨rfl, rfl⟩
      exact ⟨rfl, Below.refl _ _⟩
  · exact ⟨es, openF cl, fun W hB => all_any (hb.below hB), AllIs.of hr, fun W f hB => open_any (hb.below hB) f, fun W f hB => ropen_any (hr.below hB) f, fun W f hB => count_any (hb.below hB) f⟩

/-- Two pairs of books and none, and the two rows that hold their addresses. -/
def pick3 (x0 x1 : Value) : Nat → Value
  | 0 => x0
  | 1 => x1
  | _ => .pointer none

def ExInv (w : World) (h q : Nat) (b0 b1 r0 r1 : Value) (wr : World) : Prop :=
  ∃ F0 F1, Side wr b0 r0 F0 ∧ Side wr b1 r1 F1 ∧ (∀ k ∈ F0, k ∉ F1) ∧ (∀ k ∈ F0 ++ F1, w.heap.size ≤ k ∧ k ≠ h ∧ k ≠ q) ∧
    wr.heap[h]? = some (.cells #[b0, b1, .pointer none] 26 (0, 0)) ∧ wr.heap[q]? = some (.cells #[r0, r1, .pointer none] 29 (0, 0)) ∧ Below w.heap.size w wr

theorem ExInv.below {w wr w' : World} {h q : Nat} {b0 b1 r0 r1 : Value} (hi : ExInv w h q b0 b1 r0 r1 wr) (hB : Below wr.heap.size wr w') : ExInv w h q b0 b1 r0 r1 w' := by
  obtain ⟨F0, F1, s0, s1, hd, hF, hh, hq, hw⟩ := hi
  exact ⟨F0, F1, s0.below hB, s1.below hB, hd, hF, (hB.block h (lt_of_block hh)).trans hh, (hB.block q (lt_of_block hq)).trans hq, hw.trans (hB.mono hw.size)⟩

theorem ExInv.cells {w wr : World} {h q : Nat} {b0 b1 r0 r1 : Value} (hi : ExInv w h q b0 b1 r0 r1 wr) (k : Nat) (hk : k < 3) :
    wr.cell? ⟨h, k, none⟩ = some (pick3 b0 b1 k) ∧ wr.cell? ⟨q, k, none⟩ = some (pick3 r0 r1 k) ∧ h < wr.heap.size ∧ q < wr.heap.size := by
  obtain ⟨F0, F1, s0, s1, hd, hF, hh, hq, hw⟩ := hi
  refine ⟨cell_in hh k ?_, cell_in hq k ?_, lt_of_block hh, lt_of_block hq⟩
  · match k, hk with
    | 0, _ => rfl
    | 1, _ => rfl
    | 2, _ => rfl
  · match k, hk with
    | 0, _ => rfl
    | 1, _ => rfl
    | 2, _ => rfl

theorem ExInv.outer {w wr : World} {h q : Nat} {b0 b1 r0 r1 : Value} (hi : ExInv w h q b0 b1 r0 r1 wr) : Below w.heap.size w wr := by
  obtain ⟨F0, F1, s0, s1, hd, hF, hh, hq, hw⟩ := hi
  exact hw

theorem only_outer {w wr w' : World} {F : List Nat} (hw : Below w.heap.size w wr) (ho : Only F wr w') (hF : ∀ k ∈ F, w.heap.size ≤ k) : Below w.heap.size w w' :=
  hw.trans ⟨ho.os, ho.tape, ho.output, ho.size, fun k hk => ho.block k (by have := hw.size; omega) (fun hm => by have := hF k hm; omega)⟩

/-- One of the three pairs, and what a call on it leaves of all. -/
theorem ExInv.pair {w wr : World} {h q : Nat} {b0 b1 r0 r1 : Value} (hi : ExInv w h q b0 b1 r0 r1 wr) (k : Nat) (hk : k < 3) :
    ∃ F, Side wr (pick3 b0 b1 k) (pick3 r0 r1 k) F ∧ ∀ e w', Rights (pick3 b0 b1 k) (pick3 r0 r1 k) F wr e w' → ExInv w h q b0 b1 r0 r1 w' := by
  obtain ⟨F0, F1, s0, s1, hd, hF, hh, hq, hw⟩ := hi
  have hz := hw.size
  have hF0 : ∀ k ∈ F0, w.heap.size ≤ k ∧ k ≠ h ∧ k ≠ q := fun k hk => hF k (List.mem_append_left _ hk)
  have hF1 : ∀ k ∈ F1, w.heap.size ≤ k ∧ k ≠ h ∧ k ≠ q := fun k hk => hF k (List.mem_append_right _ hk)
  have hhl := lt_of_block hh
  have hql := lt_of_block hq
  match k, hk with
  | 0, _ =>
    refine ⟨F0, s0, fun e w' ⟨_, F', s', ho, hm⟩ => ⟨F', F1, s', s1.kept (fun k hk => ho.block k (s1.mem k hk) (fun h0 => hd k h0 hk)), fun k hk hk1 => ?_, fun k hk => ?_, ?_, ?_, only_outer hw ho (fun k hk => (hF0 k hk).1)⟩⟩
    · rcases hm k hk with h | h
      · exact hd k h hk1
      · have := s1.mem k hk1; omega
    · rcases List.mem_append.1 hk with hk | hk
      · rcases hm k hk with h | h
        · exact hF0 k h
        · exact ⟨by omega, by omega, by omega⟩
      · exact hF1 k hk
    · exact (ho.block h hhl (fun h0 => (hF0 h h0).2.1 rfl)).trans hh
    · exact (ho.block q hql (fun h0 => (hF0 q h0).2.2 rfl)).trans hq
  | 1, _ =>
    refine ⟨F1, s1, fun e w' ⟨_, F', s', ho, hm⟩ => ⟨F0, F', s0.kept (fun k hk => ho.block k (s0.mem k hk) (fun h0 => hd k hk h0)), s', fun k hk hk1 => ?_, fun k hk => ?_, ?_, ?_, only_outer hw ho (fun k hk => (hF1 k hk).1)⟩⟩
    · rcases hm k hk1 with h | h
      · exact hd k hk h
      · have := s0.mem k hk; omega
    · rcases List.mem_append.1 hk with hk | hk
      · exact hF0 k hk
      · rcases hm k hk with h | h
        · exact hF1 k h
        · exact ⟨by omega, by omega, by omega⟩
    · exact (ho.block h hhl (fun h0 => (hF1 h h0).2.1 rfl)).trans hh
    · exact (ho.block q hql (fun h0 => (hF1 q h0).2.2 rfl)).trans hq
  | 2, _ =>
    refine ⟨[], .inl ⟨rfl, rfl, rfl⟩, fun e w' ⟨_, F', s', ho, hm⟩ => ?_⟩
    exact ExInv.below ⟨F0, F1, s0, s1, hd, hF, hh, hq, hw⟩ ho.below

theorem Rights.drawn {bv rv : Value} {F : List Nat} {w w' : World} {n : Nat} {e : Ending} (h : Rights bv rv F (w.drewN n) e w') : Rights bv rv F w e w' := by
  obtain ⟨h, F', s, o, m⟩ := h
  exact ⟨h, F', s, ⟨o.os, o.tape, o.output, o.size, o.block⟩, m⟩

set_option maxRecDepth 100000 in
set_option maxHeartbeats 8000000 in
theorem exact_any (ao : Option Addr) (cap : Nat) (l : List Rec) (w : World) (hs : Script w ao l) :
    Calls Try.prog 3 #[.slice ao l.length cap] w fun e w' => e = .returned (.bool true) ∧ Below w.heap.size w w' := by
  have hl := hs.1
  unfold maxLen at hl
  have HS := Lib.hid hs
  clear hs
  go_enter Try.func3, Try.ntmps3
  go_wp2_with fail
  refine (awake_any _).mono ?_
  rintro e w0 ⟨rfl, hB0⟩
  go_wp2_with fail
  refine (new_any _).mono ?_
  rintro e w1 ⟨rfl, hk1, hB1⟩
  have HK1 := Lib.hid hk1
  have t0 := hB0.size
  have t1 := hk1.mem w0.heap.size (by simp)
  obtain ⟨p0, hp0⟩ : ∃ p0, p0 = w0.heap.size := ⟨_, rfl⟩
  have H01 := Lib.hid (hB0.trans (hB1.mono hB0.size))
  rw [← hp0] at HK1 t0 t1
  rw [← hp0]
  clear hk1 hp0 hB0 hB1
  go_wp2_with fail
  refine (new_any _).mono ?_
  rintro e w2 ⟨rfl, hk2, hB2⟩
  have HK2 := Lib.hid hk2
  have HK1b := Lib.hid (HK1.out.below hB2)
  have t2 := hk2.mem w1.heap.size (by simp)
  have t3 := hB2.size
  have H02 := Lib.hid (H01.out.trans (hB2.mono (by omega)))
  obtain ⟨p1, hp1⟩ : ∃ p1, p1 = w1.heap.size := ⟨_, rfl⟩
  rw [← hp1] at HK2 t1 t2 t3
  rw [← hp1]
  clear hk2 hp1 hB2 HK1 H01
  go_wp2_with fail
  obtain ⟨h, hh⟩ : ∃ h, h = w2.heap.size := ⟨_, rfl⟩
  obtain ⟨W2, hW2⟩ : ∃ W2, W2 = w2.alloc (.cells #[.pointer (some ⟨p0, 0, none⟩), .pointer (some ⟨p1, 0, none⟩), .pointer none] 26) := ⟨_, rfl⟩
  have hB := below_alloc w2 (.cells #[.pointer (some ⟨p0, 0, none⟩), .pointer (some ⟨p1, 0, none⟩), .pointer none] 26)
  have hHH := heap_alloc_new w2 (.cells #[.pointer (some ⟨p0, 0, none⟩), .pointer (some ⟨p1, 0, none⟩), .pointer none] 26)
  rw [← hW2] at hB hHH
  have HKA := Lib.hid (HK1b.out.below hB)
  have HKB := Lib.hid (HK2.out.below hB)
  have H0W := Lib.hid (H02.out.trans (hB.mono (by omega)))
  rw [← hh] at hHH t2 t3
  have HHH := Lib.hid hHH
  have t4 := lt_of_block hHH
  rw [← hW2, ← hh]
  clear hW2 hh hB hHH HK1b HK2 H02
  refine (rnew_any _).mono ?_
  rintro e w3 ⟨rfl, hk3, hB3⟩
  have HK3 := Lib.hid hk3
  have t5 := hk3.mem W2.heap.size (by simp)
  have HKA3 := Lib.hid (HKA.out.below hB3)
  have HKB3 := Lib.hid (HKB.out.below hB3)
  have HHH3 := Lib.hid ((hB3.block h t4).trans HHH.out)
  have H03 := Lib.hid (H0W.out.trans (hB3.mono (by omega)))
  obtain ⟨r0, hr0⟩ : ∃ r0, r0 = W2.heap.size := ⟨_, rfl⟩
  rw [← hr0] at HK3 t4 t5
  rw [← hr0]
  clear hk3 hr0 hB3 HKA HKB HHH H0W
  go_wp2_with fail
  refine (rnew_any _).mono ?_
  rintro e w4 ⟨rfl, hk4, hB4⟩
  have HK4 := Lib.hid hk4
  have t6 := hk4.mem w3.heap.size (by simp)
  have HKA4 := Lib.hid (HKA3.out.below hB4)
  have HKB4 := Lib.hid (HKB3.out.below hB4)
  have HKC4 := Lib.hid (HK3.out.below hB4)
  have HHH4 := Lib.hid ((hB4.block h (by omega)).trans HHH3.out)
  have H04 := Lib.hid (H03.out.trans (hB4.mono (by omega)))
  obtain ⟨r1, hr1⟩ : ∃ r1, r1 = w3.heap.size := ⟨_, rfl⟩
  rw [← hr1] at HK4 t5 t6
  rw [← hr1]
  clear hk4 hr1 hB4 HKA3 HKB3 HK3 HHH3 H03
  have hc0 : w4.cell? ⟨h, 0, none⟩ = some (.pointer (some ⟨p0, 0, none⟩)) := cell_in HHH4.out 0 rfl
  have hc1 : w4.cell? ⟨h, 1, none⟩ = some (.pointer (some ⟨p1, 0, none⟩)) := cell_in HHH4.out 1 rfl
  have hc5 : h < w4.heap.size := by omega
  go_wp2_with fail
  obtain ⟨q, hq⟩ : ∃ q, q = w4.heap.size := ⟨_, rfl⟩
  obtain ⟨w5, hw5⟩ : ∃ w5, w5 = w4.alloc (.cells #[.pointer (some ⟨r0, 0, none⟩), .pointer (some ⟨r1, 0, none⟩), .pointer none] 29) := ⟨_, rfl⟩
  have hB5 := below_alloc w4 (.cells #[.pointer (some ⟨r0, 0, none⟩), .pointer (some ⟨r1, 0, none⟩), .pointer none] 29)
  have hQ5 := heap_alloc_new w4 (.cells #[.pointer (some ⟨r0, 0, none⟩), .pointer (some ⟨r1, 0, none⟩), .pointer none] 29)
  rw [← hw5] at hB5 hQ5
  rw [← hq] at hQ5 t6 hc5
  have HE := Lib.hid (show ExInv w h q (.pointer (some ⟨p0, 0, none⟩)) (.pointer (some ⟨p1, 0, none⟩)) (.pointer (some ⟨r0, 0, none⟩)) (.pointer (some ⟨r1, 0, none⟩)) w5 from
    ⟨[p0] ++ [r0], [p1] ++ [r1], .inr ⟨p0, r0, [p0], [r0], [], _, rfl, rfl, HKA4.out.below hB5, HKC4.out.below hB5, fun k h1 h2 => by simp at h1 h2; omega, rfl⟩, .inr ⟨p1, r1, [p1], [r1], [], _, rfl, rfl, HKB4.out.below hB5, HK4.out.below hB5, fun k h1 h2 => by simp at h1 h2; omega, rfl⟩,
      fun k h1 h2 => by simp at h1 h2; omega, fun k hk => by simp at hk; omega, (hB5.block h (by omega)).trans HHH4.out, hQ5, H04.out.trans (hB5.mono (by omega))⟩)
  rw [← hw5, ← hq]
  clear hw5 hq hB5 hQ5 HKA4 HKB4 HKC4 HK4 HHH4 H04 hc0 hc1 hc5 t0 t1 t2 t3 t4 t5 t6
  go_loopw [5] (fun i wr => ∃ k : Nat, k ≤ l.length ∧ i = .int .i64 k ∧ Hid (ExInv w h q (.pointer (some ⟨p0, 0, none⟩)) (.pointer (some ⟨p1, 0, none⟩)) (.pointer (some ⟨r0, 0, none⟩)) (.pointer (some ⟨r1, 0, none⟩)) wr)) (fun i _ => l.length - (intOf i).toNat)
  case atStart => exact ⟨0, Nat.zero_le _, rfl, HE⟩
  case round =>
    obtain ⟨k, hk, rfl, HI⟩ := hrel
    clear HE
    by_cases hlt : k < l.length
    · obtain ⟨g, off, rfl, hg, h0, h1, h2, h3, h4, hnm⟩ := (HS.out.below HI.out.outer).2 k l[k] (by simp)
      have hkl : (k : Int) < (l.length : Int) := by omega
      have hk0 : (0 : Int) ≤ (k : Int) := by omega
      go_wp2_with fail
      refine (place_any _ _).mono ?_
      rintro e w6 ⟨⟨j, hj, rfl⟩, rfl⟩
      obtain ⟨c0, c1, c2, c3⟩ := HI.out.cells j hj
      have hj0 : (0 : Int) ≤ (j : Int) := by omega
      have hj3 : (j : Int) < 3 := by omega
      obtain ⟨F, hsd, hback⟩ := HI.out.pair j hj
      have HSD := Lib.hid (hsd.below (Below.drewN' wr 1))
      have HBK := Lib.hid hback
      clear hsd hback
      generalize pick3 (.pointer (some ⟨p0, 0, none⟩)) (.pointer (some ⟨p1, 0, none⟩)) j = bv at *
      generalize pick3 (.pointer (some ⟨r0, 0, none⟩)) (.pointer (some ⟨r1, 0, none⟩)) j = rv at *
      go_wp2_with fail
      go_still_tail 10, (by kernel_rfl)
      go_wp2_with fail
      refine (right_any HSD.out l[k] hnm).mono ?_
      intro e w7 hrt
      have HE7 := Lib.hid (HBK.out e w7 hrt.drawn)
      obtain ⟨rfl, _⟩ := hrt
      clear HBK HSD c0 c1 c2 c3 h0 h1 h2 h3 h4
      go_wp2_with fail
      go_roundw
      case rel => exact ⟨k + 1, by omega, by go_num, HE7⟩
      case measure => simp [intOf]; omega
    · go_wp2_with fail
      go_loopw [7] (fun i wr => ∃ j : Nat, j ≤ 3 ∧ i = .int .i64 j ∧ Hid (ExInv w h q (.pointer (some ⟨p0, 0, none⟩)) (.pointer (some ⟨p1, 0, none⟩)) (.pointer (some ⟨r0, 0, none⟩)) (.pointer (some ⟨r1, 0, none⟩)) wr)) (fun i _ => 3 - (intOf i).toNat)
      case atStart => exact ⟨0, by omega, rfl, HI⟩
      case round =>
        obtain ⟨j, hj, rfl, HJ⟩ := hrel
        clear HI
        by_cases hj3 : j < 3
        · obtain ⟨c0, c1, c2, c3⟩ := HJ.out.cells j hj3
          have hji : (j : Int) < 3 := by omega
          have hj0 : (0 : Int) ≤ (j : Int) := by omega
          obtain ⟨F, hsd, _⟩ := HJ.out.pair j hj3
          obtain ⟨es, op, has⟩ := hsd.asks
          have HA1 := Lib.hid (has.below (Below.drewN' wr 1))
          clear hsd has
          generalize hbv : pick3 (.pointer (some ⟨p0, 0, none⟩)) (.pointer (some ⟨p1, 0, none⟩)) j = bv at c0 HA1
          generalize hrv : pick3 (.pointer (some ⟨r0, 0, none⟩)) (.pointer (some ⟨r1, 0, none⟩)) j = rv at c1 HA1
          have HBV := Lib.hid (And.intro hbv hrv)
          clear hbv hrv
          go_wp2_with fail
          go_region_held3 (fun w' => w'.cell? ⟨h, j, none⟩ = some bv ∧ w'.cell? ⟨q, j, none⟩ = some rv)
            (first | go_keep | exact ⟨keep_cell h3 (Nat.lt_of_lt_of_le c2 (Nat.le_trans h1.size h2.size)) (keep_cell h2 (Nat.lt_of_lt_of_le c2 h1.size) (keep_cell h1 c2 c0)), keep_cell h3 (Nat.lt_of_lt_of_le c3 (Nat.le_trans h1.size h2.size)) (keep_cell h2 (Nat.lt_of_lt_of_le c3 h1.size) (keep_cell h1 c3 c1))⟩ | exact ⟨keep_cell h2 (Nat.lt_of_lt_of_le c2 h1.size) (keep_cell h1 c2 c0), keep_cell h2 (Nat.lt_of_lt_of_le c3 h1.size) (keep_cell h1 c3 c1)⟩ | exact ⟨keep_cell h1 c2 c0, keep_cell h1 c3 c1⟩)
            ((first | (go_at_call 14; refine (HA1.out.1 _ (Below.refl _ _)).mono ?_; rintro e w1 ⟨v1, rfl, hv1, h1⟩) | (go_at_call 15; refine (HA1.out.2.1.2 _ h1).mono ?_; rintro e w2 ⟨v2, rfl, hv2, h2⟩) | (go_at_call 13; refine (same_true (rows_kept hv1 (fun g hg => h2.block g (hv1.lt _ hg).2)) hv2).mono ?_; rintro e w3 ⟨rfl, h3⟩)))
          have hB4 := Below.both (Below.drewN' wr 1) (Below.both h1 (Below.both h2 h3))
          have HP := Lib.hid (And.intro (HJ.out.below hB4) (HA1.out.below (Below.both h1 (Below.both h2 h3))))
          clear h1 h2 h3 hv1 hv2 hB4 HJ HA1 c0 c1 c2 c3
          go_wp2_with fail
          go_loopw [8] (fun i wr => ∃ f : Nat, f ≤ 7 ∧ i = .int .i64 f ∧ Hid (ExInv w h q (.pointer (some ⟨p0, 0, none⟩)) (.pointer (some ⟨p1, 0, none⟩)) (.pointer (some ⟨r0, 0, none⟩)) (.pointer (some ⟨r1, 0, none⟩)) wr ∧ Asks wr bv rv es op)) (fun i _ => 7 - (intOf i).toNat)
          case atStart => exact ⟨0, by omega, rfl, HP⟩
          case round =>
            obtain ⟨f, hf, rfl, HQ⟩ := hrel
            clear HP
            by_cases hf7 : f < 7
            · obtain ⟨c0, c1, c2, c3⟩ := HQ.out.1.cells j hj3
              rw [HBV.out.1] at c0
              rw [HBV.out.2] at c1
              have HA1 := Lib.hid (HQ.out.2.below (Below.drewN' _ 1))
              go_wp2_with fail
              go_region_held3 (fun w' => w'.cell? ⟨h, j, none⟩ = some bv ∧ w'.cell? ⟨q, j, none⟩ = some rv)
                (first | go_keep | exact ⟨keep_cell h2 (Nat.lt_of_lt_of_le c2 h1.size) (keep_cell h1 c2 c0), keep_cell h2 (Nat.lt_of_lt_of_le c3 h1.size) (keep_cell h1 c3 c1)⟩ | exact ⟨keep_cell h1 c2 c0, keep_cell h1 c3 c1⟩)
                ((first | (go_at_call 16; refine (HA1.out.2.2.1 _ _ (Below.refl _ _)).mono ?_; rintro e w1 ⟨rfl, rfl⟩) | (go_at_call 17; refine (HA1.out.2.2.2.1 _ _ (Below.refl _ _)).mono ?_; rintro e w1 ⟨rfl, rfl⟩) | (go_at_call 18; refine (HA1.out.2.2.2.2 _ _ (Below.refl _ _)).mono ?_; rintro e w1 ⟨rfl, h1⟩) | (go_at_call 19; refine (rcount_any (HA1.out.below h1).2.1 _).mono ?_; rintro e w2 ⟨rfl, h2⟩)))
              have HQ4 := Lib.hid (And.intro (HQ.out.1.below (Below.both (Below.drewN' _ 1) (Below.both h1 h2))) (HA1.out.below (Below.both h1 h2)))
              clear h1 h2 HQ HA1 c0 c1 c2 c3
              go_wp2_with fail
              go_roundw
              case rel => exact ⟨f + 1, by omega, by go_num, HQ4⟩
              case measure => simp [intOf]; omega
            · obtain rfl : f = 7 := by omega
              go_wp2_with fail
              go_roundw
              case rel => exact ⟨j + 1, by omega, by go_num, HQ.out.1⟩
              case measure => simp [intOf]; omega
        · obtain rfl : j = 3 := by omega
          go_wp2_with fail
          go_ret
          exact ⟨rfl, HJ.out.outer⟩

end Go.Proofs.Ytgdeeojamnbakaa
