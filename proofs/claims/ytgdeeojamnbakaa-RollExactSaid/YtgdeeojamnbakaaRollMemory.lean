/- The walk of RollMemory. -/
import Derived.Test.YtgdeeojamnbakaaRollRight
namespace Go.Proofs.Ytgdeeojamnbakaa
open Go.RowKit

/-- Both books stand, the row vy reads as the entries, the row vg is the call's own and apart from all these. -/
def MemInv (w : World) (b r : Nat) (es : List Ent) (vy vg : Value) (m : Nat) (wr : World) : Prop :=
  ∃ S T cl, Book wr b S es cl ∧ RBook wr r T es cl ∧ (∀ k ∈ S, k ∉ T) ∧ (∀ k ∈ S ++ T, w.heap.size ≤ k) ∧ wr.ownsRow 0 40 4 vy es.length (flat es) ∧ (∀ g, vy.ownBlock = some g → w.heap.size ≤ g) ∧
    (∃ xs, wr.ownsRow 0 40 4 vg m xs) ∧ (∀ g, vg.ownBlock = some g → w.heap.size ≤ g ∧ g ∉ S ∧ g ∉ T ∧ vy.ownBlock ≠ some g) ∧ Below w.heap.size w wr

theorem MemInv.below {w wr w' : World} {b r : Nat} {es : List Ent} {vy vg : Value} {m : Nat} (h : MemInv w b r es vy vg m wr) (hB : Below wr.heap.size wr w') : MemInv w b r es vy vg m w' := by
  obtain ⟨S, T, cl, hb, hr, hd, hs, hy, hy2, ⟨xs, hx⟩, hg, hw⟩ := h
  exact ⟨S, T, cl, hb.below hB, hr.below hB, hd, hs, rows_kept hy (fun g hg => hB.block g (hy.lt _ hg).2), hy2, ⟨xs, rows_kept hx (fun g hg => hB.block g (hx.lt _ hg).2)⟩, hg, hw.trans (hB.mono hw.size)⟩

theorem own_set {w : World} {t : TypeId} {g n cap i : Nat} {xs : List Value} (u : Value) (h : w.ownsRow 0 t 4 (.slice (some ⟨g, 0, none⟩) n cap) n xs) :
    ∃ xs', (w.setCell ⟨g, i, none⟩ u).ownsRow 0 t 4 (.slice (some ⟨g, 0, none⟩) n cap) n xs' := by
  rcases h.2 with ⟨h, _⟩ | ⟨g', cap', cur, hv, hb, hg, hn, hm, hs, ht⟩
  · cases h
  · simp only [Value.slice.injEq, Option.some.injEq, Addr.mk.injEq, true_and, and_true] at hv
    obtain ⟨rfl, rfl⟩ := hv
    refine ⟨(cur.setIfInBounds i u).toList.take (n * 4), ?_, .inr ⟨g, cap, cur.setIfInBounds i u, rfl, hb, heap_setCell_same w g i cur t u hg, hn, hm, by simpa using hs, rfl⟩⟩
    rw [List.length_take, Array.length_toList, Array.size_setIfInBounds, hs]
    exact Nat.min_eq_left (Nat.mul_le_mul_right _ hn)

theorem own_there {w : World} {t : TypeId} {g n cap : Nat} {xs : List Value} (h : w.ownsRow 0 t 4 (.slice (some ⟨g, 0, none⟩) n cap) n xs) (i : Nat) (hi : i < n * 4) :
    ∃ u, w.cell? ⟨g, i, none⟩ = some u ∧ w.frozen? ⟨g, i, none⟩ = false := by
  rcases h.2 with ⟨h, _⟩ | ⟨g', cap', cur, hv, hb, hg, hn, hm, hs, ht⟩
  · cases h
  · simp only [Value.slice.injEq, Option.some.injEq, Addr.mk.injEq, true_and, and_true] at hv
    obtain ⟨rfl, rfl⟩ := hv
    have hlt : i < cur.size := by rw [hs]; exact Nat.lt_of_lt_of_le hi (Nat.mul_le_mul_right _ hn)
    exact ⟨cur[i], cell_in hg i (by simp [hlt]), by simp [World.frozen?, hg]⟩

/-- A cell of the own row written. -/
theorem MemInv.store {w wr : World} {b r g cap i : Nat} {es : List Ent} {vy : Value} {m : Nat} (u : Value) (h : MemInv w b r es vy (.slice (some ⟨g, 0, none⟩) m cap) m wr) :
    MemInv w b r es vy (.slice (some ⟨g, 0, none⟩) m cap) m (wr.setCell ⟨g, i, none⟩ u) := by
  obtain ⟨S, T, cl, hb, hr, hd, hs, hy, hy2, ⟨xs, hx⟩, hg, hw⟩ := h
  obtain ⟨h1, h2, h3, h4⟩ := hg g rfl
  have ho : ∀ k, k ≠ g → (wr.setCell ⟨g, i, none⟩ u).heap[k]? = wr.heap[k]? := fun k hk => heap_setCell_other wr _ k _ hk
  refine ⟨S, T, cl, hb.kept (fun k hk => ho k (by rintro rfl; exact h2 hk)), hr.kept (fun k hk => ho k (by rintro rfl; exact h3 hk)), hd, hs, rows_kept hy (fun k hk => ho k (by rintro rfl; exact h4 hk)), hy2, own_set u hx, hg, hw.setCell h1 u⟩

theorem MemInv.there {w wr : World} {b r g cap : Nat} {es : List Ent} {vy : Value} {m : Nat} (h : MemInv w b r es vy (.slice (some ⟨g, 0, none⟩) m cap) m wr) (i : Nat) (hi : i < m * 4) :
    ∃ u, wr.cell? ⟨g, i, none⟩ = some u ∧ wr.frozen? ⟨g, i, none⟩ = false := by
  obtain ⟨S, T, cl, hb, hr, hd, hs, hy, hy2, ⟨xs, hx⟩, hg, hw⟩ := h
  exact own_there hx i hi

/-- The own row appended to. -/
theorem MemInv.grow {w wr w' : World} {b r g cap : Nat} {es : List Ent} {vy vg : Value} {m : Nat} {xs : List Value} (o : Obj) (h : MemInv w b r es vy vg m wr) (hgrow : (wr.alloc o).grownBy w' vg.ownBlock)
    (hown : w'.ownsRow 0 40 4 (.slice (some ⟨g, 0, none⟩) (m + 1) cap) (m + 1) xs) (hat : vg.ownBlock = some g ∨ g = wr.heap.size + 1) :
    MemInv w b r es vy (.slice (some ⟨g, 0, none⟩) (m + 1) cap) (m + 1) w' := by
  obtain ⟨S, T, cl, hb, hr, hd, hs, hy, hy2, ⟨xs0, hx⟩, hg, hw⟩ := h
  have ho : ∀ k, k < wr.heap.size → vg.ownBlock ≠ some k → w'.heap[k]? = wr.heap[k]? := fun k hk hne => (hgrow.block k (by simp; omega) (Ne.symm hne)).trans (heap_alloc_old wr o hk)
  have hz := hw.size
  refine ⟨S, T, cl, hb.kept (fun k hk => ho k (hb.mem k hk) (fun e => (hg k e).2.1 hk)), hr.kept (fun k hk => ho k (hr.mem k hk) (fun e => (hg k e).2.2.1 hk)), hd, hs,
    rows_kept hy (fun k hk => ho k (hy.lt _ hk).2 (fun e => (hg k e).2.2.2 hk)), hy2, ⟨xs, hown⟩, ?_, ?_⟩
  · intro g' hg'
    simp [Value.ownBlock] at hg'
    subst hg'
    rcases hat with h | h
    · exact hg _ h
    · exact ⟨by omega, fun hm => by have := hb.mem _ hm; omega, fun hm => by have := hr.mem _ hm; omega, fun e => by have := (hy.lt _ e).2; omega⟩
  · refine hw.trans ⟨hgrow.os, hgrow.tape, hgrow.output, by have := hgrow.size; simp at this; omega, fun k hk => ho k (by omega) (fun e => by have := (hg k e).1; omega)⟩

theorem MemInv.outer {w wr : World} {b r : Nat} {es : List Ent} {vy vg : Value} {m : Nat} (h : MemInv w b r es vy vg m wr) : Below w.heap.size w wr := by
  obtain ⟨S, T, cl, hb, hr, hd, hs, hy, hy2, hx, hg, hw⟩ := h
  exact hw

/-- Between the rounds. -/
def MemRun (w : World) (b r : Nat) (wr : World) : Prop :=
  ∃ F, Side wr (.pointer (some ⟨b, 0, none⟩)) (.pointer (some ⟨r, 0, none⟩)) F ∧ (∀ k ∈ F, w.heap.size ≤ k) ∧ Below w.heap.size w wr

theorem MemInv.back {w wr : World} {b r : Nat} {es : List Ent} {vy vg : Value} {m : Nat} (h : MemInv w b r es vy vg m wr) : MemRun w b r wr := by
  obtain ⟨S, T, cl, hb, hr, hd, hs, hy, hy2, hx, hg, hw⟩ := h
  exact ⟨S ++ T, .inr ⟨b, r, S, T, es, cl, rfl, rfl, hb, hr, hd, rfl⟩, hs, hw⟩

theorem MemInv.books {w wr : World} {b r : Nat} {es : List Ent} {vy vg : Value} {m : Nat} (h : MemInv w b r es vy vg m wr) : ∃ S T cl, Book wr b S es cl ∧ RBook wr r T es cl ∧ wr.ownsRow 0 40 4 vy es.length (flat es) := by
  obtain ⟨S, T, cl, hb, hr, hd, hs, hy, hy2, hx, hg, hw⟩ := h
  exact ⟨S, T, cl, hb, hr, hy⟩

theorem MemInv.row {w wr : World} {b r : Nat} {es : List Ent} {vy vg : Value} {m : Nat} (h : MemInv w b r es vy vg m wr) : ∃ xs, wr.ownsRow 0 40 4 vg m xs := by
  obtain ⟨S, T, cl, hb, hr, hd, hs, hy, hy2, hx, hg, hw⟩ := h
  exact hx

/-- After a call on both. -/
theorem MemRun.right {w wr w' : World} {b r : Nat} {F : List Nat} {e : Ending} (hF : ∀ k ∈ F, w.heap.size ≤ k) (hw : Below w.heap.size w wr) (h : Rights (.pointer (some ⟨b, 0, none⟩)) (.pointer (some ⟨r, 0, none⟩)) F wr e w') : MemRun w b r w' := by
  obtain ⟨_, F', hs, ho, hm⟩ := h
  have hz := hw.size
  refine ⟨F', hs, fun k hk => ?_, hw.trans ⟨ho.os, ho.tape, ho.output, ho.size, fun k hk => ho.block k (by omega) (fun hm2 => by have := hF k hm2; omega)⟩⟩
  rcases hm k hk with h | h
  · exact hF k h
  · omega

/-- Two answers of All. -/
theorem MemRun.two {w w1 w2 w3 : World} {b r : Nat} {S T : List Nat} {es : List Ent} {cl : Nat → Bool} {vx vy : Value} (hb : Book w1 b S es cl) (hr : RBook w1 r T es cl) (hd : ∀ k ∈ S, k ∉ T) (hs : ∀ k ∈ S ++ T, w.heap.size ≤ k) (hw : Below w.heap.size w w1)
    (hx : w2.ownsRow w1.heap.size 40 4 vx es.length (flat es)) (h2 : Below w1.heap.size w1 w2) (hy : w3.ownsRow w2.heap.size 40 4 vy es.length (flat es)) (h3 : Below w2.heap.size w2 w3) :
    MemInv w b r es vy vx es.length w3 := by
  have h13 := Below.both h2 h3
  have z1 := hw.size
  have z2 := h2.size
  refine ⟨S, T, cl, hb.below h13, hr.below h13, hd, hs, low_row hy, fun g hg => by have := (hy.lt _ hg).1; omega, ⟨_, rows_kept (low_row hx) (fun g hg => h3.block g (hx.lt _ hg).2)⟩, fun g hg => ?_, hw.trans (h13.mono hw.size)⟩
  have hgx := hx.lt _ hg
  exact ⟨by omega, fun hm => by have := hb.mem _ hm; omega, fun hm => by have := hr.mem _ hm; omega, fun e => by have := (hy.lt _ e).1; omega⟩

set_option maxRecDepth 100000 in
set_option maxHeartbeats 4000000 in
theorem memory_any (ao : Option Addr) (cap : Nat) (l : List Rec) (w : World) (hs : Script w ao l) :
    Calls Try.prog 4 #[.slice ao l.length cap] w fun e w' => e = .returned (.bool true) ∧ Below w.heap.size w w' := by
  have hl := hs.1
  unfold maxLen at hl
  have HS := Lib.hid hs
  clear hs
  obtain ⟨i0, hi, hz0, hz1, hz2⟩ := info_parts infoEnt
  have HI := Lib.hid hi
  have HZ := Lib.hid (And.intro hz0 (And.intro hz1 hz2))
  clear hi hz0 hz1 hz2
  go_enter Try.func4, Try.ntmps4
  go_wp2_with fail
  refine (awake_any _).mono ?_
  rintro e w0 ⟨rfl, hB0⟩
  go_wp2_with fail
  refine (new_any _).mono ?_
  rintro e w1 ⟨rfl, hk1, hB1⟩
  have HK1 := Lib.hid hk1
  clear hk1
  go_wp2_with fail
  refine (rnew_any _).mono ?_
  rintro e w2 ⟨rfl, hk2, hB2⟩
  have h0 : MemRun w w0.heap.size w1.heap.size w2 := by
    have z0 := hB0.size
    have z1 := hB1.size
    have z2 := HK1.out.mem w0.heap.size (by simp)
    refine ⟨[w0.heap.size] ++ [w1.heap.size], .inr ⟨_, _, _, _, [], _, rfl, rfl, HK1.out.below hB2, hk2, fun k h1 h2 => by simp at h1 h2; omega, rfl⟩, fun k hk => by simp at hk; omega, (hB0.trans (hB1.mono z0)).trans (hB2.mono (by omega))⟩
  have H0 := Lib.hid h0
  clear h0 hk2
  obtain ⟨b, hb⟩ : ∃ b, b = w0.heap.size := ⟨_, rfl⟩
  obtain ⟨r, hr⟩ : ∃ r, r = w1.heap.size := ⟨_, rfl⟩
  rw [← hb, ← hr] at H0
  rw [← hb, ← hr]
  clear hb hr hB0 hB1 hB2 HK1
  go_wp2_with fail
  go_loopw [5] (fun i wr => ∃ k : Nat, k ≤ l.length ∧ i = .int .i64 k ∧ Hid (MemRun w b r wr)) (fun i _ => l.length - (intOf i).toNat)
  case atStart => exact ⟨0, Nat.zero_le _, rfl, H0⟩
  case round =>
    obtain ⟨k, hk, rfl, HM⟩ := hrel
    by_cases hlt : k < l.length
    · obtain ⟨F, hsd, hF, hw⟩ := HM.out
      obtain ⟨g, off, rfl, hg, h0, h1, h2, h3, h4, hnm⟩ := (HS.out.below hw).2 k l[k] (by simp)
      have HSD := Lib.hid hsd
      have HF := Lib.hid (And.intro hF hw)
      clear hsd hF hw
      go_wp2_with fail
      refine (right_any HSD.out l[k] hnm).mono ?_
      intro e w3 hrt
      obtain ⟨rfl, hrt2⟩ := hrt
      obtain ⟨F3, hs3, hF3, hw3⟩ := MemRun.right HF.out.1 HF.out.2 ⟨rfl, hrt2⟩
      rcases hs3 with ⟨h, _⟩ | ⟨b', r', S, T, es, cl, e1, e2, hb, hr, hd, rfl⟩
      · cases h
      obtain rfl : b = b' := by simpa using e1
      obtain rfl : r = r' := by simpa using e2
      have HB3 := Lib.hid (And.intro hb (And.intro hr (And.intro hd (And.intro hF3 hw3))))
      clear hb hr hd hF3 hw3 hrt2 e1 e2 h0 h1 h2 h3 h4 HSD HF
      go_wp2_with fail
      refine (all_any HB3.out.1).mono ?_
      rintro e w4 ⟨vx, rfl, hvx, hB4⟩
      have HX := Lib.hid hvx
      have HB4 := Lib.hid (HB3.out.1.below hB4)
      clear hvx
      go_wp2_with fail
      refine (all_any HB4.out).mono ?_
      rintro e w5 ⟨vy, rfl, hvy, hB5⟩
      have HI5 := Lib.hid (MemRun.two HB3.out.1 HB3.out.2.1 HB3.out.2.2.1 HB3.out.2.2.2.1 HB3.out.2.2.2.2 HX.out hB4 hvy hB5)
      obtain ⟨ax, cx, rfl⟩ : ∃ a c, vx = .slice a es.length c := by
        rcases rows_form HX.out with ⟨rfl, h⟩ | ⟨g, c, rfl, _⟩
        · exact ⟨_, _, by rw [h]⟩
        · exact ⟨_, _, rfl⟩
      have hsm := HB4.out.small
      clear hvy hB4 hB5 HX HB3 HB4
      go_wp2_with fail
      go_loopw [8] (fun i wr => ∃ k2 : Nat, k2 ≤ es.length ∧ i = .int .i64 k2 ∧ Hid (MemInv w b r es vy (.slice ax es.length cx) es.length wr)) (fun i _ => es.length - (intOf i).toNat)
      case atStart => exact ⟨0, Nat.zero_le _, rfl, HI5⟩
      case round =>
        obtain ⟨k2, hk2, rfl, HL⟩ := hrel
        clear HI5
        by_cases hlt2 : k2 < es.length
        · obtain ⟨xs0, hrow⟩ := HL.out.row
          obtain ⟨gx, rfl⟩ : ∃ gx, ax = some ⟨gx, 0, none⟩ := by
            rcases rows_form hrow with ⟨_, h⟩ | ⟨g, c, h, _⟩
            · omega
            · simp only [Value.slice.injEq] at h
              exact ⟨g, h.1⟩
          obtain ⟨u0, c0, f0⟩ := HL.out.there (k2 * 4) (by omega)
          obtain ⟨u1, c1, f1⟩ := HL.out.there (k2 * 4 + 1) (by omega)
          obtain ⟨u2, c2, f2⟩ := HL.out.there (k2 * 4 + 2) (by omega)
          obtain ⟨u3, c3, f3⟩ := HL.out.there (k2 * 4 + 3) (by omega)
          have HL4 := Lib.hid ((((HL.out.store (i := k2 * 4) (.int .i64 0)).store (i := k2 * 4 + 1) (.int .i64 0)).store (i := k2 * 4 + 2) (.string ⟨#[111, 119, 110]⟩)).store (i := k2 * 4 + 3) (.int .i64 0))
          clear hrow
          go_wp2_with fail
          go_roundw
          case rel => exact ⟨k2 + 1, by omega, by go_num, HL4⟩
          case measure => simp [intOf]; omega
        · obtain rfl : k2 = es.length := by omega
          go_wp2_with fail
          go_loopw [9, 10] (fun v i wr => ∃ (k3 : Nat) (av : Option Addr) (cv : Nat), k3 ≤ 9 ∧ i = .int .i64 k3 ∧ v = .slice av (es.length + k3 : Nat) cv ∧ Hid (MemInv w b r es vy (.slice av (es.length + k3 : Nat) cv) (es.length + k3) wr)) (fun _ i _ => 9 - (intOf i).toNat)
          case atStart => exact ⟨0, _, _, by omega, rfl, rfl, HL⟩
          case round =>
            obtain ⟨k3, av, cv, hk3, rfl, rfl, HG⟩ := hrel
            clear HL
            by_cases hlt3 : k3 < 9
            · obtain ⟨xs0, hrow⟩ := HG.out.row
              have HROW := Lib.hid hrow
              clear hrow
              go_wp2_with (at_builtin; refine wpList_append_lies _ rfl _ _ 35 rfl 0 40 i0 _ 4 40 Try.underlying35 HI.out HZ.out.1 HZ.out.2.1 HZ.out.2.2 rfl (by decide) (.slice av (es.length + k3 : Nat) cv) (es.length + k3) xs0 rfl (HROW.out.alloc _) ⟨wr.heap.size, 0, none⟩ 1 1 [.int .i64 0, .int .i64 0, .string ⟨#[98, 101, 104, 105, 110, 100]⟩, .int .i64 0] rfl rfl (World.news_of_block (cs := #[.int .i64 0, .int .i64 0, .string ⟨#[98, 101, 104, 105, 110, 100]⟩, .int .i64 0]) (t := 40) (fr := (0, 0)) (heap_alloc_new wr _)) (by simp [Value.oneCell']) (by omega) (by simp only [maxLen]; omega) (by omega) (by simp) (wr.heap.size + 1) (by simp) ?_; intro gg cg w6 hown hgrow hat hlt6)
              have HG6 := Lib.hid (HG.out.grow _ hgrow hown hat)
              clear hown hgrow hat hlt6 HROW
              go_roundw
              case rel => exact ⟨k3 + 1, _, _, by omega, by go_num, rfl, HG6⟩
              case measure => simp [intOf]; omega
            · obtain rfl : k3 = 9 := by omega
              go_wp2_with fail
              obtain ⟨S6, T6, cl6, hb6, hr6, hy6⟩ := HG.out.books
              have HY6 := Lib.hid hy6
              refine (rall_any hr6).mono ?_
              rintro e w7 ⟨v7, rfl, hv7, hB7⟩
              have HG7 := Lib.hid (HG.out.below hB7)
              have HS7 := Lib.hid (And.intro (rows_kept HY6.out (fun g hg => hB7.block g (HY6.out.lt _ hg).2)) hv7)
              clear hb6 hr6 hy6 hv7 hB7 HG HY6
              go_wp2_with fail
              refine (same_true HS7.out.1 HS7.out.2).mono ?_
              rintro e w8 ⟨rfl, hB8⟩
              have HG8 := Lib.hid (HG7.out.below hB8)
              clear hB8 HG7 HS7
              go_wp2_with fail
              obtain ⟨S8, T8, cl8, hb8, hr8, hy8⟩ := HG8.out.books
              have HR8 := Lib.hid hr8
              refine (all_any hb8).mono ?_
              rintro e w9 ⟨v9, rfl, hv9, hB9⟩
              have HG9 := Lib.hid (HG8.out.below hB9)
              have HR9 := Lib.hid (HR8.out.below hB9)
              have HV9 := Lib.hid hv9
              clear hb8 hr8 hy8 hv9 hB9 HG8 HR8
              go_wp2_with fail
              refine (rall_any HR9.out).mono ?_
              rintro e w10 ⟨v10, rfl, hv10, hB10⟩
              have HG10 := Lib.hid (HG9.out.below hB10)
              have HS10 := Lib.hid (And.intro (rows_kept HV9.out (fun g hg => hB10.block g (HV9.out.lt _ hg).2)) hv10)
              clear hv10 hB10 HG9 HR9 HV9
              go_wp2_with fail
              refine (same_true HS10.out.1 HS10.out.2).mono ?_
              rintro e w11 ⟨rfl, hB11⟩
              have HG11 := Lib.hid (HG10.out.below hB11)
              clear hB11 HG10 HS10
              go_wp2_with fail
              go_roundw
              case rel => exact ⟨k + 1, by omega, by go_num, HG11.out.back⟩
              case measure => simp [intOf]; omega
    · go_wp2_with fail
      go_ret
      obtain ⟨F, hsd, hF, hw⟩ := HM.out
      exact ⟨rfl, hw⟩

end Go.Proofs.Ytgdeeojamnbakaa
