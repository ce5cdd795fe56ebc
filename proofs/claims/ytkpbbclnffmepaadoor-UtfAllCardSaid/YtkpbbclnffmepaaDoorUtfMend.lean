/- The walk of utf.Mend: every text of at most 2^40 bytes. -/
import Derived.Test.YtkpbbclnffmepaaDoorUtfBld
namespace Go.Proofs.YtkpbbclnffmepaaDoor
open Go.RowKit

theorem men_step (l : List UInt8) (hne : l ≠ []) : menL l = Lib.encodeRune (Lib.decodeL l).1 ++ menL (l.drop (Lib.decodeL l).2) := by
  have hw := nx_width l hne
  rcases nx_cases l hne with hx | ⟨c, r, hc, hl, hx⟩
  · have hd : (Lib.decodeL l).1 = 65533 := by
      unfold nx at hx
      rw [if_neg hne] at hx
      by_cases hv : (Lib.decodeL l).1 = 65533 ∧ (Lib.decodeL l).2 = 1
      · exact hv.1
      · rw [if_neg hv] at hx
        simp only [Prod.mk.injEq] at hx
        omega
    unfold menL
    rw [tk_step l hne, hw, hd, hx]
    show [239, 191, 189] ++ _ = Lib.encodeRune 65533 ++ _
    rw [enc_fffd]
  · have hd : ((Lib.decodeL l).1 : Int) = c := by
      unfold nx at hx
      rw [if_neg hne] at hx
      have := hc.1
      by_cases hv : (Lib.decodeL l).1 = 65533 ∧ (Lib.decodeL l).2 = 1
      · rw [if_pos hv] at hx
        simp only [Prod.mk.injEq] at hx
        omega
      · rw [if_neg hv] at hx
        simp only [Prod.mk.injEq] at hx
        exact hx.1
    rw [hd, ← hw, hx]
    show menL l = Lib.encodeRune c ++ menL (l.drop (Lib.encodeRune c).length)
    rw [hl, List.drop_left]
    unfold menL
    rw [tk_char c r hc]
    rfl

/-- a builder stands where all rows of cells stand -/
theorem Bld.kept {b : Nat} {l : List UInt8} {w w' : World} (h : Bld b l w) (hk : ∀ (g : Nat) (c : Array Value) (t : TypeId) (fz : Nat × Nat), w.heap[g]? = some (Obj.cells c t fz) → w'.heap[g]? = some (Obj.cells c t fz)) : Bld b l w' := by
  obtain ⟨hB, v, hb, hown, hne⟩ := h
  refine ⟨hB, v, hk _ _ _ _ hb, ⟨hown.1, ?_⟩, hne⟩
  rcases hown.2 with hn | ⟨g, cap, cur, hv, hbg, hg, rest⟩
  · exact .inl hn
  · exact .inr ⟨g, cap, cur, hv, hbg, hk _ _ _ _ hg, rest⟩
theorem Bld.alloc {b : Nat} {l : List UInt8} {w : World} (h : Bld b l w) (o : Obj) : Bld b l (w.alloc o) :=
  h.kept fun g _ _ _ hg => by rw [Lib.alloc_old _ _ g (Array.getElem?_eq_some_iff.1 hg).1]; exact hg
theorem Bld.iterAt {b : Nat} {l : List UInt8} {w : World} (h : Bld b l w) {k : Nat} {s : ByteArray} {pos : Nat} (hk : w.heap[k]? = some (.stringIter s pos)) (pos' : Nat) : Bld b l (w.iterAt k s pos') :=
  h.kept fun g _ _ _ hg => by
    rw [Lib.iterAt_other w k g s pos' (fun e => by rw [e, hk] at hg; cases hg)]
    exact hg

set_option maxRecDepth 100000 in
set_option maxHeartbeats 2000000 in
theorem mend_any {w0 w : World} (h : St w0 w) (s : ByteArray) (hs : s.size ≤ 1099511627776) :
    Calls Tryd.prog 19 #[.string s] w fun e w' => e = .returned (.string (tx (menL (ls s)))) ∧ St w0 w' := by
  obtain ⟨M, hM⟩ : ∃ M, M = menL (ls s) := ⟨_, rfl⟩
  rw [← hM]
  have HM := Lib.hid hM
  clear hM
  have hfresh : (w.alloc (.cells #[.pointer none, .slice none 0 0] 42)).heap[w.heap.size]? = some (.cells #[.pointer none, .slice none 0 0] 42 (0, 0)) := heap_alloc_new w _
  go_enter Tryd.func19, Tryd.ntmps19
  go_wp2_with (go_at_call 27; refine (Tryd.Builder_Grow_fresh w.heap.size w.heap.size s.size _ (Nat.le_refl _) hfresh (by simp) (by omega)).mono ?_)
  rintro e w1 ⟨rfl, hb1, hB1⟩
  have hBw : Below w.heap.size w w1 := ((Below.refl _ w).alloc (Nat.le_refl _) _).trans hB1
  have hz1 : w.heap.size < w1.heap.size := by have := hB1.size; simp at this; omega
  obtain ⟨B, hB⟩ : ∃ B, B = w.heap.size := ⟨_, rfl⟩
  obtain ⟨k, hk⟩ : ∃ k, k = w1.heap.size := ⟨_, rfl⟩
  have hb0 : Bld B [] w1 := by rw [hB]; exact hb1
  rw [← hB] at hBw hz1 ⊢
  rw [← hk] at hz1
  have HB := Lib.hid hB
  have HK := Lib.hid hk
  clear hb1 hB1 hfresh hB hk
  go_wp2
  rw [← HK.out]
  go_loopw [] (fun wr => ∃ (pos : Nat) (acc : List UInt8), Bld B acc wr ∧ wr.heap[k]? = some (.stringIter s pos) ∧ Below B w wr ∧ Hid (acc ++ menL ((ls s).drop pos) = M) ∧ acc.length ≤ 4 * pos) (fun wr => s.size - wr.iterPos k)
  case atStart =>
    refine ⟨0, [], hb0.alloc _, ?_, hBw.alloc (by have := HK.out; omega) _, ?_, by simp⟩
    · have := World.iter_heap w1 s 0
      rw [HK.out]
      simpa using this
    · unfold Hid
      rw [HM.out]
      rfl
  case round =>
    obtain ⟨pos, acc, hI, hit, hbw, HA, hal⟩ := hrel
    have hsz : k < wr.heap.size := (Array.getElem?_eq_some_iff.1 hit).1
    by_cases hp : pos < s.size
    · have hnx : ∀ ty, (Instr.next (.pointer (some ⟨k, 0, none⟩)) true ty).run Tryd.prog wr = _ := fun ty => Lib.run_next_any_at wr k s pos ty hit hp
      have hne : (ls s).drop pos ≠ [] := fun hn => by
        have := congrArg List.length hn
        rw [List.length_drop, size_ls] at this
        simp at this; omega
      have hd := Lib.decodeL_drop s pos
      have hwd := Lib.decodeL_width ((ls s).drop pos)
      have hrn := Lib.decodeL_rune ((ls s).drop pos)
      have hms := men_step _ hne
      rw [List.drop_drop] at hms
      have hd' : Lib.decodeL ((ls s).drop pos) = Utf8.decode s pos := hd
      rw [hd'] at hms hwd hrn
      obtain ⟨R, hR⟩ : ∃ R, (Utf8.decode s pos).1 = R := ⟨_, rfl⟩
      obtain ⟨W, hW⟩ : ∃ W, (Utf8.decode s pos).2 = W := ⟨_, rfl⟩
      rw [hR, hW] at hnx
      rw [hR, hW] at hms
      rw [hW] at hwd
      rw [hR] at hrn
      have HMS := Lib.hid hms
      have hI2 := hI.iterAt hit (pos + W)
      have hit2 := Lib.iterAt_heap wr k s pos (pos + W) hit
      have hbw2 := Lib.below_iterAt hbw (k := k) (by omega) s (pos + W)
      have hsz2 : B ≤ (wr.iterAt k s (pos + W)).heap.size := by rw [Lib.iterAt_size]; omega
      have hip : wr.iterPos k = pos := by simp only [World.iterPos, hit]
      clear hd hd' hR hW hms hne
      have HIP := Lib.hid hip
      clear hip
      go_wp2_with (go_at_call 28; refine (rune_any B acc R (by omega) (by omega) _ hI2 (by omega) hsz2).mono ?_)
      rintro e w2 ⟨rfl, h1, b1, k1⟩
      have hit3 := k1.iter hit2 (by omega)
      go_wp2
      go_roundw
      case rel =>
        have hl4 := Lib.runeCells_le (R : Int)
        rw [Lib.runeCells_length] at hl4
        refine ⟨pos + W, acc ++ Lib.encodeRune R, h1, hit3, hbw2.trans b1, ?_, by rw [List.length_append]; omega⟩
        have := HA.out
        rw [HMS.out, ← List.append_assoc] at this
        exact this
      case measure =>
        rw [HIP.out]
        simp only [World.iterPos, hit3]
        omega
    · have hnx : ∀ ty, (Instr.next (.pointer (some ⟨k, 0, none⟩)) true ty).run Tryd.prog wr = _ := fun ty => Lib.run_next_end_at wr k s pos ty hit hp
      have hE : Hid (acc = M) := by
        have := HA.out
        rw [List.drop_eq_nil_of_le (by rw [size_ls]; omega)] at this
        show acc = M
        rw [← this]
        show acc = acc ++ []
        rw [List.append_nil]
      go_wp2_with (go_at_call 29; refine (Tryd.Builder_String_any B B acc _ (.inr hI) (by omega)).mono ?_)
      rintro e w2 ⟨rfl, b1⟩
      go_wp2
      go_ret
      have hb2 := hbw.trans b1
      rw [HB.out] at hb2
      exact ⟨by rw [hE.out]; rfl, h.then_ hb2⟩
end Go.Proofs.YtkpbbclnffmepaaDoor
