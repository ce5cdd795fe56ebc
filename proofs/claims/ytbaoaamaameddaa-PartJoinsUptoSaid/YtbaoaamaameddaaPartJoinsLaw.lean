/- The walk of PartJoins. -/
import Derived.Test.YtbaoaamaameddaaPartAwake
namespace Go.Proofs.Ytbaoaamaameddaa
open Go.RowKit

theorem size_app (a b : ByteArray) : (a ++ b).size = a.size + b.size := by rw [← ls_size, ls_append, List.length_append, ls_size, ls_size]
theorem joins_assoc (a sep b c : ByteArray) : a ++ sep ++ b ++ sep ++ c = a ++ sep ++ (b ++ sep ++ c) := by
  apply ls_inj
  simp only [ls_append, List.append_assoc]

theorem at_left {x b sep : ByteArray} {j : Nat} (h : j + sep.size ≤ x.size) (g : At (x ++ b) sep j) : At x sep j := by
  refine ⟨h, ?_⟩
  have g2 := congrArg ls g.2
  apply ls_inj
  rw [ls_extract] at g2 ⊢
  rw [show j + sep.size - j = sep.size by omega] at g2 ⊢
  rw [← g2, ls_append, List.drop_append_of_le_length (by rw [ls_size]; omega), List.take_append_of_le_length (by rw [List.length_drop, ls_size]; omega)]

theorem joins_first {a sep b : ByteArray} (h : ix (a ++ sep) sep = (a.size : Nat)) : First (a ++ sep ++ b) sep a.size := by
  rcases ix_cases (a ++ sep) sep with ⟨hi, _⟩ | ⟨k, hi, _, hf⟩
  · rw [hi] at h; omega
  · obtain rfl : k = a.size := by rw [hi] at h; omega
    refine ⟨⟨by rw [size_app, size_app]; omega, ?_⟩, fun j hj hat => hf.2 j hj (at_left (by rw [size_app]; omega) hat)⟩
    apply ls_inj
    rw [ls_extract, ls_append, ls_append, List.append_assoc, List.drop_left' (ls_size a), show a.size + sep.size - a.size = sep.size by omega, List.take_left' (ls_size sep)]

theorem joins_hd (a sep b : ByteArray) : (a ++ sep ++ b).extract 0 a.size = a := by
  apply ls_inj
  rw [ls_extract, ls_append, ls_append, List.append_assoc, List.drop_zero, Nat.sub_zero, List.take_left' (ls_size a)]
theorem joins_tl (a sep b : ByteArray) : (a ++ sep ++ b).extract (a.size + sep.size) (a ++ sep ++ b).size = b := by
  apply ls_inj
  rw [ls_extract, size_app, size_app, ls_append, List.drop_left' (by rw [ls_size, size_app]), show a.size + sep.size + b.size - (a.size + sep.size) = b.size by omega, List.take_of_length_le (by rw [ls_size]; omega)]

/-- what the walk reads of the boxed argument -/
theorem four_cells {w w1 : World} {a b c d : ByteArray} {T : TypeId} (h : Below (w.alloc (.cells #[.string a, .string b, .string c, .string d] T)).heap.size (w.alloc (.cells #[.string a, .string b, .string c, .string d] T)) w1) :
    w1.cell? ⟨w.heap.size, 0, none⟩ = some (.string a) ∧ w1.cell? ⟨w.heap.size, 1, none⟩ = some (.string b) ∧ w1.cell? ⟨w.heap.size, 2, none⟩ = some (.string c) ∧ w1.cell? ⟨w.heap.size, 3, none⟩ = some (.string d) := by
  have q := fun k => cell_of_row (w.alloc (.cells #[.string a, .string b, .string c, .string d] T)) w.heap.size k #[.string a, .string b, .string c, .string d] T (0, 0) (heap_alloc_new w _)
  have k := fun o => (Below.cells h).1 w.heap.size o (by simp)
  exact ⟨(k 0).trans (q 0), (k 1).trans (q 1), (k 2).trans (q 2), (k 3).trans (q 3)⟩

theorem first_alloc {w w1 : World} {o : Obj} (h : Below (w.alloc o).heap.size (w.alloc o) w1) : Below w.heap.size w w1 := ((Below.refl _ w).alloc (Nat.le_refl _) _).trans (h.mono (by simp))

set_option maxRecDepth 100000 in
set_option maxHeartbeats 2000000 in
theorem joins_any {w : World} (h : ML w) (a sep b c : ByteArray) (hs : a.size + sep.size + b.size + c.size ≤ 1048576) :
    Calls Try.prog 6 #[.agg #[.string a, .string sep, .string b, .string c]] w (Yes w) := by
  have h1 := h.alloc (.cells #[.string a, .string sep, .string b, .string c] 36)
  have hz1 : (a ++ sep ++ b).size = a.size + sep.size + b.size := by rw [size_app, size_app]
  have hz2 : (b ++ sep ++ c).size = b.size + sep.size + c.size := by rw [size_app, size_app]
  have hz3 : (a ++ sep).size = a.size + sep.size := size_app a sep
  have j1 := fun {W : World} => join_any (w := W) a sep b (by omega)
  have j2 := fun {W : World} => join_any (w := W) (a ++ sep ++ b) sep c (by omega)
  have j3 := fun {W : World} => join_any (w := W) b sep c (by omega)
  have j4 := fun {W : World} => join_any (w := W) a sep (b ++ sep ++ c) (by omega)
  simp only [joins_assoc] at j2
  have i1 := fun {W : World} (g : ML W) => index_any g (a ++ sep) sep (.inr (by omega))
  have i2 := fun {W : World} (g : ML W) => index_any g (a ++ sep ++ b) sep (.inr (by omega))
  have hd2 := fun {W : World} (g : ML W) => head_any g (a ++ sep ++ b) sep (.inr (by omega)) (by omega)
  have tl2 := fun {W : World} (g : ML W) => tail_any g (a ++ sep ++ b) sep (.inr (by omega)) (by omega)
  have hfirst := joins_first (a := a) (sep := sep) (b := b)
  have hhd := joins_hd a sep b
  have htl := joins_tl a sep b
  have nov : ¬ 9223372036854775807 < a.size + sep.size := by omega
  obtain ⟨N, hN⟩ : ∃ N, b ++ sep ++ c = N := ⟨_, rfl⟩
  obtain ⟨M, hM⟩ : ∃ M, a ++ sep ++ N = M := ⟨_, rfl⟩
  obtain ⟨J, hJ⟩ : ∃ J, a ++ sep ++ b = J := ⟨_, rfl⟩
  obtain ⟨I, hI⟩ : ∃ I, ix (a ++ sep) sep = I := ⟨_, rfl⟩
  simp only [hN, hJ] at j1 j2 j3 j4 i2 hd2 tl2
  simp only [hM] at j2 j4
  rw [hJ] at hz1 hfirst hhd htl
  rw [hI] at hfirst
  simp only [hI] at i1
  have hJi : (J.size : Int) = (a.size : Int) + (sep.size : Int) + (b.size : Int) := by omega
  have hJb : ((J.size : Int) != (a.size : Int) + (sep.size : Int) + (b.size : Int)) = false := by simp [hJi]
  have HZ := Lib.hid hz1
  clear hM hN hJ hI hz1 hz2 hz3
  by_cases h0 : sep.size = 0
  · have he : sep.toList.isEmpty = true := by rw [size_zero h0, ByteArray.toList_eq]; rfl
    clear hfirst hhd htl h0 hJi
    go_enter Try.func6, Try.ntmps6
    go_wp2_with (first
      | (go_at_call 9; refine (awake_any h1).mono ?_; rintro e w1 ⟨rfl, b1⟩; obtain ⟨c0, c1, c2, c3⟩ := four_cells b1; have m1 := h1.below b1; have bw := first_alloc b1)
      | (go_at_call 16; (with_reducible refine j1.mono ?_); rintro e w2 ⟨rfl, b2⟩)
      | (go_at_call 16; (with_reducible refine j2.mono ?_); rintro e w3 ⟨rfl, b3⟩)
      | (go_at_call 16; (with_reducible refine j3.mono ?_); rintro e w4 ⟨rfl, b4⟩)
      | (go_at_call 16; (with_reducible refine j4.mono ?_); rintro e w5 ⟨rfl, b5⟩; have bb := Below.both (Below.both (Below.both (Below.both bw b2) b3) b4) b5; have m5 := h.below bb))
    go_ret
    exact ⟨rfl, bb⟩
  · have he := isEmpty_no h0
    by_cases hI : I = (a.size : Int)
    · have hf := hfirst hI
      subst hI
      have hx := ix_first h0 hf
      have hq : ((a.size : Int) != (a.size : Int)) = false := by simp
      simp only [hx, hd_at hx, tl_at hx] at i2 hd2 tl2
      simp only [hhd] at hd2
      simp only [htl] at tl2
      clear hfirst hf hx hhd htl h0 hJi
      go_enter Try.func6, Try.ntmps6
      go_wp2_with (first
        | (go_at_call 9; refine (awake_any h1).mono ?_; rintro e w1 ⟨rfl, b1⟩; obtain ⟨c0, c1, c2, c3⟩ := four_cells b1; have m1 := h1.below b1; have bw := first_alloc b1)
        | (go_at_call 16; (with_reducible refine j1.mono ?_); rintro e w2 ⟨rfl, b2⟩)
        | (go_at_call 16; (with_reducible refine j2.mono ?_); rintro e w3 ⟨rfl, b3⟩)
        | (go_at_call 16; (with_reducible refine j3.mono ?_); rintro e w4 ⟨rfl, b4⟩)
        | (go_at_call 16; (with_reducible refine j4.mono ?_); rintro e w5 ⟨rfl, b5⟩; have bb := Below.both (Below.both (Below.both (Below.both bw b2) b3) b4) b5; have m5 := h.below bb)
        | (go_at_call 10; (with_reducible refine (i1 m5).mono ?_); rintro e w6 ⟨rfl, rfl⟩)
        | (go_at_call 10; (with_reducible refine (i2 m5).mono ?_); rintro e w7 ⟨rfl, rfl⟩)
        | (go_at_call 12; refine (hd2 m5).mono ?_; rintro e w8 ⟨rfl, b8⟩; have m8 := m5.below b8)
        | (go_at_call 14; refine (tl2 m8).mono ?_; rintro e w9 ⟨rfl, b9⟩))
      go_ret
      exact ⟨rfl, Below.both (Below.both bb b8) b9⟩
    · have hq : (I != (a.size : Int)) = true := by simp [hI]
      clear hfirst hhd htl h0 hJi hI
      go_enter Try.func6, Try.ntmps6
      go_wp2_with (first
        | (go_at_call 9; refine (awake_any h1).mono ?_; rintro e w1 ⟨rfl, b1⟩; obtain ⟨c0, c1, c2, c3⟩ := four_cells b1; have m1 := h1.below b1; have bw := first_alloc b1)
        | (go_at_call 16; (with_reducible refine j1.mono ?_); rintro e w2 ⟨rfl, b2⟩)
        | (go_at_call 16; (with_reducible refine j2.mono ?_); rintro e w3 ⟨rfl, b3⟩)
        | (go_at_call 16; (with_reducible refine j3.mono ?_); rintro e w4 ⟨rfl, b4⟩)
        | (go_at_call 16; (with_reducible refine j4.mono ?_); rintro e w5 ⟨rfl, b5⟩; have bb := Below.both (Below.both (Below.both (Below.both bw b2) b3) b4) b5; have m5 := h.below bb)
        | (go_at_call 10; (with_reducible refine (i1 m5).mono ?_); rintro e w6 ⟨rfl, rfl⟩))
      go_ret
      exact ⟨rfl, bb⟩
end Go.Proofs.Ytbaoaamaameddaa
