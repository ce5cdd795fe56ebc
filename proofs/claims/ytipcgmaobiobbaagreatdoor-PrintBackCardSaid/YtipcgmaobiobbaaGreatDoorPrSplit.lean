/- The walks of the code: a split, a join written (gen_split.py). -/
import Derived.Test.YtipcgmaobiobbaaGreatDoorPrWrt
import Derived.Deep.RegionHeld3
import Derived.BigQuiet
namespace Go.Proofs.YtipcgmaobiobbaaGreatDoor
open Go.RowKit

set_option maxHeartbeats 8000000 in
set_option maxRecDepth 100000 in
theorem psplit_any {w : World} {g B : Nat} {t : List UInt8} {lg dp : Bool} (h : Wr w g B t lg dp) (m : Ms) (hl : Lts m.s) :
    Calls Tryz.prog 48 #[.pointer (some ⟨g, 0, none⟩), .agg m.C] w (PutT g B t (blankL [wSplit, m.s.a, wAt, quoteL m.s.sep, wInto, m.s.b ++ [44], m.s.c]) lg dp w) := by
  obtain ⟨s1, h1⟩ := sp_start h m
  obtain ⟨w1, hw1⟩ : ∃ w1, w.alloc (.cells m.C 42) = w1 := ⟨_, rfl⟩
  rw [hw1] at s1 h1
  have hB := h.Bw
  have hBw1 := h1.Bw
  have hbd : Below w1.heap.size w1 w1.drew := Below.thenN (Below.refl _ _) 1
  have hd1 : Sp w g B m w1.drew ∧ Wr w1.drew g B t lg dp := ⟨s1.next (Pr.of hbd hBw1), h1.below hbd⟩
  obtain ⟨c1, c2, c3, c4, -, -⟩ := s1.cells
  have D1 : w1.drew.cell? ⟨w.heap.size, 1, none⟩ = some (.string (str m.s.a)) ∧ w1.drew.cell? ⟨w.heap.size, 2, none⟩ = some (.string (str m.s.b)) ∧ w1.drew.cell? ⟨w.heap.size, 3, none⟩ = some (.string (str m.s.c)) ∧ w1.drew.cell? ⟨w.heap.size, 4, none⟩ = some (.string (str m.s.sep)) := by
    obtain ⟨z1, z2, z3, z4, -, -⟩ := hd1.1.cells
    exact ⟨z1, z2, z3, z4⟩
  have hsz : ¬ 9223372036854775807 < (str m.s.b).size + (⟨#[44]⟩ : ByteArray).size := by
    have := hl.b
    rw [str_size]
    show ¬ 9223372036854775807 < m.s.b.length + 1
    omega
  have hsz1 : ¬ 9223372036854775807 < (str m.s.b).size + 1 := hsz
  have CQ : Hid (∀ W, Sp w g B m W ∧ Wr W g B t lg dp → Calls Tryz.prog 77 #[.pointer (some ⟨g, 0, none⟩), .string (str m.s.sep)] W fun e w' => ∃ q, e = .returned (.string q) ∧
      (w'.cell? ⟨w.heap.size, 1, none⟩ = some (.string (str m.s.a)) ∧ w'.cell? ⟨w.heap.size, 2, none⟩ = some (.string (str m.s.b)) ∧ w'.cell? ⟨w.heap.size, 3, none⟩ = some (.string (str m.s.c)) ∧ w'.cell? ⟨w.heap.size, 4, none⟩ = some (.string (str m.s.sep))) ∧ Hid (∀ o, ((w'.alloc o).cell? ⟨w.heap.size, 1, none⟩ = some (.string (str m.s.a)) ∧ (w'.alloc o).cell? ⟨w.heap.size, 2, none⟩ = some (.string (str m.s.b)) ∧ (w'.alloc o).cell? ⟨w.heap.size, 3, none⟩ = some (.string (str m.s.c)) ∧ (w'.alloc o).cell? ⟨w.heap.size, 4, none⟩ = some (.string (str m.s.sep)))) ∧
      Hid (Calls Tryz.prog 27 #[.pointer (some ⟨g, 0, none⟩), .slice (some ⟨w'.heap.size, 0, none⟩) 7 7] (w'.alloc (.cells #[.string ⟨#[115, 112, 108, 105, 116]⟩, .string (str m.s.a), .string ⟨#[97, 116]⟩, .string q, .string ⟨#[105, 110, 116, 111]⟩, .string (str m.s.b ++ ⟨#[44]⟩), .string (str m.s.c)] 9)) fun e w'' => e = .returned (.tuple #[]) ∧ (w''.cell? ⟨w.heap.size, 1, none⟩ = some (.string (str m.s.a)) ∧ w''.cell? ⟨w.heap.size, 2, none⟩ = some (.string (str m.s.b)) ∧ w''.cell? ⟨w.heap.size, 3, none⟩ = some (.string (str m.s.c)) ∧ w''.cell? ⟨w.heap.size, 4, none⟩ = some (.string (str m.s.sep))) ∧ Hid (PutT g B t (blankL [wSplit, m.s.a, wAt, quoteL m.s.sep, wInto, m.s.b ++ [44], m.s.c]) lg dp w (.returned (.tuple #[])) w''))) := fun W hW => by
    refine Calls.mono (pquote_any hW.2 (str m.s.sep) (by rw [str_size]; have := hl.sep; omega)) ?_
    rintro e w' ⟨rfl, h2, h3⟩
    rw [str_size] at h2
    have s4 := hW.1.next h3
    obtain ⟨z1, z2, z3, z4, -, -⟩ := s4.cells
    refine ⟨_, rfl, ⟨z1, z2, z3, z4⟩, ?_, ?_⟩
    · intro o
      obtain ⟨y1, y2, y3, y4, -, -⟩ := (s4.next (Pr.of ((Below.refl _ w').alloc (Nat.le_refl _) o) h2.Bw)).cells
      exact ⟨y1, y2, y3, y4⟩
    have FC : ∀ w'', Pr g B w' w'' → w''.cell? ⟨w.heap.size, 1, none⟩ = some (.string (str m.s.a)) ∧ w''.cell? ⟨w.heap.size, 2, none⟩ = some (.string (str m.s.b)) ∧ w''.cell? ⟨w.heap.size, 3, none⟩ = some (.string (str m.s.c)) ∧ w''.cell? ⟨w.heap.size, 4, none⟩ = some (.string (str m.s.sep)) := fun w'' hp => by
      obtain ⟨y1, y2, y3, y4, -, -⟩ := (s4.next hp).cells
      exact ⟨y1, y2, y3, y4⟩
    have hge := qbs_ge m.s.sep
    have hall : ∀ x : List UInt8, x.length ≤ 4611686018427387904 → ∀ y ∈ [wSplit, m.s.a, wAt, x, wInto, m.s.b ++ [44], m.s.c], y.length ≤ 4611686018427387904 := by
      intro x hx y hy
      have := hl.a
      have := hl.b
      have := hl.c
      simp only [List.mem_cons, List.not_mem_nil, or_false] at hy
      rcases hy with rfl | rfl | rfl | rfl | rfl | rfl | rfl <;> first | exact hx | omega | exact w_le _ (by decide) | (rw [List.length_append, List.length_singleton]; omega)
    by_cases ho : over t m.s.sep.length lg = true
    · have eq : (if over t (str m.s.sep).size lg = true then [] else quoteL (ls (str m.s.sep))) = ([] : List UInt8) := by rw [str_size, if_pos ho]
      rw [eq]
      rw [ho] at h2
      refine (pwords_new h2 [wSplit, m.s.a, wAt, [], wInto, m.s.b ++ [44], m.s.c] 7 rfl (hall [] (by decide)) (by decide) _ ?_).mono ?_
      · simp only [List.map_cons, List.map_nil]
        rw [← str_app]
        rfl
      · rintro e w'' ⟨rfl, h4, h5⟩
        refine ⟨rfl, FC _ h5, rfl, ?_, s4.pr.trans h5⟩
        rw [over_mono t m.s.sep.length (blankL [wSplit, m.s.a, wAt, quoteL m.s.sep, wInto, m.s.b ++ [44], m.s.c]).length lg (by
          unfold blankL inter
          simp only [List.flatMap_cons, List.flatMap_nil, List.length_append, List.length_cons, List.length_nil]
          omega) ho]
        exact Wr.room h4
    · have hof : over t m.s.sep.length lg = false := by simpa using ho
      have eq : (if over t (str m.s.sep).size lg = true then [] else quoteL (ls (str m.s.sep))) = quoteL m.s.sep := by rw [str_size, if_neg ho, ls_str]
      rw [eq]
      rw [hof] at h2
      have hlg : lg = false := by
        unfold over at hof
        simp only [Bool.or_eq_false_iff] at hof
        exact hof.1
      subst hlg
      have hq : (quoteL m.s.sep).length ≤ 4611686018427387904 := by
        have := (qbs_len m.s.sep).2
        unfold over at hof
        simp only [Bool.false_or, decide_eq_false_iff_not] at hof
        unfold quoteL
        simp only [List.length_cons, List.length_append, List.length_nil]
        omega
      refine (pwords_new h2 [wSplit, m.s.a, wAt, quoteL m.s.sep, wInto, m.s.b ++ [44], m.s.c] 7 rfl (hall _ hq) (by decide) _ ?_).mono ?_
      · simp only [List.map_cons, List.map_nil]
        rw [← str_app]
        rfl
      · rintro e w'' ⟨rfl, h4, h5⟩
        exact ⟨rfl, FC _ h5, rfl, h4, s4.pr.trans h5⟩
  clear h h1 s1 hl hB hBw1 hbd
  go_enter Tryz.func48, Tryz.ntmps48
  go_wp2
  go_region_held3 (fun W => W.cell? ⟨w.heap.size, 1, none⟩ = some (.string (str m.s.a)) ∧ W.cell? ⟨w.heap.size, 2, none⟩ = some (.string (str m.s.b)) ∧ W.cell? ⟨w.heap.size, 3, none⟩ = some (.string (str m.s.c)) ∧ W.cell? ⟨w.heap.size, 4, none⟩ = some (.string (str m.s.sep))) (first | (with_reducible exact D1) | (with_reducible exact D2) | (with_reducible exact D3.out _) | (with_reducible exact D4) | (with_reducible assumption) | fail)
    (first
      | (go_at_call 77; (with_reducible refine (CQ.out _ hd1).mono ?_); rintro e w2 ⟨q, rfl, D2, D3, CWq⟩)
      | (go_at_call 27; (with_reducible refine CWq.out.mono ?_); rintro e w3 ⟨rfl, D4, H3⟩)
      | fail)
  all_goals
    go_wp2
    go_end0
    exact H3.out

set_option maxHeartbeats 8000000 in
set_option maxRecDepth 100000 in
theorem pjoins_any {w : World} {g B : Nat} {t : List UInt8} {lg dp : Bool} (h : Wr w g B t lg dp) (m : Ms) (hl : Lts m.s) :
    Calls Tryz.prog 49 #[.pointer (some ⟨g, 0, none⟩), .agg m.C] w (PutT g B t (blankL [wJoin, m.s.a ++ [44], m.s.b, wWith, quoteL m.s.sep, wInto, m.s.c]) lg dp w) := by
  obtain ⟨s1, h1⟩ := sp_start h m
  obtain ⟨w1, hw1⟩ : ∃ w1, w.alloc (.cells m.C 42) = w1 := ⟨_, rfl⟩
  rw [hw1] at s1 h1
  have hB := h.Bw
  have hBw1 := h1.Bw
  have hbd : Below w1.heap.size w1 w1.drew := Below.thenN (Below.refl _ _) 1
  have hd1 : Sp w g B m w1.drew ∧ Wr w1.drew g B t lg dp := ⟨s1.next (Pr.of hbd hBw1), h1.below hbd⟩
  obtain ⟨c1, c2, c3, c4, -, -⟩ := s1.cells
  have D1 : w1.drew.cell? ⟨w.heap.size, 1, none⟩ = some (.string (str m.s.a)) ∧ w1.drew.cell? ⟨w.heap.size, 2, none⟩ = some (.string (str m.s.b)) ∧ w1.drew.cell? ⟨w.heap.size, 3, none⟩ = some (.string (str m.s.c)) ∧ w1.drew.cell? ⟨w.heap.size, 4, none⟩ = some (.string (str m.s.sep)) := by
    obtain ⟨z1, z2, z3, z4, -, -⟩ := hd1.1.cells
    exact ⟨z1, z2, z3, z4⟩
  have hsz : ¬ 9223372036854775807 < (str m.s.a).size + (⟨#[44]⟩ : ByteArray).size := by
    have := hl.a
    rw [str_size]
    show ¬ 9223372036854775807 < m.s.a.length + 1
    omega
  have hsz1 : ¬ 9223372036854775807 < (str m.s.a).size + 1 := hsz
  have CQ : Hid (∀ W, Sp w g B m W ∧ Wr W g B t lg dp → Calls Tryz.prog 77 #[.pointer (some ⟨g, 0, none⟩), .string (str m.s.sep)] W fun e w' => ∃ q, e = .returned (.string q) ∧
      (w'.cell? ⟨w.heap.size, 1, none⟩ = some (.string (str m.s.a)) ∧ w'.cell? ⟨w.heap.size, 2, none⟩ = some (.string (str m.s.b)) ∧ w'.cell? ⟨w.heap.size, 3, none⟩ = some (.string (str m.s.c)) ∧ w'.cell? ⟨w.heap.size, 4, none⟩ = some (.string (str m.s.sep))) ∧ Hid (∀ o, ((w'.alloc o).cell? ⟨w.heap.size, 1, none⟩ = some (.string (str m.s.a)) ∧ (w'.alloc o).cell? ⟨w.heap.size, 2, none⟩ = some (.string (str m.s.b)) ∧ (w'.alloc o).cell? ⟨w.heap.size, 3, none⟩ = some (.string (str m.s.c)) ∧ (w'.alloc o).cell? ⟨w.heap.size, 4, none⟩ = some (.string (str m.s.sep)))) ∧
      Hid (Calls Tryz.prog 27 #[.pointer (some ⟨g, 0, none⟩), .slice (some ⟨w'.heap.size, 0, none⟩) 7 7] (w'.alloc (.cells #[.string ⟨#[106, 111, 105, 110]⟩, .string (str m.s.a ++ ⟨#[44]⟩), .string (str m.s.b), .string ⟨#[119, 105, 116, 104]⟩, .string q, .string ⟨#[105, 110, 116, 111]⟩, .string (str m.s.c)] 9)) fun e w'' => e = .returned (.tuple #[]) ∧ (w''.cell? ⟨w.heap.size, 1, none⟩ = some (.string (str m.s.a)) ∧ w''.cell? ⟨w.heap.size, 2, none⟩ = some (.string (str m.s.b)) ∧ w''.cell? ⟨w.heap.size, 3, none⟩ = some (.string (str m.s.c)) ∧ w''.cell? ⟨w.heap.size, 4, none⟩ = some (.string (str m.s.sep))) ∧ Hid (PutT g B t (blankL [wJoin, m.s.a ++ [44], m.s.b, wWith, quoteL m.s.sep, wInto, m.s.c]) lg dp w (.returned (.tuple #[])) w''))) := fun W hW => by
    refine Calls.mono (pquote_any hW.2 (str m.s.sep) (by rw [str_size]; have := hl.sep; omega)) ?_
    rintro e w' ⟨rfl, h2, h3⟩
    rw [str_size] at h2
    have s4 := hW.1.next h3
    obtain ⟨z1, z2, z3, z4, -, -⟩ := s4.cells
    refine ⟨_, rfl, ⟨z1, z2, z3, z4⟩, ?_, ?_⟩
    · intro o
      obtain ⟨y1, y2, y3, y4, -, -⟩ := (s4.next (Pr.of ((Below.refl _ w').alloc (Nat.le_refl _) o) h2.Bw)).cells
      exact ⟨y1, y2, y3, y4⟩
    have FC : ∀ w'', Pr g B w' w'' → w''.cell? ⟨w.heap.size, 1, none⟩ = some (.string (str m.s.a)) ∧ w''.cell? ⟨w.heap.size, 2, none⟩ = some (.string (str m.s.b)) ∧ w''.cell? ⟨w.heap.size, 3, none⟩ = some (.string (str m.s.c)) ∧ w''.cell? ⟨w.heap.size, 4, none⟩ = some (.string (str m.s.sep)) := fun w'' hp => by
      obtain ⟨y1, y2, y3, y4, -, -⟩ := (s4.next hp).cells
      exact ⟨y1, y2, y3, y4⟩
    have hge := qbs_ge m.s.sep
    have hall : ∀ x : List UInt8, x.length ≤ 4611686018427387904 → ∀ y ∈ [wJoin, m.s.a ++ [44], m.s.b, wWith, x, wInto, m.s.c], y.length ≤ 4611686018427387904 := by
      intro x hx y hy
      have := hl.a
      have := hl.b
      have := hl.c
      simp only [List.mem_cons, List.not_mem_nil, or_false] at hy
      rcases hy with rfl | rfl | rfl | rfl | rfl | rfl | rfl <;> first | exact hx | omega | exact w_le _ (by decide) | (rw [List.length_append, List.length_singleton]; omega)
    by_cases ho : over t m.s.sep.length lg = true
    · have eq : (if over t (str m.s.sep).size lg = true then [] else quoteL (ls (str m.s.sep))) = ([] : List UInt8) := by rw [str_size, if_pos ho]
      rw [eq]
      rw [ho] at h2
      refine (pwords_new h2 [wJoin, m.s.a ++ [44], m.s.b, wWith, [], wInto, m.s.c] 7 rfl (hall [] (by decide)) (by decide) _ ?_).mono ?_
      · simp only [List.map_cons, List.map_nil]
        rw [← str_app]
        rfl
      · rintro e w'' ⟨rfl, h4, h5⟩
        refine ⟨rfl, FC _ h5, rfl, ?_, s4.pr.trans h5⟩
        rw [over_mono t m.s.sep.length (blankL [wJoin, m.s.a ++ [44], m.s.b, wWith, quoteL m.s.sep, wInto, m.s.c]).length lg (by
          unfold blankL inter
          simp only [List.flatMap_cons, List.flatMap_nil, List.length_append, List.length_cons, List.length_nil]
          omega) ho]
        exact Wr.room h4
    · have hof : over t m.s.sep.length lg = false := by simpa using ho
      have eq : (if over t (str m.s.sep).size lg = true then [] else quoteL (ls (str m.s.sep))) = quoteL m.s.sep := by rw [str_size, if_neg ho, ls_str]
      rw [eq]
      rw [hof] at h2
      have hlg : lg = false := by
        unfold over at hof
        simp only [Bool.or_eq_false_iff] at hof
        exact hof.1
      subst hlg
      have hq : (quoteL m.s.sep).length ≤ 4611686018427387904 := by
        have := (qbs_len m.s.sep).2
        unfold over at hof
        simp only [Bool.false_or, decide_eq_false_iff_not] at hof
        unfold quoteL
        simp only [List.length_cons, List.length_append, List.length_nil]
        omega
      refine (pwords_new h2 [wJoin, m.s.a ++ [44], m.s.b, wWith, quoteL m.s.sep, wInto, m.s.c] 7 rfl (hall _ hq) (by decide) _ ?_).mono ?_
      · simp only [List.map_cons, List.map_nil]
        rw [← str_app]
        rfl
      · rintro e w'' ⟨rfl, h4, h5⟩
        exact ⟨rfl, FC _ h5, rfl, h4, s4.pr.trans h5⟩
  clear h h1 s1 hl hB hBw1 hbd
  go_enter Tryz.func49, Tryz.ntmps49
  go_wp2
  go_region_held3 (fun W => W.cell? ⟨w.heap.size, 1, none⟩ = some (.string (str m.s.a)) ∧ W.cell? ⟨w.heap.size, 2, none⟩ = some (.string (str m.s.b)) ∧ W.cell? ⟨w.heap.size, 3, none⟩ = some (.string (str m.s.c)) ∧ W.cell? ⟨w.heap.size, 4, none⟩ = some (.string (str m.s.sep))) (first | (with_reducible exact D1) | (with_reducible exact D2) | (with_reducible exact D3.out _) | (with_reducible exact D4) | (with_reducible assumption) | fail)
    (first
      | (go_at_call 77; (with_reducible refine (CQ.out _ hd1).mono ?_); rintro e w2 ⟨q, rfl, D2, D3, CWq⟩)
      | (go_at_call 27; (with_reducible refine CWq.out.mono ?_); rintro e w3 ⟨rfl, D4, H3⟩)
      | fail)
  all_goals
    go_wp2
    go_end0
    exact H3.out
end Go.Proofs.YtipcgmaobiobbaaGreatDoor
