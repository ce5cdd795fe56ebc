/- The walks of the code: steps written, but for splits and joins. -/
import Derived.Test.YtipcgmaobiobbaaGreatDoorPrTrOk
namespace Go.Proofs.YtipcgmaobiobbaaGreatDoor
open Go.RowKit

theorem str_app (a b : List UInt8) : str a ++ str b = str (a ++ b) := by
  apply ByteArray.ext
  rw [ByteArray.data_append]
  simp [str]
/-- a step's copy in a block, and what stood before; but the writer turns -/
structure Sp (w : World) (g B : Nat) (m : Ms) (W : World) : Prop where
  cb : CB W w.heap.size 42 m.C
  pr : Pr g B w W
  ne : w.heap.size ≠ g
theorem Sp.next {w W W' : World} {g B : Nat} {m : Ms} (h : Sp w g B m W) (hp : Pr g B W W') : Sp w g B m W' := ⟨h.cb.pr hp h.ne (by decide), h.pr.trans hp, h.ne⟩
theorem Sp.cells {w W : World} {g B : Nat} {m : Ms} (h : Sp w g B m W) : W.cell? ⟨w.heap.size, 1, none⟩ = some (.string (str m.s.a)) ∧ W.cell? ⟨w.heap.size, 2, none⟩ = some (.string (str m.s.b)) ∧ W.cell? ⟨w.heap.size, 3, none⟩ = some (.string (str m.s.c)) ∧
    W.cell? ⟨w.heap.size, 4, none⟩ = some (.string (str m.s.sep)) ∧ W.cell? ⟨w.heap.size, 5, none⟩ = some (.string (str m.s.ty)) ∧ W.cell? ⟨w.heap.size, 6, none⟩ = some (.slice m.A m.s.v.length m.c) :=
  ⟨h.cb.at_ 1, h.cb.at_ 2, h.cb.at_ 3, h.cb.at_ 4, h.cb.at_ 5, h.cb.at_ 6⟩
theorem sp_start {w : World} {g B : Nat} {t : List UInt8} {lg dp : Bool} (h : Wr w g B t lg dp) (m : Ms) : Sp w g B m (w.alloc (.cells m.C 42)) ∧ Wr (w.alloc (.cells m.C 42)) g B t lg dp := by
  have hb : Below w.heap.size w (w.alloc (.cells m.C 42)) := (Below.refl _ w).alloc (Nat.le_refl _) _
  have := h.len
  exact ⟨⟨CB.new w _ _, Pr.of hb h.Bw, by omega⟩, h.below hb⟩
/-- words out of a row just laid -/
theorem pwords_new {W : World} {g B : Nat} {t : List UInt8} {lg dp : Bool} (h : Wr W g B t lg dp) (l : List (List UInt8)) (n : Nat) (hn : l.length = n) (hs : ∀ x ∈ l, x.length ≤ 4611686018427387904) (hl : n ≤ 100) (cs : Array Value) (hcs : (l.map fun x => Value.string (str x)).toArray = cs) :
    Calls Tryz.prog 27 #[.pointer (some ⟨g, 0, none⟩), .slice (some ⟨W.heap.size, 0, none⟩) n n] (W.alloc (.cells cs 9)) (WrAt g B (t ++ blankL l) (over t (blankL l).length lg) dp W) := by
  subst hn
  have hb : Below W.heap.size W (W.alloc (.cells cs 9)) := (Below.refl _ W).alloc (Nat.le_refl _) _
  have hg := h.len
  refine (pwords_any (l := l) (b := W.heap.size) (h.below hb) (by unfold TxRow; rw [hcs]; exact CB.new W _ _) (fun x hx => by have := hs x hx; omega) hl (by omega) rfl).mono ?_
  rintro e w' ⟨rfl, h1, h2⟩
  exact ⟨rfl, h1, (Pr.of hb h.Bw).trans h2⟩
theorem w_le (l : List UInt8) (h : l.length ≤ 100) : l.length ≤ 4611686018427387904 := by omega

set_option maxHeartbeats 4000000 in
set_option maxRecDepth 100000 in
theorem pren_any {w : World} {g B : Nat} {t : List UInt8} {lg dp : Bool} (h : Wr w g B t lg dp) (m : Ms) (hl : Lts m.s) :
    Calls Tryz.prog 47 #[.pointer (some ⟨g, 0, none⟩), .agg m.C] w (PutT g B t (blankL [wRename, m.s.a, wTo, m.s.b]) lg dp w) := by
  obtain ⟨s1, h1⟩ := sp_start h m
  obtain ⟨w1, hw1⟩ : ∃ w1, w.alloc (.cells m.C 42) = w1 := ⟨_, rfl⟩
  rw [hw1] at s1 h1
  obtain ⟨c1, c2, -, -, -, -⟩ := s1.cells
  have CW : Hid (Calls Tryz.prog 27 #[.pointer (some ⟨g, 0, none⟩), .slice (some ⟨w1.heap.size, 0, none⟩) 4 4] (w1.alloc (.cells #[.string ⟨#[114, 101, 110, 97, 109, 101]⟩, .string (str m.s.a), .string ⟨#[116, 111]⟩, .string (str m.s.b)] 9)) fun e w' => e = .returned (.tuple #[]) ∧ Hid (PutT g B t (blankL [wRename, m.s.a, wTo, m.s.b]) lg dp w (.returned (.tuple #[])) w')) := by
    refine (pwords_new h1 [wRename, m.s.a, wTo, m.s.b] 4 rfl ?_ (by decide) _ rfl).mono ?_
    · intro x hx
      have := hl.a
      have := hl.b
      simp only [List.mem_cons, List.not_mem_nil, or_false] at hx
      rcases hx with rfl | rfl | rfl | rfl <;> first | omega | exact w_le _ (by decide)
    · rintro e w' ⟨rfl, h2, h3⟩
      exact ⟨rfl, rfl, h2, s1.pr.trans h3⟩
  clear h h1 s1 hl
  go_enter Tryz.func47, Tryz.ntmps47
  go_wp2_with (go_at_call 27; refine CW.out.mono ?_; rintro e w4 ⟨rfl, H4⟩)
  go_end0
  exact H4.out

set_option maxHeartbeats 4000000 in
set_option maxRecDepth 100000 in
theorem pret_any {w : World} {g B : Nat} {t : List UInt8} {lg dp : Bool} (h : Wr w g B t lg dp) (m : Ms) (hl : Lts m.s) :
    Calls Tryz.prog 50 #[.pointer (some ⟨g, 0, none⟩), .agg m.C] w (PutT g B t (blankL [wRetype, m.s.a, wTo, m.s.ty]) lg dp w) := by
  obtain ⟨s1, h1⟩ := sp_start h m
  obtain ⟨w1, hw1⟩ : ∃ w1, w.alloc (.cells m.C 42) = w1 := ⟨_, rfl⟩
  rw [hw1] at s1 h1
  obtain ⟨c1, -, -, -, c5, -⟩ := s1.cells
  have CW : Hid (Calls Tryz.prog 27 #[.pointer (some ⟨g, 0, none⟩), .slice (some ⟨w1.heap.size, 0, none⟩) 4 4] (w1.alloc (.cells #[.string ⟨#[114, 101, 116, 121, 112, 101]⟩, .string (str m.s.a), .string ⟨#[116, 111]⟩, .string (str m.s.ty)] 9)) fun e w' => e = .returned (.tuple #[]) ∧ Hid (PutT g B t (blankL [wRetype, m.s.a, wTo, m.s.ty]) lg dp w (.returned (.tuple #[])) w')) := by
    refine (pwords_new h1 [wRetype, m.s.a, wTo, m.s.ty] 4 rfl ?_ (by decide) _ rfl).mono ?_
    · intro x hx
      have := hl.a
      have := hl.ty
      simp only [List.mem_cons, List.not_mem_nil, or_false] at hx
      rcases hx with rfl | rfl | rfl | rfl <;> first | omega | exact w_le _ (by decide)
    · rintro e w' ⟨rfl, h2, h3⟩
      exact ⟨rfl, rfl, h2, s1.pr.trans h3⟩
  clear h h1 s1 hl
  go_enter Tryz.func50, Tryz.ntmps50
  go_wp2_with (go_at_call 27; refine CW.out.mono ?_; rintro e w4 ⟨rfl, H4⟩)
  go_end0
  exact H4.out

set_option maxHeartbeats 4000000 in
set_option maxRecDepth 100000 in
theorem pdrop_any {w : World} {g B : Nat} {t : List UInt8} {lg dp : Bool} (h : Wr w g B t lg dp) (m : Ms) (hl : Lts m.s) :
    Calls Tryz.prog 51 #[.pointer (some ⟨g, 0, none⟩), .agg m.C] w (PutT g B t (blankL [wDrop, m.s.a]) lg dp w) := by
  obtain ⟨s1, h1⟩ := sp_start h m
  obtain ⟨w1, hw1⟩ : ∃ w1, w.alloc (.cells m.C 42) = w1 := ⟨_, rfl⟩
  rw [hw1] at s1 h1
  obtain ⟨c1, -, -, -, -, -⟩ := s1.cells
  have CW : Hid (Calls Tryz.prog 27 #[.pointer (some ⟨g, 0, none⟩), .slice (some ⟨w1.heap.size, 0, none⟩) 2 2] (w1.alloc (.cells #[.string ⟨#[100, 114, 111, 112]⟩, .string (str m.s.a)] 9)) fun e w' => e = .returned (.tuple #[]) ∧ Hid (PutT g B t (blankL [wDrop, m.s.a]) lg dp w (.returned (.tuple #[])) w')) := by
    refine (pwords_new h1 [wDrop, m.s.a] 2 rfl ?_ (by decide) _ rfl).mono ?_
    · intro x hx
      have := hl.a
      simp only [List.mem_cons, List.not_mem_nil, or_false] at hx
      rcases hx with rfl | rfl <;> first | omega | exact w_le _ (by decide)
    · rintro e w' ⟨rfl, h2, h3⟩
      exact ⟨rfl, rfl, h2, s1.pr.trans h3⟩
  clear h h1 s1 hl
  go_enter Tryz.func51, Tryz.ntmps51
  go_wp2_with (go_at_call 27; refine CW.out.mono ?_; rintro e w4 ⟨rfl, H4⟩)
  go_end0
  exact H4.out

/-- what a step's writer answers: its text, or that it was too deep -/
def StAt (g B : Nat) (t : List UInt8) (s : Rs) (lg dp : Bool) (w : World) (e : Ending) (w' : World) : Prop :=
  e = .returned (.tuple #[]) ∧ (if deepS s = true then ∃ t' lg', Wr w' g B t' lg' true else Wr w' g B (t ++ ptS s) (over t (ptS s).length lg) dp) ∧ Pr g B w w'
theorem StAt.of {g B : Nat} {t : List UInt8} {s : Rs} {S : List UInt8} {lg dp : Bool} {w w' : World} {e : Ending} (h : PutT g B t S lg dp w e w') (hS : ptS s = S) (hv : s.v = []) : StAt g B t s lg dp w e w' := by
  obtain ⟨h1, h2, h3⟩ := h
  refine ⟨h1, ?_, h3⟩
  have : deepS s = false := by unfold deepS; rw [hv, expr_nil rfl]
  rw [this, if_neg (by decide), hS]
  exact h2

set_option maxHeartbeats 4000000 in
set_option maxRecDepth 100000 in
theorem padd_any {w : World} {g B : Nat} {t : List UInt8} {lg dp : Bool} (h : Wr w g B t lg dp) {m : Ms} (hm : MsAt w B m) (hT : Ten w B) (hk : m.s.kind = 1) (hok : m.s.v = [] ∨ (exprP m.s.v).isSome = true) :
    Calls Tryz.prog 46 #[.pointer (some ⟨g, 0, none⟩), .agg m.C] w (StAt g B t m.s lg dp w) := by
  have hl := hm.lt
  have hB := h.Bw
  obtain ⟨s1, h1⟩ := sp_start h m
  obtain ⟨w1, hw1⟩ : ∃ w1, w.alloc (.cells m.C 42) = w1 := ⟨_, rfl⟩
  rw [hw1] at s1 h1
  obtain ⟨c1, -, -, -, c5, -⟩ := s1.cells
  obtain ⟨n, hn⟩ : ∃ n, m.s.v.length = n := ⟨_, rfl⟩
  obtain ⟨U, hU⟩ : ∃ U, blankL [wAdd, m.s.a ++ [58], m.s.ty] = U := ⟨_, rfl⟩
  have hpt : ptS m.s = U ++ exT m.s := by unfold ptS; rw [if_pos hk, hU]
  have hsz : ¬ 9223372036854775807 < (str m.s.a).size + (⟨#[58]⟩ : ByteArray).size := by
    have := hl.a
    rw [str_size]
    show ¬ 9223372036854775807 < m.s.a.length + 1
    omega
  have CW : Hid (Calls Tryz.prog 27 #[.pointer (some ⟨g, 0, none⟩), .slice (some ⟨w1.heap.size, 0, none⟩) 3 3] (w1.alloc (.cells #[.string ⟨#[97, 100, 100]⟩, .string (str m.s.a ++ ⟨#[58]⟩), .string (str m.s.ty)] 9)) fun e w' => e = .returned (.tuple #[]) ∧ w'.cell? ⟨w.heap.size, 6, none⟩ = some (.slice m.A n m.c) ∧ Hid (Wr w' g B (t ++ U) (over t U.length lg) dp ∧ Sp w g B m w')) := by
    rw [← hU]
    refine (pwords_new h1 [wAdd, m.s.a ++ [58], m.s.ty] 3 rfl ?_ (by decide) _ ?_).mono ?_
    · intro x hx
      have := hl.a
      have := hl.ty
      simp only [List.mem_cons, List.not_mem_nil, or_false] at hx
      rcases hx with rfl | rfl | rfl <;> first | omega | exact w_le _ (by decide) | (rw [List.length_append, List.length_singleton]; omega)
    · simp only [List.map_cons, List.map_nil]
      rw [← str_app]
      rfl
    · rintro e w' ⟨rfl, h2, h3⟩
      have s4 := s1.next h3
      refine ⟨rfl, ?_, h2, s4⟩
      rw [← hn]
      exact s4.cells.2.2.2.2.2
  by_cases hv : m.s.v = []
  · obtain rfl : n = 0 := by rw [← hn, hv]; rfl
    have hz : (0 : Int) < ((0 : Nat) : Int) ↔ False := by simp
    have END : Hid (∀ w', Wr w' g B (t ++ U) (over t U.length lg) dp ∧ Sp w g B m w' → StAt g B t m.s lg dp w (.returned (.tuple #[])) w') := fun w' hw => by
      refine StAt.of ⟨rfl, hw.1, hw.2.pr⟩ ?_ hv
      rw [hpt]
      unfold exT
      rw [hv, expr_nil rfl]
      exact List.append_nil _
    clear h h1 s1 hl hpt hU hm hn hok
    go_enter Tryz.func46, Tryz.ntmps46
    go_wp2_with (go_at_call 27; refine CW.out.mono ?_; rintro e w4 ⟨rfl, d6, H4⟩)
    go_end0
    exact END.out _ H4.out
  · obtain ⟨e0, hE⟩ := Option.isSome_iff_exists.1 (hok.resolve_left hv)
    have hpos : 0 < n := by rw [← hn]; exact List.length_pos_iff.2 hv
    have hz : (0 : Int) < (n : Int) := by omega
    have CP : Hid (∀ W, Wr W g B (t ++ U) (over t U.length lg) dp ∧ Sp w g B m W → Calls Tryz.prog 29 #[.pointer (some ⟨g, 0, none⟩), .string ⟨#[32, 61, 32]⟩] W fun e w' => e = .returned (.tuple #[]) ∧ w'.cell? ⟨w.heap.size, 6, none⟩ = some (.slice m.A n m.c) ∧
        Hid (Calls Tryz.prog 22 #[.pointer (some ⟨g, 0, none⟩), .slice m.A n m.c] w' fun e w'' => e = .returned (.tuple #[]) ∧ Hid (StAt g B t m.s lg dp w (.returned (.tuple #[])) w''))) := fun W hW => by
      refine Calls.mono (pput_any hW.1 (str [32, 61, 32]) (by rw [str_size]; decide)) ?_
      rintro e w' ⟨rfl, h2, h3⟩
      rw [ls_str, str_size, over_two _ _ _ _ _ rfl] at h2
      have s4 := hW.2.next h3
      refine ⟨rfl, by rw [← hn]; exact s4.cells.2.2.2.2.2, ?_⟩
      have hp := s4.pr
      have := pexp_any (c := m.c) h2 (hm.rn.below hp.bl) (hT.below hp.bl) hl.few hE
      rw [hn] at this
      refine this.mono ?_
      rintro e w'' ⟨rfl, h4, h5⟩
      refine ⟨rfl, rfl, ?_, hp.trans h5⟩
      have ed : deepS m.s = decide (100 < e0.dp) := by unfold deepS; rw [hE]
      have ex : exT m.s = [32, 61, 32] ++ e0.tx := by unfold exT; rw [hE]
      by_cases hd : e0.dp ≤ 100
      · rw [if_pos hd] at h4
        rw [ed, decide_eq_false (by omega), if_neg (by decide), hpt, ex]
        rw [List.append_assoc t, List.append_assoc t, over_two t _ _ lg _ (List.length_append)] at h4
        have e2 : (U ++ ([32, 61, 32] ++ e0.tx)).length = U.length + ([32, 61, 32] : List UInt8).length + e0.tx.length := by rw [List.length_append, List.length_append, Nat.add_assoc]
        rw [e2, ← List.append_assoc U]
        exact h4
      · rw [if_neg hd] at h4
        rw [ed, decide_eq_true (by omega), if_pos rfl]
        exact ⟨_, _, h4⟩
    clear h h1 s1 hl hpt hU hm hn hok hE hv hT
    go_enter Tryz.func46, Tryz.ntmps46
    go_wp2_with (first
      | (go_at_call 27; refine CW.out.mono ?_; rintro e w4 ⟨rfl, d6, H4⟩; have cp := CP.out w4 H4.out)
      | (go_at_call 29; refine cp.mono ?_; rintro e w5 ⟨rfl, d7, H5⟩; have cx := H5.out)
      | (go_at_call 22; refine cx.mono ?_; rintro e w6 ⟨rfl, H6⟩))
    go_end0
    exact H6.out
end Go.Proofs.YtipcgmaobiobbaaGreatDoor
