/- The walks of the code: the library's builder in the writer; whether there is room; a text put. -/
import Derived.Test.YtipcgmaobiobbaaGreatDoorPrBld
namespace Go.Proofs.YtipcgmaobiobbaaGreatDoor
open Go.RowKit
open Go.Lib (byteCells)

set_option maxHeartbeats 1000000 in
set_option maxRecDepth 100000 in
theorem pchk_any {w : World} {g B : Nat} {p : Value} {A : Option Addr} {c : Nat} {l : List UInt8} {dp lg : Bool} (h : Wb w g B p A c l dp lg) :
    Calls Tryz.prog 81 #[.pointer (some ⟨g, 0, none⟩)] w fun e w' => e = .returned (.tuple #[]) ∧ Wb w' g B (selfP g) A c l dp lg ∧ Gn g w w' := by
  obtain ⟨j, hj, hjs⟩ := Option.map_eq_some_iff.1 bxtra.sizeBuilder
  obtain ⟨c0, _, _, _⟩ := h.cells
  rcases h.p with hp | hp
  · subst hp
    have hfz := h.cb.frozen 0
    have hsh : w.shape? g = some (75, 24) := by
      have := h.cb
      unfold CB at this
      simp [World.shape?, this, wr_size]
    have END : Hid (Wb (w.setCell ⟨g, 0, none⟩ (.pointer (some ⟨g, 0, none⟩))) g B (selfP g) A c l dp lg ∧ Gn g w (w.setCell ⟨g, 0, none⟩ (.pointer (some ⟨g, 0, none⟩)))) :=
      ⟨h.setF 0 _ (selfP g) dp lg rfl (.inr rfl), (Gn.refl g w).set 0 _⟩
    clear h
    go_enter Tryz.func81, Tryz.ntmps81
    go_wp2
    rw [Lib.run_to_unsafe w ⟨g, 0, none⟩ Tryz.underlying66 Tryz.underlying144 hj (by rw [hjs]; decide) hsh (by show 0 < 24; decide)]
    simp only [Result.andThen]
    rw [Oper.upon_value]
    go_wp2
    rw [run_callFunc_extern Tryz.func99 (by kernel_rfl) (by kernel_rfl) (by kernel_rfl) (e := Extern.AbiNoEscape.same) (by kernel_rfl)]
    rw [Lib.run_noEscape]
    simp only [Result.andThen]
    rw [Oper.upon_value]
    go_wp2
    rw [Lib.run_from_unsafe w ⟨g, 0, none⟩ Tryz.underlying144 Tryz.underlying66 hj hsh lies0]
    simp only [Result.andThen]
    rw [Oper.upon_value]
    go_wp2
    go_end0
    exact ⟨rfl, END.out⟩
  · subst hp
    have END : Hid (Wb w g B (selfP g) A c l dp lg) := h
    clear h
    unfold selfP at c0
    go_enter Tryz.func81, Tryz.ntmps81
    go_wp2
    rw [Lib.run_neq_ptr_same w _ Tryz.underlying66 hj]
    go_wp2
    go_end0
    exact ⟨rfl, END.out, Gn.refl g _⟩

set_option maxHeartbeats 1000000 in
set_option maxRecDepth 100000 in
theorem plen_any {w : World} {g B : Nat} {p : Value} {A : Option Addr} {c : Nat} {l : List UInt8} {dp lg : Bool} (h : Wb w g B p A c l dp lg) :
    Calls Tryz.prog 80 #[.pointer (some ⟨g, 0, none⟩)] w fun e w' => e = .returned (.int .i64 (l.length : Nat)) ∧ w = w' := by
  obtain ⟨_, c1, _, _⟩ := h.cells
  clear h
  go_enter Tryz.func80, Tryz.ntmps80
  go_wp2
  go_ret
  exact ⟨rfl, rfl⟩

set_option maxHeartbeats 2000000 in
set_option maxRecDepth 100000 in
theorem pwrite_any {w : World} {g B : Nat} {p : Value} {A : Option Addr} {c : Nat} {l : List UInt8} {dp lg : Bool} (h : Wb w g B p A c l dp lg) (s : ByteArray) (hlen : l.length + s.size ≤ 140737488355328) (hB : B ≤ w.heap.size) :
    Calls Tryz.prog 54 #[.pointer (some ⟨g, 0, none⟩), .string s] w fun e w' => (∃ v, e = .returned v) ∧ ∃ A' c', Wb w' g B (selfP g) A' c' (l ++ ls s) dp lg ∧ Pr g B w w' := by
  obtain ⟨i0, hi, hz0, hz1, hz2⟩ := info_parts infoB
  have cc := pchk_any h
  clear h
  go_enter Tryz.func54, Tryz.ntmps54
  go_wp2_with (go_at_call 81; refine cc.mono ?_)
  rintro e w1 ⟨rfl, h1, hg1⟩
  have hs1 := hg1.size
  have H1 := Lib.hid h1
  obtain ⟨_, c1, _, _⟩ := h1.cells
  have hown := h1.own
  have hbl := Go.Lib.byteCells_length l
  clear h1
  go_wp2_with (at_builtin; refine Lib.wpList_append_own_string _ rfl _ _ 67 9 rfl B 5 i0 Tryz.underlying67 Tryz.underlying9 hi hz0 hz1 hz2 _ _ _ rfl hown s rfl ?c3 ?c4 ?c5 ?_)
  case c3 => unfold maxLen; omega
  case c4 => omega
  case c5 => omega
  intro v' w2 hown' hgrow hnew
  have hb2 : w2.heap[g]? = w1.heap[g]? := hgrow.block g H1.out.len fun e => H1.out.ne e.symm
  have h2 := H1.out.cb.keep hb2
  have d1 : w2.cell? ⟨g, 1, none⟩ = some (.slice A l.length c) := h2.at_ 1
  have f1 := h2.frozen 1
  have hz : (l ++ ls s).length = l.length + s.size := by rw [List.length_append, ls_size]
  obtain ⟨A', c', rfl⟩ : ∃ A' c', v' = .slice A' (l.length + s.size) c' := by
    rcases hown'.2 with ⟨hv, h0⟩ | ⟨g2, cap, cur, hv, _⟩
    · exact ⟨none, 0, by rw [hv, h0]⟩
    · exact ⟨_, _, hv⟩
  have hownr : OwnB w2 B 5 A' c' (l ++ ls s) := by
    unfold OwnB
    rw [hz, Go.Lib.byteCells_append]
    exact hown'
  have hneg : obk A' ≠ some g := fun e => by
    rw [← obk_own A' (l.length + s.size) c'] at e
    rcases hown'.2 with ⟨hv, _⟩ | ⟨g2, cap, cur, hv, _, hc, _⟩
    · rw [hv] at e; cases e
    · rw [hv] at e
      obtain rfl : g2 = g := Option.some.inj e
      unfold CB at h2
      rw [h2] at hc
      cases hc
  have END : Hid (Wb (w2.setCell ⟨g, 1, none⟩ (.slice A' (l.length + s.size) c')) g B (selfP g) A' c' (l ++ ls s) dp lg ∧ Pr g B w (w2.setCell ⟨g, 1, none⟩ (.slice A' (l.length + s.size) c'))) := by
    have hg3 : Gn g w2 (w2.setCell ⟨g, 1, none⟩ (.slice A' (l.length + s.size) c')) := (Gn.refl g w2).set 1 _
    have hge := H1.out.own_ge
    have hB1 : B ≤ w1.heap.size := by omega
    have hbl2 : Below B w1 w2 := ⟨hgrow.os, hgrow.tape, hgrow.output, hgrow.size, fun k hk => hgrow.block k (by omega) fun e => by
      rw [obk_own] at e
      have := (hge k e.symm).1
      omega⟩
    have hp12 : Pr g B w1 w2 := ⟨hbl2, fun k hk _ hnb => hgrow.block k hk fun e => by
      rcases H1.out.own.2 with ⟨hv, _⟩ | ⟨g2, cap, cur, hv, _, hc, _⟩
      · rw [hv] at e; cases e
      · rw [hv] at e
        obtain rfl : k = g2 := Option.some.inj e
        exact hnb _ _ hc⟩
    refine ⟨⟨?_, .inr rfl, ownsRow_keep hownr fun k hk => hg3.other ?_ (fun e => hneg (by rw [hk, e])), H1.out.gB, fun e => hneg (by rw [← obk_own A' (l ++ ls s).length c']; exact e)⟩, ((Pr.gn hg1 hB H1.out.gB).trans hp12).trans (Pr.gn hg3 (Nat.le_trans hB1 hgrow.size) H1.out.gB)⟩
    · have := heap_setCell_same w2 g 1 _ _ (.slice A' (l.length + s.size) c') h2
      unfold CB
      rw [hz]
      exact this
    · exact (World.ownsRow.lt hownr k (by rw [obk_own]; exact hk)).2
  clear hown' hgrow hnew hb2 h2 hownr hneg hown c1
  go_wp2
  go_ret2
  exact ⟨⟨_, rfl⟩, _, _, END.out⟩

/-- the writer's state: what it should have written, whether it has given that up -/
structure Wr (w : World) (g B : Nat) (t : List UInt8) (lg dp : Bool) : Prop where
  wb : ∃ p A c l, Wb w g B p A c l dp lg ∧ l.length ≤ 1048576 ∧ (lg = false → l = t)
  Bw : B ≤ w.heap.size
section
variable {w w' : World} {g B : Nat} {t : List UInt8} {lg dp : Bool}
theorem Wr.len (h : Wr w g B t lg dp) : g < w.heap.size := by
  obtain ⟨⟨p, A, c, l, h, _⟩, _⟩ := h
  exact h.len
theorem Wr.gB (h : Wr w g B t lg dp) : B ≤ g := by
  obtain ⟨⟨p, A, c, l, h, _⟩, _⟩ := h
  exact h.gB
theorem Wr.below (h : Wr w g B t lg dp) (hb : Below w.heap.size w w') : Wr w' g B t lg dp := by
  obtain ⟨⟨p, A, c, l, h1, h2⟩, h3⟩ := h
  exact ⟨⟨p, A, c, l, h1.below hb, h2⟩, Nat.le_trans h3 hb.size⟩
theorem Wr.off {b : Nat} {T : TypeId} {cs : Array Value} (h : Wr w g B t lg dp) (hb : CB w b T cs) (hT : T ≠ 75) : b ≠ g := fun e => by
  obtain ⟨⟨p, A, c, l, h1, _⟩, _⟩ := h
  have h2 := h1.cb
  subst e
  unfold CB at hb h2
  rw [h2] at hb
  cases hb
  exact hT rfl
end
/-- no room left, or none before -/
def over (t : List UInt8) (n : Nat) (lg : Bool) : Bool := lg || decide (1048576 < t.length + n)

set_option maxHeartbeats 2000000 in
set_option maxRecDepth 100000 in
theorem pfits_any {w : World} {g B : Nat} {t : List UInt8} {lg dp : Bool} (h : Wr w g B t lg dp) (s : ByteArray) (hs : s.size ≤ 9223372036854775807) :
    Calls Tryz.prog 53 #[.pointer (some ⟨g, 0, none⟩), .string s] w fun e w' => e = .returned (.bool (!over t s.size lg)) ∧ Wr w' g B t (over t s.size lg) dp ∧ Gn g w w' := by
  obtain ⟨⟨p, A, c, l, h1, hl, hlt⟩, hBw⟩ := h
  obtain ⟨_, c1, _, c3⟩ := h1.cells
  have f3 := h1.cb.frozen 3
  have hp := h1.p
  obtain ⟨o, ho⟩ : ∃ o, over t s.size lg = o := ⟨_, rfl⟩
  rw [ho]
  have END : Hid (Wr (w.setCell ⟨g, 3, none⟩ (.bool o)) g B t o dp ∧ Gn g w (w.setCell ⟨g, 3, none⟩ (.bool o))) := by
    refine ⟨⟨⟨p, A, c, l, h1.setF 3 _ p dp o rfl hp, hl, fun e => hlt ?_⟩, by simpa using hBw⟩, (Gn.refl g w).set 3 _⟩
    rw [← ho] at e
    unfold over at e
    simp only [Bool.or_eq_false_iff] at e
    exact e.1
  cases lg with
  | true =>
    have ho2 : o = true := by rw [← ho]; rfl
    subst ho2
    clear h1 ho
    go_enter Tryz.func53, Tryz.ntmps53
    go_wp2
    go_ret
    exact ⟨rfl, END.out⟩
  | false =>
    have hlt2 := hlt rfl
    have hln : l.length = t.length := by rw [hlt2]
    have cl := plen_any h1
    have hsz : (0 : Int) ≤ (s.size : Int) := by omega
    cases o with
    | true =>
      have hgt : (1048576 : Int) - (l.length : Int) < (s.size : Int) := by
        unfold over at ho
        simp only [Bool.false_or, decide_eq_true_eq] at ho
        omega
      clear h1 ho hlt hlt2 hln
      go_enter Tryz.func53, Tryz.ntmps53
      go_wp2_with (go_at_call 80; refine cl.mono ?_; rintro e w2 ⟨rfl, rfl⟩)
      go_ret
      exact ⟨rfl, END.out⟩
    | false =>
      have hgt : decide ((1048576 : Int) - (l.length : Int) < (s.size : Int)) = false := by
        unfold over at ho
        simp only [Bool.false_or, decide_eq_false_iff_not] at ho
        rw [decide_eq_false_iff_not]
        omega
      clear h1 ho hlt hlt2 hln
      go_enter Tryz.func53, Tryz.ntmps53
      go_wp2_with (go_at_call 80; refine cl.mono ?_; rintro e w2 ⟨rfl, rfl⟩)
      go_ret
      exact ⟨rfl, END.out⟩

/-- what a call that writes answers: the state -/
def WrAt (g B : Nat) (t : List UInt8) (lg dp : Bool) (w : World) (e : Ending) (w' : World) : Prop := e = .returned (.tuple #[]) ∧ Wr w' g B t lg dp ∧ Pr g B w w'
theorem Wr.room {w : World} {g B : Nat} {t t' : List UInt8} {dp : Bool} (h : Wr w g B t true dp) : Wr w g B t' true dp := by
  obtain ⟨⟨p, A, c, l, h1, hl, _⟩, hB⟩ := h
  exact ⟨⟨p, A, c, l, h1, hl, nofun⟩, hB⟩

set_option maxHeartbeats 2000000 in
set_option maxRecDepth 100000 in
theorem pput_any {w : World} {g B : Nat} {t : List UInt8} {lg dp : Bool} (h : Wr w g B t lg dp) (s : ByteArray) (hs : s.size ≤ 9223372036854775807) :
    Calls Tryz.prog 29 #[.pointer (some ⟨g, 0, none⟩), .string s] w (WrAt g B (t ++ ls s) (over t s.size lg) dp w) := by
  have cf := pfits_any h s hs
  have hB := h.Bw
  have hgB := h.gB
  obtain ⟨o, ho⟩ : ∃ o, over t s.size lg = o := ⟨_, rfl⟩
  rw [ho] at cf ⊢
  clear h
  cases o with
  | true =>
    go_enter Tryz.func29, Tryz.ntmps29
    go_wp2_with (go_at_call 53; refine cf.mono ?_; rintro e w2 ⟨rfl, h2, hg2⟩)
    go_end0
    exact ⟨rfl, h2.room, Pr.gn hg2 hB hgB⟩
  | false =>
    have hlen : t.length + s.size ≤ 1048576 := by
      unfold over at ho
      simp only [Bool.or_eq_false_iff, decide_eq_false_iff_not] at ho
      omega
    have NX : Hid (∀ w2, Wr w2 g B t false dp → Gn g w w2 → Calls Tryz.prog 54 #[.pointer (some ⟨g, 0, none⟩), .string s] w2 fun e w3 => (∃ v, e = .returned v) ∧ Hid (Wr w3 g B (t ++ ls s) false dp ∧ Pr g B w w3)) := fun w2 h2 hg2 => by
      obtain ⟨⟨p, A, c, l, h1, hl, hlt⟩, hBw⟩ := h2
      obtain rfl := hlt rfl
      refine (pwrite_any h1 s (by omega) hBw).mono ?_
      rintro e w3 ⟨hv, A', c', h3, hp3⟩
      refine ⟨hv, ⟨⟨_, A', c', _, h3, by rw [List.length_append, ls_size]; exact hlen, fun _ => rfl⟩, Nat.le_trans hBw hp3.bl.size⟩, (Pr.gn hg2 hB hgB).trans hp3⟩
    clear ho
    go_enter Tryz.func29, Tryz.ntmps29
    go_wp2_with (first
      | (go_at_call 53; refine cf.mono ?_; rintro e w2 ⟨rfl, h2, hg2⟩; have cw := NX.out w2 h2 hg2; clear h2 hg2)
      | (go_at_call 54; refine cw.mono ?_; rintro e w3 ⟨⟨v, rfl⟩, H3⟩))
    go_end0
    exact ⟨rfl, H3.out⟩
end Go.Proofs.YtipcgmaobiobbaaGreatDoor
