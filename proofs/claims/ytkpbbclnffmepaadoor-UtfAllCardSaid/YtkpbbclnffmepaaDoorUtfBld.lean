/- The walk of utf.Mend: every text. The library's Builder, a rune at a time: copyCheck and WriteRune are walked here (their text in this translation is another than the shelf's). -/
import Derived.Test.YtkpbbclnffmepaaDoorUtfPut
namespace Go.Proofs.YtkpbbclnffmepaaDoor
open Go.RowKit

theorem bx : Builder.Extra Tryd.prog Tryd.lays165_ren := Tryd.Builder_Extra_165

set_option maxRecDepth 100000 in
set_option maxHeartbeats 1000000 in
/-- copyCheck of a builder that was written before -/
theorem chk_used (b : Nat) (w : World) (h0 : w.cell? ⟨b, 0, none⟩ = some (.pointer (some ⟨b, 0, none⟩))) :
    Calls Tryd.prog 33 #[.pointer (some ⟨b, 0, none⟩)] w fun e w' => e = .returned (.tuple #[]) ∧ w = w' := by
  obtain ⟨j, hj, _⟩ := Option.map_eq_some_iff.1 bx.sizeBuilder
  go_enter Tryd.func33, Tryd.ntmps33
  go_wp2
  rw [Lib.run_neq_ptr_same w _ Tryd.underlying39 hj]
  go_wp2
  go_end0
  exact ⟨rfl, rfl⟩

/-- a builder that was written before holds these bytes -/
def Bld (b : Nat) (l : List UInt8) (w : World) : Prop := Lib.BuilderAt 42 5 b b (.pointer (some ⟨b, 0, none⟩)) (Lib.byteCells l) w

set_option maxRecDepth 100000 in
set_option maxHeartbeats 1000000 in
theorem rune_any (b : Nat) (l : List UInt8) (r : Int) (hr0 : -2147483648 ≤ r) (hr1 : r ≤ 2147483647) (w : World) (h : Bld b l w) (hlen : l.length + 4 ≤ 140737488355328) (hbw : b ≤ w.heap.size) :
    Calls Tryd.prog 28 #[.pointer (some ⟨b, 0, none⟩), .int .i32 r] w fun e w' => e = .returned (.tuple #[.int .i64 (Lib.runeCells r).length, .nilIface]) ∧ Bld b (l ++ Lib.encodeRune r) w' ∧ Below b w w' ∧ Lib.OthersKept 5 (some b) w w' := by
  obtain ⟨bs, hbs⟩ : ∃ bs, bs = Lib.byteCells l := ⟨_, rfl⟩
  have hbl : bs.length = l.length := by rw [hbs, Lib.byteCells_length]
  have hres : Lib.byteCells (l ++ Lib.encodeRune r) = bs ++ Lib.runeCells r := by rw [Lib.byteCells_append, Lib.byteCells_encodeRune, hbs]
  unfold Bld at h ⊢
  rw [hres]
  rw [← hbs] at h
  rw [← hbl] at hlen
  obtain ⟨hb0, v, hbk, hown, hne⟩ := h
  obtain ⟨ao, cap, rfl⟩ : ∃ ao cap, v = .slice ao bs.length cap := by
    rcases hown.2 with ⟨hv, h0⟩ | ⟨g, cap, cur, hv, _⟩
    · exact ⟨none, 0, by rw [hv, h0]⟩
    · exact ⟨_, _, hv⟩
  have c0 : w.cell? ⟨b, 0, none⟩ = some (.pointer (some ⟨b, 0, none⟩)) := by rw [Lib.cell_of_heap hbk]; rfl
  have c1 : w.cell? ⟨b, 1, none⟩ = some (.slice ao bs.length cap) := by rw [Lib.cell_of_heap hbk]; rfl
  have hlt : b < w.heap.size := (Array.getElem?_eq_some_iff.1 hbk).1
  have hk4 := Lib.runeCells_le r
  have HB := Lib.hid hbk
  clear hbk hbs hres hbl
  go_enter Tryd.func28, Tryd.ntmps28
  go_wp2_with (go_at_call 33; refine (chk_used b _ c0).mono ?_; rintro e w1 ⟨rfl, rfl⟩)
  go_wp2_with (go_at_call 35; refine (Tryd.utf8_AppendRune_plain b _ bs.length bs r hr0 hr1 _ hown hlen hbw).mono ?_)
  rintro e w2 ⟨v', rfl, hown', o, hgrow⟩
  have hb2 : w2.heap[b]? = some (.cells #[.pointer (some ⟨b, 0, none⟩), .slice ao bs.length cap] 42 (0, 0)) := by
    rw [hgrow.block b (by simp; omega) (fun e => hne e.symm), Lib.alloc_old _ _ b hlt]
    exact HB.out
  have d0 : w2.cell? ⟨b, 0, none⟩ = some (.pointer (some ⟨b, 0, none⟩)) := by rw [Lib.cell_of_heap hb2]; rfl
  have d1 : w2.cell? ⟨b, 1, none⟩ = some (.slice ao bs.length cap) := by rw [Lib.cell_of_heap hb2]; rfl
  have f1 : w2.frozen? ⟨b, 1, none⟩ = false := Lib.frozen_of_heap hb2 1
  obtain ⟨g, cap', rfl⟩ : ∃ g cap', v' = .slice (some ⟨g, 0, none⟩) (bs.length + (Lib.runeCells r).length) cap' := by
    rcases hown'.2 with ⟨_, h0⟩ | ⟨g, cap', cur, hv, _⟩
    · omega
    · exact ⟨g, cap', hv⟩
  have HB2 := Lib.hid hb2
  clear hb2
  go_wp2
  go_ret2
  refine ⟨?_, ?_, ?_, ?_⟩
  · have e : ((bs.length : Int) + ((Lib.runeCells r).length : Int) - (bs.length : Int)) = ((Lib.runeCells r).length : Int) := by omega
    simp [e]
  · exact Lib.BuilderAt.put (T := 42) (e := 5) hb0 HB2.out (bs' := bs ++ Lib.runeCells r) (by simpa using hown') (by decide)
  · exact (((Below.refl b w).alloc hbw _).grown hgrow (by simp; omega) (fun k hk => (hown.lt k hk).1)).setCell (p := ⟨b, 1, none⟩) (Nat.le_refl _) _
  · exact (((Lib.OthersKept.refl _ _ w).alloc _).grown hgrow (Lib.ownsRowF_kind (World.ownsRowF_of (World.ownsRow.alloc hown _)))).setCell ⟨b, 1, none⟩ rfl _
end Go.Proofs.YtkpbbclnffmepaaDoor
