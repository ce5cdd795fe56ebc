/- The walks of the code: a writer made. -/
import Derived.Test.YtipcgmaobiobbaaGreatDoorPrSubt
import Derived.Test.YtipcgmaobiobbaaGreatDoorArr
namespace Go.Proofs.YtipcgmaobiobbaaGreatDoor
open Go.RowKit

set_option maxRecDepth 100000 in
set_option maxHeartbeats 4000000 in
theorem pndw_any (w : World) (g : Nat) : Calls Tryz.prog 25 #[.pointer (some ⟨g, 0, none⟩)] w fun e w' => e = .returned (.agg (ndFns g).toArray) ∧ Below w.heap.size w w' := by
  have hmf : ∀ (fn : Fn) (first cap : Array Value) (w : World), (Instr.makeFunc fn first cap).run Tryz.prog w = .ok (.func fn first cap) w := fun _ _ _ _ => rfl
  go_enter Tryz.func25, Tryz.ntmps25
  go_wp2_with (first
    | (refine wpList_build rfl 71 _ rfl (ndFns g).toArray (by kernel_rfl) ?_)
    | (refine wpList_store_last rfl 71 _ _ rfl _ _ _ rfl rfl ?hb ?hi ?hz ?h1 ?hh; (case hb => simp); (case hi => kernel_rfl); (case hz => rfl); (case h1 => kernel_rfl)))
  refine bodyPost_ret (results_row Tryz.results25 _ _ ⟨w.heap.size, 0, none⟩ (.agg (ndFns g).toArray) rfl (loadVar_last w 71 (ndFns g).toArray 13 70 (by kernel_rfl) (by kernel_rfl) _ rfl)) rfl ⟨rfl, ?_⟩
  exact (Below.refl _ w).alloc (Nat.le_refl _) _

set_option maxRecDepth 100000 in
set_option maxHeartbeats 4000000 in
theorem pstw_any (w : World) (g : Nat) : Calls Tryz.prog 26 #[.pointer (some ⟨g, 0, none⟩)] w fun e w' => e = .returned (.agg (stFns g).toArray) ∧ Below w.heap.size w w' := by
  have hmf : ∀ (fn : Fn) (first cap : Array Value) (w : World), (Instr.makeFunc fn first cap).run Tryz.prog w = .ok (.func fn first cap) w := fun _ _ _ _ => rfl
  go_enter Tryz.func26, Tryz.ntmps26
  go_wp2_with (first
    | (refine wpList_build rfl 73 _ rfl (stFns g).toArray (by kernel_rfl) ?_)
    | (refine wpList_store_last rfl 73 _ _ rfl _ _ _ rfl rfl ?hb ?hi ?hz ?h1 ?hh; (case hb => simp); (case hi => kernel_rfl); (case hz => rfl); (case h1 => kernel_rfl)))
  refine bodyPost_ret (results_row Tryz.results26 _ _ ⟨w.heap.size, 0, none⟩ (.agg (stFns g).toArray) rfl (loadVar_last w 73 (stFns g).toArray 7 72 (by kernel_rfl) (by kernel_rfl) _ rfl)) rfl ⟨rfl, ?_⟩
  exact (Below.refl _ w).alloc (Nat.le_refl _) _

theorem CB.there_at {w : World} {b : Nat} {T : TypeId} {cs : Array Value} (h : CB w b T cs) (o : Nat) {n : Nat} (hn : o + n ≤ cs.size) : w.there b o n := fun j hj => by
  refine ⟨?_, h.frozen _⟩
  rw [h.at_, Array.getElem?_eq_getElem (show o + j < cs.size by omega)]
  rfl
def wrZero : Array Value := (.pointer none :: .slice none 0 0 :: .bool false :: .bool false :: List.replicate 20 .nilFunc).toArray
def wrHalf (g : Nat) : Array Value := (.pointer none :: .slice none 0 0 :: .bool false :: .bool false :: (ndFns g ++ List.replicate 7 .nilFunc)).toArray
/-- what newWriter answers: a new block, nothing written -/
def NewAt (w : World) (e : Ending) (w' : World) : Prop := ∃ g, e = .returned (.pointer (some ⟨g, 0, none⟩)) ∧ w.heap.size ≤ g ∧ Below w.heap.size w w' ∧ Wr w' g w.heap.size [] false false ∧ w'.cell? ⟨g, 1, none⟩ = some (.slice none 0 0)

/-- a row of values written into a block from a place on: what it then holds -/
theorem CB.put {P : Program} {w : World} {b : Nat} {T : TypeId} {cs : Array Value} (h : CB w b T cs) (o : Nat) (vs : List Value) (cs' : Array Value) (hn : o + vs.length ≤ cs.size) (h1 : ∀ v ∈ vs, v.oneCell' = true) (e : (cs.toList.take o ++ vs ++ cs.toList.drop (o + vs.length)).toArray = cs') : ∃ w', Sem.run P (storeCells ⟨b, o, none⟩ vs) w = .ok () w' ∧ CB w' b T cs' ∧ Turned b w w' := by
  have ht := h.there_at o hn
  refine ⟨w.setCells b o vs, run_storeCells_cells b o vs 0 w (fun j hj => by simpa using (ht j hj).1) (fun j hj => by simpa using (ht j hj).2) h1, ?_, Turned.setCells _ _ _ (Turned.refl _ _)⟩
  rw [← e]
  exact setCells_all vs cs.toList w o (by simpa using h) (by simpa using hn)
theorem ndFns_one (g : Nat) : ∀ v ∈ ndFns g, v.oneCell' = true := by
  have h : (ndFns g).all (·.oneCell') = true := by kernel_rfl
  exact List.all_eq_true.1 h
theorem stFns_one (g : Nat) : ∀ v ∈ stFns g, v.oneCell' = true := by
  have h : (stFns g).all (·.oneCell') = true := by kernel_rfl
  exact List.all_eq_true.1 h
theorem pnew_half {P : Program} {w w2 : World} (b1 : Below w.heap.size w w2) (k2 : CB w2 w.heap.size 75 wrZero) : ∃ w3, Sem.run P (storeCells ⟨w.heap.size, 4, none⟩ (ndFns w.heap.size)) w2 = .ok () w3 ∧ Hid (CB w3 w.heap.size 75 (wrHalf w.heap.size)) ∧ Hid (Below w.heap.size w w3) := by
  obtain ⟨w3, h1, h2, h3⟩ := CB.put (P := P) k2 4 (ndFns w.heap.size) (wrHalf w.heap.size) (by show 4 + 13 ≤ 24; decide) (ndFns_one _) (by kernel_rfl)
  exact ⟨w3, h1, Lib.hid h2, Lib.hid (b1.trans (h3.below (Nat.le_refl _)))⟩
theorem pnew_whole {P : Program} {w w4 : World} (b3 : Below w.heap.size w w4) (k4 : CB w4 w.heap.size 75 (wrHalf w.heap.size)) : ∃ w5, Sem.run P (storeCells ⟨w.heap.size, 17, none⟩ (stFns w.heap.size)) w4 = .ok () w5 ∧ Hid (NewAt w (.returned (.pointer (some ⟨w.heap.size, 0, none⟩))) w5) := by
  obtain ⟨w5, h1, k5, h3⟩ := CB.put (P := P) k4 17 (stFns w.heap.size) (wrC w.heap.size (.pointer none) (.slice none 0 0) false false) (by show 17 + 7 ≤ 24; decide) (stFns_one _) (by kernel_rfl)
  have b5 := b3.trans (h3.below (Nat.le_refl _))
  exact ⟨w5, h1, Lib.hid ⟨w.heap.size, rfl, Nat.le_refl _, b5, ⟨⟨.pointer none, none, 0, [], ⟨k5, .inl rfl, World.ownsRow_nil _ _ _ 1, Nat.le_refl _, by simp [Value.ownBlock]⟩, by decide, fun _ => rfl⟩, b5.size⟩, k5.at_ 1⟩⟩

set_option maxRecDepth 100000 in
set_option maxHeartbeats 4000000 in
theorem pnew_any (w : World) : Calls Tryz.prog 14 #[] w (NewAt w) := by
  obtain ⟨w1, hw1⟩ : ∃ w1, w.alloc (.cells #[.pointer none, .slice none 0 0, .bool false, .bool false, .nilFunc, .nilFunc, .nilFunc, .nilFunc, .nilFunc, .nilFunc, .nilFunc, .nilFunc, .nilFunc, .nilFunc, .nilFunc, .nilFunc, .nilFunc, .nilFunc, .nilFunc, .nilFunc, .nilFunc, .nilFunc, .nilFunc, .nilFunc] 75) = w1 := ⟨_, rfl⟩
  have b1 : Below w.heap.size w w1 := by rw [← hw1]; exact (Below.refl _ w).alloc (Nat.le_refl _) _
  have k1 : CB w1 w.heap.size 75 wrZero := by rw [← hw1]; exact CB.new w _ _
  have HB1 := Lib.hid b1
  have HK1 := Lib.hid k1
  have cn := pndw_any w1 w.heap.size
  go_enter Tryz.func14, Tryz.ntmps14
  clear b1 k1
  go_wp2_with (first
    | (go_at_call 25; refine cn.mono ?_; rintro e w2 ⟨rfl, hb2⟩; obtain ⟨w3, st3, K3, B3⟩ := pnew_half (P := Tryz.prog) (HB1.out.trans (hb2.mono HB1.out.size)) (HK1.out.below hb2); have cs := pstw_any w3 w.heap.size; clear hb2)
    | (go_at_call 26; refine cs.mono ?_; rintro e w4 ⟨rfl, hb4⟩; obtain ⟨w5, st5, K5⟩ := pnew_whole (P := Tryz.prog) (B3.out.trans (hb4.mono B3.out.size)) (K3.out.below hb4); clear hb4))
  clear st3 st5 hw1
  go_ret
  exact K5.out
end Go.Proofs.YtipcgmaobiobbaaGreatDoor
