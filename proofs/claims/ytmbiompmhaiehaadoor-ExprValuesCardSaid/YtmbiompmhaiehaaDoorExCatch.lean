/- The walks of the code: what Value's deferred function does, behind a fault and behind none. -/
import Derived.Test.YtmbiompmhaiehaaDoorExValOf
import Derived.Recover
import Derived.Defers
import Derived.Tactics2
import Derived.Laws.Pointers
namespace Go.Proofs.YtmbiompmhaiehaaDoor
open Go.RowKit

set_option maxRecDepth 100000 in
set_option maxHeartbeats 4000000 in
theorem catch_idle (p q s : Addr) (w : World) :
    CallsD Tryd.prog 14 #[.pointer (some p), .pointer (some q), .pointer (some s)] .returning w fun e u' w' => e = .returned (.tuple #[]) ∧ u' = .returning ∧ w' = w := by
  refine callsD_of_wpS Tryd.func14 rfl fun c₀ cs hu => ?_
  apply wpS_seq
  apply wpS_region
  simp [go_sem, recoverD, hu, Tryd.ntmps14, Exit.thenS, wpOpsS]
  refine wpS_of_wp ?_
  go_wp2
  cases c₀
  simp_all [bodyPostS, results, Tryd.results14]

/-- what Value answers lies in three blocks -/
structure VB (w : World) (g : Nat) (k : Int) (n : Nat) (S : ByteArray) (a e : Nat) : Prop where
  v : CB w g 31 #[.int .i64 k, .int .u64 (n : Nat), .string S]
  a : CB w (g + 1) 3 #[.int .i64 (a : Nat)]
  e : CB w (g + 1 + 1) 32 #[.int .i64 (e : Nat)]
theorem VB.below {w w' : World} {g : Nat} {k : Int} {n : Nat} {S : ByteArray} {a e : Nat} (h : VB w g k n S a e) (hb : Below w.heap.size w w') : VB w' g k n S a e := ⟨h.v.below hb, h.a.below hb, h.e.below hb⟩
theorem one_set {w : World} {b : Nat} {T : TypeId} {v0 v : Value} (h : CB w b T #[v0]) : CB (w.setCell ⟨b, 0, none⟩ v) b T #[v] := heap_setCell_same w b 0 _ _ v h
theorem VB.store {w : World} {g : Nat} {k : Int} {n : Nat} {S : ByteArray} {a e : Nat} (h : VB w g k n S a e) (k' : Int) (n' : Nat) (S' : ByteArray) (a' e' : Nat) {B : Nat} (hB : B ≤ g) :
    VB (((set3 w g (.int .i64 k') (.int .u64 (n' : Nat)) (.string S')).setCell ⟨g + 1, 0, none⟩ (.int .i64 (a' : Nat))).setCell ⟨g + 1 + 1, 0, none⟩ (.int .i64 (e' : Nat))) g k' n' S' a' e' ∧
    Below B w (((set3 w g (.int .i64 k') (.int .u64 (n' : Nat)) (.string S')).setCell ⟨g + 1, 0, none⟩ (.int .i64 (a' : Nat))).setCell ⟨g + 1 + 1, 0, none⟩ (.int .i64 (e' : Nat))) := by
  have q := set3_eq w g (.int .i64 k') (.int .u64 (n' : Nat)) (.string S')
  have k1 := h.v.store (cs := #[.int .i64 k', .int .u64 (n' : Nat), .string S']) rfl
  have t1 : Turned g w (w.setCells g 0 (#[.int .i64 k', .int .u64 (n' : Nat), .string S'] : Array Value).toList) := Turned.setCells _ _ _ (Turned.refl _ w)
  generalize set3 w g (.int .i64 k') (.int .u64 (n' : Nat)) (.string S') = Y at q ⊢
  rw [q] at k1 t1
  have t2 : Turned (g + 1) Y (Y.setCell ⟨g + 1, 0, none⟩ (.int .i64 (a' : Nat))) := (Turned.refl _ Y).setCell 0 _
  have a1 : CB Y (g + 1) 3 #[.int .i64 (a : Nat)] := h.a.keep (t1.others _ (by omega))
  have e1 : CB Y (g + 1 + 1) 32 #[.int .i64 (e : Nat)] := h.e.keep (t1.others _ (by omega))
  have a2 := one_set (v := .int .i64 (a' : Nat)) a1
  have k2 := k1.keep (t2.others g (by omega))
  have e2 := e1.keep (t2.others (g + 1 + 1) (by omega))
  generalize Y.setCell ⟨g + 1, 0, none⟩ (.int .i64 (a' : Nat)) = Z at t2 a2 k2 e2 ⊢
  have t3 : Turned (g + 1 + 1) Z (Z.setCell ⟨g + 1 + 1, 0, none⟩ (.int .i64 (e' : Nat))) := (Turned.refl _ Z).setCell 0 _
  exact ⟨⟨k2.keep (t3.others _ (by omega)), a2.keep (t3.others _ (by omega)), one_set e2⟩, ((t1.below hB).trans (t2.below (by omega))).trans (t3.below (by omega))⟩
theorem VB.cells {w : World} {g : Nat} {k : Int} {n : Nat} {S : ByteArray} {a e : Nat} (h : VB w g k n S a e) : (w.cell? ⟨g, 0, none⟩ = some (.int .i64 k) ∧ w.cell? ⟨g, 1, none⟩ = some (.int .u64 (n : Nat)) ∧ w.cell? ⟨g, 2, none⟩ = some (.string S)) ∧ (w.cell? ⟨g + 1, 0, none⟩ = some (.int .i64 (a : Nat)) ∧ w.cell? ⟨g + 1 + 1, 0, none⟩ = some (.int .i64 (e : Nat))) ∧
    (w.frozen? ⟨g, 0, none⟩ = false ∧ w.frozen? ⟨g, 1, none⟩ = false ∧ w.frozen? ⟨g, 2, none⟩ = false) ∧ (w.frozen? ⟨g + 1, 0, none⟩ = false ∧ w.frozen? ⟨g + 1 + 1, 0, none⟩ = false) :=
  ⟨⟨h.v.at_ 0, h.v.at_ 1, h.v.at_ 2⟩, ⟨h.a.at_ 0, h.e.at_ 0⟩, ⟨h.v.frozen 0, h.v.frozen 1, h.v.frozen 2⟩, ⟨h.a.frozen 0, h.e.frozen 0⟩⟩

set_option maxRecDepth 100000 in
set_option maxHeartbeats 4000000 in
theorem catch_fault {w : World} {g : Nat} {k : Int} {n : Nat} {S : ByteArray} {a e : Nat} (h : VB w g k n S a e) (a' e' : Nat) :
    CallsD Tryd.prog 14 #[.pointer (some ⟨g, 0, none⟩), .pointer (some ⟨g + 1, 0, none⟩), .pointer (some ⟨g + 1 + 1, 0, none⟩)] (.panicking [faultV a' e']) w fun q u' w' =>
      q = .returned (.tuple #[]) ∧ u' = .panicking [{ v := .iface 40 (.agg #[.int .i64 (a' : Nat), .int .i64 (e' : Nat)]), recovered := true }] ∧ Hid (VB w' g 0 0 ⟨#[]⟩ a' e' ∧ Below g w w') := by
  have hl := h.e.len
  have hb1 : Below w.heap.size w (w.alloc (.cells #[.int .i64 (a' : Nat), .int .i64 (e' : Nat)] 40)) := (Below.refl _ w).alloc (Nat.le_refl _) _
  have hn1 := CB.new w 40 #[.int .i64 (a' : Nat), .int .i64 (e' : Nat)]
  obtain ⟨w1, hw1⟩ : ∃ w1, w.alloc (.cells #[.int .i64 (a' : Nat), .int .i64 (e' : Nat)] 40) = w1 := ⟨_, rfl⟩
  rw [hw1] at hb1 hn1
  have f0 : w1.cell? ⟨w.heap.size, 0, none⟩ = some (.int .i64 (a' : Nat)) := hn1.at_ 0
  have f1 : w1.cell? ⟨w.heap.size, 1, none⟩ = some (.int .i64 (e' : Nat)) := hn1.at_ 1
  have hV := h.below hb1
  obtain ⟨⟨c0, c1, c2⟩, ⟨c3, c4⟩, ⟨y0, y1, y2⟩, ⟨y3, y4⟩⟩ := hV.cells
  have d1 : w.heap.size ≠ g := by omega
  have d2 : w.heap.size ≠ g + 1 := by omega
  have d3 : w.heap.size ≠ g + 1 + 1 := by omega
  have d4 : g + 1 ≠ g := by omega
  have d5 : g + 1 + 1 ≠ g := by omega
  have d6 : g + 1 + 1 ≠ g + 1 := by omega
  have END := Lib.hid (hV.store 0 0 ⟨#[]⟩ a' e' (Nat.le_refl g))
  have HB1 := Lib.hid (hb1.mono (show g ≤ w.heap.size by omega))
  have hta : ∀ W, (Instr.typeAssert (.iface 40 (.agg #[.int .i64 (a' : Nat), .int .i64 (e' : Nat)])) 20 40 true).run Tryd.prog W = .ok (.tuple #[.agg #[.int .i64 (a' : Nat), .int .i64 (e' : Nat)], .bool true]) W := fun _ => by kernel_rfl
  clear hn1 hV h hb1
  refine callsD_of_wpS Tryd.func14 rfl fun c₀ cs hu => ?_
  unfold faultV at hu
  have et : ∀ a b c : Value, #[a, b, c] ++ Array.replicate (Tryd.f14.ntmps - #[a, b, c].size) undef = #[a, b, c, undef, undef, undef, undef, undef, undef, undef, undef, undef, undef, undef, undef, undef, undef] := fun _ _ _ => rfl
  rw [et]
  clear et
  apply wpS_seq
  apply wpS_region
  simp [go_sem, recoverD, hu, Exit.thenS, wpOpsS]
  refine wpS_of_wp ?_
  go_wp2
  go_region
  all_goals
    go_wp2
    refine ⟨rfl, _, rfl, _, results_none rfl _ _ _, rfl, rfl, ?_⟩
    exact ⟨END.out.1.below (Below.thenN (Below.refl _ _) 1), Below.thenN (HB1.out.trans END.out.2) 1⟩
end Go.Proofs.YtmbiompmhaiehaaDoor
