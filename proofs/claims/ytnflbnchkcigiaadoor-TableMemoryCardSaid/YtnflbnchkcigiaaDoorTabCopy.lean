/- The walks of copyOf and copyAll. -/
import Derived.Test.YtnflbnchkcigiaaDoorTabMem
import Derived.Test.YtnflbnchkcigiaaDoorRowS
import Derived.Test.YtnflbnchkcigiaaDoorClone
namespace Go.Proofs.YtnflbnchkcigiaaDoor
open Go.RowKit

def zCo : Co := ⟨⟨#[]⟩, 0, 0⟩
theorem infoCo : (Tryd.prog.info? 35).map (fun i => (i.zero, i.size, i.bytes)) = some (some (.agg (coC zCo)), 3, 32) := by kernel_rfl
theorem sizeCo : (Tryd.prog.info? 35).map (·.size) = some 3 := by kernel_rfl
theorem coC_size (x : Co) : (coC x).size = 3 := rfl
theorem coC_one (x : Co) : ∀ u ∈ (coC x).toList, u.oneCell' = true := by
  intro u hu
  simp only [coC, List.mem_cons, List.not_mem_nil, or_false] at hu
  rcases hu with rfl | rfl | rfl <;> rfl

set_option maxRecDepth 100000 in
set_option maxHeartbeats 1000000 in
theorem copyOf_any (w : World) (x : Co) (hs : x.n.size ≤ 140737488355328) :
    Calls Tryd.prog 29 #[.agg (coC x)] w fun e w' => e = .returned (.agg (coC x)) ∧ Below w.heap.size w w' := by
  obtain ⟨n, t, k⟩ := x
  have cc := fun (W : World) => sclone_any W n hs
  have hB : Below w.heap.size w ((w.alloc (.cells #[.string n, .int .i64 t, .int .i64 k] 35)).alloc (.cells #[.string ⟨#[]⟩, .int .i64 0, .int .i64 0] 35)) := ((Below.refl _ _).alloc (Nat.le_refl _) _).alloc (by simp) _
  have k1 : CB ((w.alloc (.cells #[.string n, .int .i64 t, .int .i64 k] 35)).alloc (.cells #[.string ⟨#[]⟩, .int .i64 0, .int .i64 0] 35)) w.heap.size 35 #[.string n, .int .i64 t, .int .i64 k] := (CB.new w _ _).below ((Below.refl _ _).alloc (Nat.le_refl _) _)
  have k2 : CB ((w.alloc (.cells #[.string n, .int .i64 t, .int .i64 k] 35)).alloc (.cells #[.string ⟨#[]⟩, .int .i64 0, .int .i64 0] 35)) (w.heap.size + 1) 35 #[.string ⟨#[]⟩, .int .i64 0, .int .i64 0] := by
    have := CB.new (w.alloc (.cells #[.string n, .int .i64 t, .int .i64 k] 35)) 35 #[.string ⟨#[]⟩, .int .i64 0, .int .i64 0]
    simpa using this
  unfold coC
  dsimp only
  clear hs
  go_enter Tryd.func29, Tryd.ntmps29
  go_wp2_with (first
    | (go_at_call 44; refine (cc _).mono ?_; rintro e w1 ⟨rfl, hb1⟩; have m1 := k1.below hb1; have m2 := k2.below hb1; have c0 : w1.cell? ⟨w.heap.size, 0, none⟩ = some (.string n) := m1.at_ 0; have f0 := m1.frozen 0; have hB1 : Below w.heap.size w w1 := Below.both hB (hb1.mono (by simp)); have n1 : CB (w1.setCell ⟨w.heap.size, 0, none⟩ (.string n)) w.heap.size 35 #[.string n, .int .i64 t, .int .i64 k] := (by have := heap_setCell_same w1 w.heap.size 0 _ _ (.string n) m1; exact this); have n2 : CB (w1.setCell ⟨w.heap.size, 0, none⟩ (.string n)) (w.heap.size + 1) 35 #[.string ⟨#[]⟩, .int .i64 0, .int .i64 0] := m2.keep (Below.heap_setCell w1 ⟨w.heap.size, 0, none⟩ _ (w.heap.size + 1) (by simp)))
    | (refine wpList_load_cb rfl 35 (.tmp 1) rfl w.heap.size _ rfl n1 Tryd.underlying35 rfl (by kernel_rfl) ?_)
    | (refine wpList_store_cb rfl 35 (.tmp 2) (.tmp 7) rfl (w.heap.size + 1) _ #[.string n, .int .i64 t, .int .i64 k] rfl rfl n2 rfl (by kernel_rfl) (by kernel_rfl) ?_; intro w2 j2 t2))
  exact bodyPost_ret (results_cb rfl _ _ _ _ rfl j2 Tryd.underlying35 rfl (by kernel_rfl)) rfl ⟨rfl, (hB1.setCell (by simp) _).trans (t2.below (by simp))⟩
end Go.Proofs.YtnflbnchkcigiaaDoor
