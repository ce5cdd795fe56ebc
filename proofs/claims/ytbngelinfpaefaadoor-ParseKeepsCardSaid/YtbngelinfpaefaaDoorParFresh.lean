/- The walk of fresh: the tree of a text, asked anew. -/
import Derived.Test.YtbngelinfpaefaaDoorParGl
namespace Go.Proofs.YtbngelinfpaefaaDoor
open Go.RowKit

set_option maxRecDepth 100000 in
set_option maxHeartbeats 4000000 in
theorem cfresh_any (w : World) (s : ByteArray) (hEV : EV w) : Calls Tryd.prog 22 #[.string s] w fun e w' => ∃ As cs es, e = .returned (.agg #[.slice As (List.length (α := LEv) es) cs]) ∧ Below w.heap.size w w' ∧ Built EvLev w' w.heap.size As cs es ∧ es.map (·.ev) = (schS s).evs := by
  have hb0 : Below w.heap.size w (w.alloc (.cells #[.slice none 0 0] 30)) := (Below.refl _ w).alloc (Nat.le_refl _) _
  have hc0 : CB (w.alloc (.cells #[.slice none 0 0] 30)) w.heap.size 30 #[.slice none 0 0] := CB.new w _ _
  have hs0 : (w.alloc (.cells #[.slice none 0 0] 30)).heap.size = w.heap.size + 1 := by simp
  have cs := cschema_any (w.alloc (.cells #[.slice none 0 0] 30)) s (hEV.new _)
  go_enter Tryd.func22, Tryd.ntmps22
  go_wp2_with (go_at_call 15
               refine cs.mono ?_
               rintro e w2 ⟨As, cs, es, rfl, hb2, hB, he⟩
               have HB := Lib.hid hB
               have hl2 : w.heap.size < w2.heap.size := by have := hb2.size; omega
               have n2 : w.heap.size ≠ w2.heap.size := by omega
               have q2 := hc0.below hb2
               have k2 : w2.cell? ⟨w.heap.size, 0, none⟩ = some (.slice none 0 0) := q2.at_ 0
               have y2 := q2.frozen 0
               clear hB)
  have h9 : CB (w2.setCell ⟨w.heap.size, 0, none⟩ (.slice As es.length cs)) w.heap.size 30 #[.slice As es.length cs] := heap_setCell_same w2 w.heap.size 0 _ _ _ q2
  have t9 : Turned w.heap.size w2 (w2.setCell ⟨w.heap.size, 0, none⟩ (.slice As es.length cs)) := (Turned.refl _ _).setCell 0 _
  have h10 := h9.below ((Below.refl _ _).alloc (Nat.le_refl _) (.cells #[.slice As es.length cs] 30))
  refine bodyPost_ret (v := .agg #[.slice As es.length cs]) (results_cb rfl _ _ w.heap.size _ rfl h10 Tryd.underlying30 rfl (by kernel_rfl)) rfl ⟨As, cs, es, rfl, ?_, ?_, he⟩
  · exact ((hb0.trans (hb2.mono (by omega))).trans (t9.below (Nat.le_refl _))).alloc (by rw [t9.size]; omega) _
  · refine ((HB.out.keep evLev fun b hb => ?_).below evLev ((Below.refl _ _).alloc (Nat.le_refl _) _)).low evLev (by omega)
    have := HB.out.bd evLev b hb
    exact t9.others b (by omega)
end Go.Proofs.YtbngelinfpaefaaDoor
