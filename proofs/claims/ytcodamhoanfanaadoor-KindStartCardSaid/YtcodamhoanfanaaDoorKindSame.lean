/- The walks of same (two lists of the same entries) and of Entries. -/
import Derived.Test.YtcodamhoanfanaaDoorKindLives
import Derived.Test.YtcodamhoanfanaaDoorEnRow
import Derived.Test.YtcodamhoanfanaaDoorArr
import Derived.Deep.QuietTactic
import Derived.BigQuiet
namespace Go.Proofs.YtcodamhoanfanaaDoor
open Go.RowKit

set_option maxRecDepth 100000 in
set_option maxHeartbeats 2000000 in
theorem same_any (w : World) (g o g' o' c c' : Nat) (l : List En) (h1 : ERow w g o l) (h2 : ERow w g' o' l) (hl : l.length ≤ 140737488355328) :
    Calls Tryd.prog 20 #[.slice (some ⟨g, o, none⟩) l.length c, .slice (some ⟨g', o', none⟩) l.length c'] w fun e w' => e = .returned (.bool true) ∧ Below w.heap.size w w' := by
  have H1 := Lib.hid h1
  have H2 := Lib.hid h2
  clear h1 h2
  go_enter Tryd.func20, Tryd.ntmps20
  go_wp2
  go_loopw [5] (fun i wr => ∃ k : Nat, i = .int .i64 k ∧ k ≤ l.length ∧ ∃ d, wr = w.drewN d) (fun i _ => l.length - (intOf i).toNat)
  case atStart => exact ⟨0, rfl, Nat.zero_le _, 0, rfl⟩
  case round =>
    obtain ⟨k, rfl, hk, d, rfl⟩ := hrel
    by_cases hlt : k < l.length
    · have hltz : (k : Int) < (l.length : Int) := by omega
      have k0 : (0 : Int) ≤ (k : Int) := by omega
      obtain ⟨e, he⟩ : ∃ e, l[k]? = some e := ⟨l[k], List.getElem?_eq_getElem hlt⟩
      obtain ⟨a0, a1, a2, a3⟩ := H1.out k e he
      obtain ⟨b0, b1, b2, b3⟩ := H2.out k e he
      have a0' : (w.drewN d).cell? ⟨g, o + k * 4, none⟩ = some (.int .i64 e.f) := a0
      have a1' : (w.drewN d).cell? ⟨g, o + k * 4 + 1, none⟩ = some (.int .i64 e.n) := a1
      have a2' : (w.drewN d).cell? ⟨g, o + k * 4 + 2, none⟩ = some (.string e.s) := a2
      have a3' : (w.drewN d).cell? ⟨g, o + k * 4 + 3, none⟩ = some (.int .i64 e.z) := a3
      have b0' : (w.drewN d).cell? ⟨g', o' + k * 4, none⟩ = some (.int .i64 e.f) := b0
      have b1' : (w.drewN d).cell? ⟨g', o' + k * 4 + 1, none⟩ = some (.int .i64 e.n) := b1
      have b2' : (w.drewN d).cell? ⟨g', o' + k * 4 + 2, none⟩ = some (.string e.s) := b2
      have b3' : (w.drewN d).cell? ⟨g', o' + k * 4 + 3, none⟩ = some (.int .i64 e.z) := b3
      obtain ⟨f, n, s, z⟩ := e
      dsimp only at *
      clear he
      go_wp2
      go_quiet (fail)
      go_wp2
      go_roundw
      case rel => exact ⟨k + 1, by go_num, by omega, _, rfl⟩
      case measure => simp [intOf]; omega
    · go_wp2
      go_ret
      exact ⟨rfl, Below.newN w d⟩

/-- the list of new entries, in memory of its own -/
def NewEnt (w : World) (e : Ending) (w' : World) : Prop := ∃ g, e = .returned (.slice (some ⟨g, 0, none⟩) 5 5) ∧ w.heap.size ≤ g ∧ g < w'.heap.size ∧ (∀ j, j < 20 → w'.cell? ⟨g, j, none⟩ = entriesC.toList[j]? ∧ w'.frozen? ⟨g, j, none⟩ = false) ∧ Below w.heap.size w w'

set_option maxRecDepth 100000 in
set_option maxHeartbeats 1000000 in
theorem kentries_any (w : World) : Calls Tryd.prog 19 #[] w (NewEnt w) := by
  go_enter Tryd.func19, Tryd.ntmps19
  go_wp2_with (first
    | (go_at_call 29; refine (entries_any _).mono ?_; rintro e w' ⟨rfl, hb⟩)
    | (refine wpList_store_last rfl 46 _ _ rfl _ _ _ rfl rfl ?hb ?hi ?hz ?h1 ?hh; (case hb => simp); (case hi => kernel_rfl); (case hz => rfl); (case h1 => kernel_rfl)))
  go_ret
  refine ⟨w'.heap.size, rfl, hb.size, by simp, fun j hj => ⟨?_, ?_⟩, hb.alloc hb.size _⟩
  · rw [cell_of_row _ w'.heap.size j entriesC 46 (0, 0) (heap_alloc_new w' _), Array.getElem?_toList]
  · simp [go_sem]
end Go.Proofs.YtcodamhoanfanaaDoor
