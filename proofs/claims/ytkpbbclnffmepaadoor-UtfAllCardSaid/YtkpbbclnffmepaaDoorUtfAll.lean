/- The walk of UtfAll. -/
import Derived.Test.YtkpbbclnffmepaaDoorUtfScript
import Derived.Deep.RegionHeld3
namespace Go.Proofs.YtkpbbclnffmepaaDoor
open Go.RowKit

theorem all_much {w : World} (h : St w w) {A : Option Addr} {l : List (ByteArray × Int)} (c : Nat) (hA : Ops w w.heap.size A l) (hl : l.length ≤ 140737488351232) (hb : 16777216 < tot l) :
    Calls Tryd.prog 3 #[.slice A l.length c] w (Yes w) := by
  have hm := fun {w1 : World} (g : St w w1) => much_any g (A := A) (l := l) c (by
    intro i r hr
    obtain ⟨g', o, ha, hg, h0, h1, h2⟩ := hA i r hr
    exact ⟨g', o, ha, Nat.lt_of_lt_of_le hg g.below.size, (g.below.cell (p := ⟨g', _, none⟩) hg).trans h0, (g.below.cell (p := ⟨g', _, none⟩) hg).trans h1, h2⟩) hl
  rw [decide_eq_true hb] at hm
  go_enter Tryd.func3, Tryd.ntmps3
  go_wp2_with (first
    | (go_at_call 9; refine (awake_any h).mono ?_; rintro e w' ⟨rfl, hst⟩)
    | (go_at_call 10; refine (hm (by assumption)).mono ?_; rintro e w' ⟨rfl, rfl⟩))
  go_ret
  exact ⟨rfl, St.below (by assumption)⟩

set_option maxRecDepth 100000 in
set_option maxHeartbeats 4000000 in
theorem all_few {w : World} (h : St w w) {A : Option Addr} {l : List (ByteArray × Int)} (c : Nat) (hA : Ops w w.heap.size A l) (hl : l.length ≤ 140737488351232) (hb : ¬ 16777216 < tot l) :
    Calls Tryd.prog 3 #[.slice A l.length c] w (Yes w) := by
  have hm := fun {w1 : World} (g : St w w1) => much_any g (A := A) (l := l) c (by
    intro i r hr
    obtain ⟨g', o, ha, hg, h0, h1, h2⟩ := hA i r hr
    exact ⟨g', o, ha, Nat.lt_of_lt_of_le hg g.below.size, (g.below.cell (p := ⟨g', _, none⟩) hg).trans h0, (g.below.cell (p := ⟨g', _, none⟩) hg).trans h1, h2⟩) hl
  rw [decide_eq_false hb] at hm
  have HA := Lib.hid hA
  have HB := Lib.hid hb
  clear hA hb
  go_enter Tryd.func3, Tryd.ntmps3
  go_wp2_with (first
    | (go_at_call 9; refine (awake_any h).mono ?_; rintro e w' ⟨rfl, hst⟩)
    | (go_at_call 10; refine (hm (by assumption)).mono ?_; rintro e w' ⟨rfl, rfl⟩))
  go_loopw [3, 4] (fun vo vi wr => St w wr ∧ vo = .bool true ∧ ∃ i : Nat, vi = .int .i64 i ∧ i ≤ l.length) (fun _ vi _ => l.length - (intOf vi).toNat)
  case atStart => exact ⟨by assumption, rfl, 0, rfl, Nat.zero_le _⟩
  case round =>
    clear hm h
    obtain ⟨hst, rfl, i, rfl, hi⟩ := hrel
    by_cases hlt : i < l.length
    · obtain ⟨r, hr⟩ : ∃ r, l[i]? = some r := ⟨l[i], List.getElem?_eq_getElem hlt⟩
      obtain ⟨g, o, rfl, hg, h0, h1, _⟩ := HA.out i r hr
      have hs : r.1.size ≤ 16777216 := by
        have := tot_le (List.mem_of_getElem? hr)
        have := HB.out
        omega
      obtain ⟨s, z⟩ := r
      have hltz : (i : Int) < (l.length : Int) := by omega
      have d0 : wr.cell? ⟨g, o + i * 2, none⟩ = some (.string s) := (hst.below.cell (p := ⟨g, _, none⟩) hg).trans h0
      have HC : Hid (∀ W, St w W → (St w W ∧ W.cell? ⟨g, o + i * 2 + 1, none⟩ = some (.int .i64 z))) := fun W hW => ⟨hW, (hW.below.cell (p := ⟨g, _, none⟩) hg).trans h1⟩
      have hs' : s.size ≤ 16777216 := hs
      have n0 := fun {w1 : World} (g : St w w1) => next_any g s
      have n1 := fun {w1 : World} (g : St w w1) => rnext_all g s (by omega)
      have f0 := fun {w1 : World} (g : St w w1) => fault_any g s (by omega)
      have f1 := fun {w1 : World} (g : St w w1) => rfault_any g s (by omega)
      have v0 := fun {w1 : World} (g : St w w1) => valid_any g s (by omega)
      have v1 := fun {w1 : World} (g : St w w1) => rvalid_any g s (by omega)
      have k0 := fun {w1 : World} (g : St w w1) => count_any g s (by omega)
      have k1 := fun {w1 : World} (g : St w w1) => rcount_any g s (by omega)
      have m0 := fun {w1 : World} (g : St w w1) => mend_any g s (by omega)
      have m1 := fun {w1 : World} (g : St w w1) => rmend_any g s (by omega)
      have p0 := fun {w1 : World} (g : St w w1) => put_any g z
      have p1 := fun {w1 : World} (g : St w w1) => rput_any g z
      obtain ⟨X, hX⟩ : ∃ X, (nx (ls s)).1 = X := ⟨_, rfl⟩
      obtain ⟨Y, hY⟩ : ∃ Y, (nx (ls s)).2 = Y := ⟨_, rfl⟩
      obtain ⟨F, hF⟩ : ∃ F, fltL (ls s) = F := ⟨_, rfl⟩
      obtain ⟨V, hV⟩ : ∃ V, okL (ls s) = V := ⟨_, rfl⟩
      obtain ⟨K, hK⟩ : ∃ K, cntL (ls s) = K := ⟨_, rfl⟩
      obtain ⟨M, hM⟩ : ∃ M, tx (menL (ls s)) = M := ⟨_, rfl⟩
      obtain ⟨P, hP⟩ : ∃ P, tx (putL z) = P := ⟨_, rfl⟩
      simp only [hX, hY] at n0 n1
      simp only [hF] at f0 f1
      simp only [hV] at v0 v1
      simp only [hK] at k0 k1
      simp only [hM] at m0 m1
      simp only [hP] at p0 p1
      clear hX hY hF hV hK hM hP hr h0 h1 hs
      go_wp2_with (first
        | (go_at_call 11; refine (n0 (by assumption)).mono ?_; rintro e w' ⟨rfl, hst⟩)
        | (go_at_call 12; refine (n1 (by assumption)).mono ?_; rintro e w' ⟨rfl, hst⟩))
      go_region_held3 (fun W => St w W ∧ W.cell? ⟨g, o + i * 2 + 1, none⟩ = some (.int .i64 z))
        (first | (exact HC.out _ (by assumption)) | (exact HC.out _ (St.drew (by assumption))))
        (first
          | (go_at_call 13; refine (f0 (by first | assumption | exact St.drew (by assumption) | exact And.left (by assumption))).mono ?_; rintro e w' ⟨rfl, hst⟩)
          | (go_at_call 14; refine (f1 (by first | assumption | exact St.drew (by assumption) | exact And.left (by assumption))).mono ?_; rintro e w' ⟨rfl, hst⟩)
          | (go_at_call 15; refine (v0 (by first | assumption | exact St.drew (by assumption) | exact And.left (by assumption))).mono ?_; rintro e w' ⟨rfl, hst⟩)
          | (go_at_call 16; refine (v1 (by first | assumption | exact St.drew (by assumption) | exact And.left (by assumption))).mono ?_; rintro e w' ⟨rfl, hst⟩)
          | (go_at_call 17; refine (k0 (by first | assumption | exact St.drew (by assumption) | exact And.left (by assumption))).mono ?_; rintro e w' ⟨rfl, hst⟩)
          | (go_at_call 18; refine (k1 (by first | assumption | exact St.drew (by assumption) | exact And.left (by assumption))).mono ?_; rintro e w' ⟨rfl, hst⟩)
          | (go_at_call 19; refine (m0 (by first | assumption | exact St.drew (by assumption) | exact And.left (by assumption))).mono ?_; rintro e w' ⟨rfl, hst⟩)
          | (go_at_call 20; refine (m1 (by first | assumption | exact St.drew (by assumption) | exact And.left (by assumption))).mono ?_; rintro e w' ⟨rfl, hst⟩)
          | (go_at_call 21; refine (p0 (by first | assumption | exact St.drew (by assumption) | exact And.left (by assumption))).mono ?_; rintro e w' ⟨rfl, hst⟩)
          | (go_at_call 22; refine (p1 (by first | assumption | exact St.drew (by assumption) | exact And.left (by assumption))).mono ?_; rintro e w' ⟨rfl, hst⟩))
      go_wp2
      go_roundw
      case rel => exact ⟨by assumption, by rfl, i + 1, by go_num, by omega⟩
      case measure => simp [intOf]; omega
    · go_wp2
      go_ret
      exact ⟨rfl, hst.below⟩

theorem all_any {w : World} (h : St w w) {A : Option Addr} {l : List (ByteArray × Int)} (c : Nat) (hA : Ops w w.heap.size A l) (hl : l.length ≤ 140737488351232) : Calls Tryd.prog 3 #[.slice A l.length c] w (Yes w) := by
  by_cases hb : 16777216 < tot l
  · exact all_much h c hA hl hb
  · exact all_few h c hA hl hb
end Go.Proofs.YtkpbbclnffmepaaDoor
