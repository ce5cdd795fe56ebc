/- The walk of UtfJoins. -/
import Derived.Test.YtkpbbclnffmepaaDoorUtfMends
namespace Go.Proofs.YtkpbbclnffmepaaDoor
open Go.RowKit

theorem joins_big {w : World} (h : St w w) (s t : ByteArray) (hs : 16777216 < s.size ∨ 16777216 < t.size) :
    Calls Tryd.prog 6 #[.string s, .string t] w (Yes w) := by
  by_cases h1 : 16777216 < s.size
  · have hz : (16777216 : Int) < (s.size : Int) := by omega
    go_enter Tryd.func6, Tryd.ntmps6
    go_wp2_with (go_at_call 9; refine (awake_any h).mono ?_; rintro e w' ⟨rfl, hst⟩)
    go_ret
    exact ⟨rfl, hst.below⟩
  · have hz : ¬ ((16777216 : Int) < (s.size : Int)) := by omega
    have hz2 : (16777216 : Int) < (t.size : Int) := by omega
    clear hs
    go_enter Tryd.func6, Tryd.ntmps6
    go_wp2_with (go_at_call 9; refine (awake_any h).mono ?_; rintro e w' ⟨rfl, hst⟩)
    go_ret
    exact ⟨rfl, hst.below⟩

set_option maxRecDepth 100000 in
set_option maxHeartbeats 1000000 in
theorem joins_ok {w : World} (h : St w w) (s t : ByteArray) (hs : ¬ 16777216 < s.size) (ht : ¬ 16777216 < t.size) :
    Calls Tryd.prog 6 #[.string s, .string t] w (Yes w) := by
  have hz : ¬ ((16777216 : Int) < (s.size : Int)) := by omega
  have hz2 : ¬ ((16777216 : Int) < (t.size : Int)) := by omega
  have hFs := flt_le (ls s)
  have hok := ok_take (ls s)
  rw [size_ls] at hFs
  obtain ⟨F, hF⟩ : ∃ F, fltL (ls s) = F := ⟨_, rfl⟩
  have hfs := fun {w1 : World} (g : St w w1) => fault_any g s (by omega)
  rw [hF] at hFs hfs hok
  obtain ⟨A, hA⟩ : ∃ A, s.extract 0 F = A := ⟨_, rfl⟩
  have hlA : ls A = (ls s).take F := by rw [← hA, ls_cut, List.drop_zero]
  rw [← hlA] at hok
  have hAs : A.size = F := by rw [← size_ls, hlA, List.length_take, size_ls]; omega
  obtain ⟨R, hR⟩ : ∃ R, A ++ t = R := ⟨_, rfl⟩
  have hlR : ls R = ls A ++ ls t := by rw [← hR, ls_app]
  have hRs : R.size ≤ 33554432 := by
    have := congrArg List.length hlR
    rw [List.length_append, size_ls, size_ls, size_ls] at this
    omega
  have hvA := fun {w1 : World} (g : St w w1) => valid_any g A (by omega)
  rw [hok] at hvA
  have hfR := fun {w1 : World} (g : St w w1) => fault_any g R (by omega)
  rw [hlR, flt_app _ _ hok, size_ls, hAs] at hfR
  have hft := fun {w1 : World} (g : St w w1) => fault_any g t (by omega)
  have hcR := fun {w1 : World} (g : St w w1) => count_any g R (by omega)
  rw [hlR, cnt_app _ _ hok] at hcR
  have hct := fun {w1 : World} (g : St w w1) => count_any g t (by omega)
  have hcA := fun {w1 : World} (g : St w w1) => count_any g A (by omega)
  have hmR := fun {w1 : World} (g : St w w1) => mend_any g R (by omega)
  rw [hlR, men_app _ _ hok] at hmR
  have hmt := fun {w1 : World} (g : St w w1) => mend_any g t (by omega)
  have hcl := cnt_le (ls A)
  have hcl2 := cnt_le (ls t)
  have hfl2 := flt_le (ls t)
  rw [size_ls] at hcl hcl2 hfl2
  obtain ⟨M, hM⟩ : ∃ M, tx (menL (ls t)) = M := ⟨_, rfl⟩
  have hAM : tx (ls A ++ menL (ls t)) = A ++ M := ls_inj (by rw [ls_tx, ls_app, ← hM, ls_tx])
  obtain ⟨C, hC⟩ : ∃ C, cntL (ls A) = C := ⟨_, rfl⟩
  obtain ⟨D, hD⟩ : ∃ D, cntL (ls t) = D := ⟨_, rfl⟩
  obtain ⟨G, hG⟩ : ∃ G, fltL (ls t) = G := ⟨_, rfl⟩
  simp only [hC, hD] at hcR hct hcA hcl hcl2
  simp only [hG] at hfR hft hfl2
  simp only [hAM] at hmR
  simp only [hM] at hmt
  have hMs : M.size ≤ 3 * t.size := by
    have := men_le (ls t)
    rw [size_ls] at this
    rw [← hM, size_tx]
    exact this
  have n1 : ¬ 9223372036854775807 < A.size + M.size := by omega
  have n2 : ¬ 9223372036854775807 < A.size + t.size := by omega
  clear hF hC hD hG hAM hM hlR hlA hok hMs
  have hAsz : (A.size : Int) = (F : Int) := by omega
  have q1 : (0 : Int) ≤ (F : Int) := by omega
  have q2 : (F : Int) ≤ (s.size : Int) := by omega
  have hmin : s.extract 0 (min (F : Int) (s.size : Int)).toNat = A := by
    rw [show (min (F : Int) (s.size : Int)).toNat = F by omega]
    exact hA
  clear hAs hA
  go_enter Tryd.func6, Tryd.ntmps6
  go_wp2_with (first
    | (go_at_call 9; refine (awake_any h).mono ?_; rintro e w' ⟨rfl, hst⟩)
    | (go_at_call 13; with_reducible refine (hfs (by assumption)).mono ?_; rintro e w' ⟨rfl, hst⟩)
    | (go_at_call 13; with_reducible refine (hfR (by assumption)).mono ?_; rintro e w' ⟨rfl, hst⟩)
    | (go_at_call 13; with_reducible refine (hft (by assumption)).mono ?_; rintro e w' ⟨rfl, hst⟩)
    | (go_at_call 15; with_reducible refine (hvA (by assumption)).mono ?_; rintro e w' ⟨rfl, hst⟩)
    | (go_at_call 17; with_reducible refine (hcR (by assumption)).mono ?_; rintro e w' ⟨rfl, hst⟩)
    | (go_at_call 17; with_reducible refine (hcA (by assumption)).mono ?_; rintro e w' ⟨rfl, hst⟩)
    | (go_at_call 17; with_reducible refine (hct (by assumption)).mono ?_; rintro e w' ⟨rfl, hst⟩)
    | (go_at_call 19; with_reducible refine (hmR (by assumption)).mono ?_; rintro e w' ⟨rfl, hst⟩)
    | (go_at_call 19; with_reducible refine (hmt (by assumption)).mono ?_; rintro e w' ⟨rfl, hst⟩))
  go_ret
  exact ⟨rfl, St.below (by assumption)⟩

theorem joins_any {w : World} (h : St w w) (s t : ByteArray) : Calls Tryd.prog 6 #[.string s, .string t] w (Yes w) := by
  by_cases hb : 16777216 < s.size ∨ 16777216 < t.size
  · exact joins_big h s t hb
  · exact joins_ok h s t (fun g => hb (.inl g)) (fun g => hb (.inr g))
end Go.Proofs.YtkpbbclnffmepaaDoor
