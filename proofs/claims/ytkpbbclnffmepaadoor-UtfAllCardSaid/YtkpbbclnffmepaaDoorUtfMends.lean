/- The walk of UtfMends. -/
import Derived.Test.YtkpbbclnffmepaaDoorUtfBack
namespace Go.Proofs.YtkpbbclnffmepaaDoor
open Go.RowKit

theorem mends_big {w : World} (h : St w w) (s : ByteArray) (hs : 16777216 < s.size) :
    Calls Tryd.prog 7 #[.string s] w (Yes w) := by
  have hz : (16777216 : Int) < (s.size : Int) := by omega
  go_enter Tryd.func7, Tryd.ntmps7
  go_wp2_with (go_at_call 9; refine (awake_any h).mono ?_; rintro e w' ⟨rfl, hst⟩)
  go_ret
  exact ⟨rfl, hst.below⟩

set_option maxRecDepth 100000 in
set_option maxHeartbeats 1000000 in
theorem mends_ok {w : World} (h : St w w) (s : ByteArray) (hs : ¬ 16777216 < s.size) :
    Calls Tryd.prog 7 #[.string s] w (Yes w) := by
  have hz : ¬ ((16777216 : Int) < (s.size : Int)) := by omega
  obtain ⟨T, hT⟩ : ∃ T, tx (menL (ls s)) = T := ⟨_, rfl⟩
  have hlT : ls T = menL (ls s) := by rw [← hT, ls_tx]
  have hTs : T.size ≤ 50331648 := by
    have := men_le (ls s)
    rw [← hlT, size_ls, size_ls] at this
    omega
  have hm := fun {w1 : World} (g : St w w1) => mend_any g s (by omega)
  simp only [hT] at hm
  have hmT := fun {w1 : World} (g : St w w1) => mend_any g T (by omega)
  rw [hlT, men_ok _ (men_valid (ls s)), hT] at hmT
  have hvT := fun {w1 : World} (g : St w w1) => valid_any g T (by omega)
  rw [hlT, men_valid] at hvT
  have hcT := fun {w1 : World} (g : St w w1) => count_any g T (by omega)
  rw [hlT, men_cnt] at hcT
  have hc := fun {w1 : World} (g : St w w1) => count_any g s (by omega)
  have hv := fun {w1 : World} (g : St w w1) => valid_any g s (by omega)
  have hsame : okL (ls s) = true → T = s := fun ho => by rw [← hT, men_ok _ ho, tx_ls]
  obtain ⟨N, hN⟩ : ∃ N, cntL (ls s) = N := ⟨_, rfl⟩
  obtain ⟨O, hO⟩ : ∃ O, okL (ls s) = O := ⟨_, rfl⟩
  simp only [hN] at hcT hc
  simp only [hO] at hv
  rw [hO] at hsame
  clear hN hO hT hlT
  by_cases hTS : T = s
  · subst hTS
    clear hsame
    go_enter Tryd.func7, Tryd.ntmps7
    go_wp2_with (first
      | (go_at_call 9; refine (awake_any h).mono ?_; rintro e w' ⟨rfl, hst⟩)
      | (go_at_call 19; refine (hmT (by assumption)).mono ?_; rintro e w' ⟨rfl, hst⟩)
      | (go_at_call 15; refine (hvT (by assumption)).mono ?_; rintro e w' ⟨rfl, hst⟩)
      | (go_at_call 17; refine (hcT (by assumption)).mono ?_; rintro e w' ⟨rfl, hst⟩))
    go_ret
    exact ⟨rfl, St.below (by assumption)⟩
  · have hOf : O = false := by
      cases O with
      | false => rfl
      | true => exact absurd (hsame rfl) hTS
    subst hOf
    clear hsame
    go_enter Tryd.func7, Tryd.ntmps7
    go_wp2_with (first
      | (go_at_call 9; refine (awake_any h).mono ?_; rintro e w' ⟨rfl, hst⟩)
      | (go_at_call 19; with_reducible refine (hm (by assumption)).mono ?_; rintro e w' ⟨rfl, hst⟩)
      | (go_at_call 19; with_reducible refine (hmT (by assumption)).mono ?_; rintro e w' ⟨rfl, hst⟩)
      | (go_at_call 15; with_reducible refine (hvT (by assumption)).mono ?_; rintro e w' ⟨rfl, hst⟩)
      | (go_at_call 15; with_reducible refine (hv (by assumption)).mono ?_; rintro e w' ⟨rfl, hst⟩)
      | (go_at_call 17; with_reducible refine (hcT (by assumption)).mono ?_; rintro e w' ⟨rfl, hst⟩)
      | (go_at_call 17; with_reducible refine (hc (by assumption)).mono ?_; rintro e w' ⟨rfl, hst⟩))
    all_goals (go_ret; exact ⟨rfl, St.below (by assumption)⟩)

theorem mends_any {w : World} (h : St w w) (s : ByteArray) : Calls Tryd.prog 7 #[.string s] w (Yes w) := by
  by_cases hs : 16777216 < s.size
  · exact mends_big h s hs
  · exact mends_ok h s hs
end Go.Proofs.YtkpbbclnffmepaaDoor
