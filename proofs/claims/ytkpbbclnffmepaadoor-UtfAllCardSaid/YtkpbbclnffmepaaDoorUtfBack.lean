/- The walk of UtfBack. -/
import Derived.Test.YtkpbbclnffmepaaDoorUtfThrough
namespace Go.Proofs.YtkpbbclnffmepaaDoor
open Go.RowKit

theorem back_big {w : World} (h : St w w) (c : Int) (s : ByteArray) (hs : 16777216 < s.size) :
    Calls Tryd.prog 4 #[.int .i64 c, .string s] w (Yes w) := by
  have hz : (16777216 : Int) < (s.size : Int) := by omega
  go_enter Tryd.func4, Tryd.ntmps4
  go_wp2_with (go_at_call 9; refine (awake_any h).mono ?_; rintro e w' ⟨rfl, hst⟩)
  go_ret
  exact ⟨rfl, hst.below⟩

theorem put_none (w : World) (c : Int) (h : ¬ isC c) : Calls Tryd.prog 21 #[.int .i64 c] w fun e w' => e = .returned (.string ⟨#[]⟩) ∧ w' = w := by
  have := put_same w c
  rw [show putL c = [] by unfold putL; rw [if_neg h]] at this
  exact this

set_option maxRecDepth 100000 in
set_option maxHeartbeats 1000000 in
theorem back_none {w : World} (h : St w w) (c : Int) (s : ByteArray) (hs : ¬ 16777216 < s.size) (hc : ¬ isC c) :
    Calls Tryd.prog 4 #[.int .i64 c, .string s] w (Yes w) := by
  have hz : ¬ ((16777216 : Int) < (s.size : Int)) := by omega
  have hput := fun W => put_none W c hc
  unfold isC at hc
  by_cases h0 : c < 0
  · clear hc
    go_enter Tryd.func4, Tryd.ntmps4
    go_wp2_with (first
      | (go_at_call 9; refine (awake_any h).mono ?_; rintro e w' ⟨rfl, hst⟩)
      | (go_at_call 21; refine (hput _).mono ?_; rintro e w' ⟨rfl, rfl⟩))
    go_ret
    exact ⟨rfl, hst.below⟩
  · by_cases h1 : 1114111 < c
    · clear hc
      go_enter Tryd.func4, Tryd.ntmps4
      go_wp2_with (first
        | (go_at_call 9; refine (awake_any h).mono ?_; rintro e w' ⟨rfl, hst⟩)
        | (go_at_call 21; refine (hput _).mono ?_; rintro e w' ⟨rfl, rfl⟩))
      go_ret
      exact ⟨rfl, hst.below⟩
    · have h2 : 55296 ≤ c := by omega
      have h3 : c < 57344 := by omega
      clear hc
      go_enter Tryd.func4, Tryd.ntmps4
      go_wp2_with (first
        | (go_at_call 9; refine (awake_any h).mono ?_; rintro e w' ⟨rfl, hst⟩)
        | (go_at_call 21; refine (hput _).mono ?_; rintro e w' ⟨rfl, rfl⟩))
      go_ret
      exact ⟨rfl, hst.below⟩

set_option maxRecDepth 100000 in
set_option maxHeartbeats 1000000 in
theorem back_char {w : World} (h : St w w) (c : Int) (s : ByteArray) (hs : ¬ 16777216 < s.size) (hc : isC c) :
    Calls Tryd.prog 4 #[.int .i64 c, .string s] w (Yes w) := by
  have hz : ¬ ((16777216 : Int) < (s.size : Int)) := by omega
  have hput := fun W => put_same W c
  have hp : putL c = Lib.encodeRune c := by unfold putL; rw [if_pos hc]
  simp only [hp] at hput
  obtain ⟨P, hP⟩ : ∃ P, tx (Lib.encodeRune c) = P := ⟨_, rfl⟩
  have hsz : P.size = (Lib.encodeRune c).length := by rw [← hP, size_tx]
  have hln := enc_len c
  have hlP : ls P = Lib.encodeRune c := by rw [← hP, ls_tx]
  have htk : tk (Lib.encodeRune c) = [some (Lib.encodeRune c)] := by
    have := tk_char c [] hc
    rwa [List.append_nil] at this
  have hn := fun {w1 : World} (g : St w w1) => next_any g (P ++ s)
  rw [ls_app, hlP, nx_put c _ hc, ← hsz] at hn
  have hv := fun {w1 : World} (g : St w w1) => valid_any g P (by omega)
  rw [hlP, show okL (Lib.encodeRune c) = true by unfold okL; rw [htk]; rfl] at hv
  have hk := fun {w1 : World} (g : St w w1) => count_any g P (by omega)
  rw [hlP, show cntL (Lib.encodeRune c) = 1 by unfold cntL; rw [htk]; rfl] at hk
  simp only [hP] at hput
  obtain ⟨c0, c1, c2⟩ := hc
  rw [← hsz] at hln
  obtain ⟨l1, l4⟩ := hln
  have l1z : (1 : Int) ≤ (P.size : Int) := by omega
  have l4z : (P.size : Int) ≤ 4 := by omega
  clear hsz hlP htk hP hp
  have g1 : ¬ (c < 0) := by omega
  have g2 : ¬ (1114111 < c) := by omega
  by_cases hh : 55296 ≤ c
  · have g3 : ¬ (c < 57344) := by omega
    clear c2
    go_enter Tryd.func4, Tryd.ntmps4
    go_wp2_with (first
      | (go_at_call 9; refine (awake_any h).mono ?_; rintro e w' ⟨rfl, hst⟩)
      | (go_at_call 21; refine (hput _).mono ?_; rintro e w' ⟨rfl, rfl⟩)
      | (go_at_call 11; refine (hn (by assumption)).mono ?_; rintro e w' ⟨rfl, hst⟩)
      | (go_at_call 15; refine (hv (by assumption)).mono ?_; rintro e w' ⟨rfl, hst⟩)
      | (go_at_call 17; refine (hk (by assumption)).mono ?_; rintro e w' ⟨rfl, hst⟩))
    go_ret
    exact ⟨rfl, St.below (by assumption)⟩
  · clear c2
    go_enter Tryd.func4, Tryd.ntmps4
    go_wp2_with (first
      | (go_at_call 9; refine (awake_any h).mono ?_; rintro e w' ⟨rfl, hst⟩)
      | (go_at_call 21; refine (hput _).mono ?_; rintro e w' ⟨rfl, rfl⟩)
      | (go_at_call 11; refine (hn (by assumption)).mono ?_; rintro e w' ⟨rfl, hst⟩)
      | (go_at_call 15; refine (hv (by assumption)).mono ?_; rintro e w' ⟨rfl, hst⟩)
      | (go_at_call 17; refine (hk (by assumption)).mono ?_; rintro e w' ⟨rfl, hst⟩))
    go_ret
    exact ⟨rfl, St.below (by assumption)⟩

theorem back_any {w : World} (h : St w w) (c : Int) (s : ByteArray) : Calls Tryd.prog 4 #[.int .i64 c, .string s] w (Yes w) := by
  by_cases hs : 16777216 < s.size
  · exact back_big h c s hs
  · by_cases hc : isC c
    · exact back_char h c s hs hc
    · exact back_none h c s hs hc
end Go.Proofs.YtkpbbclnffmepaaDoor
