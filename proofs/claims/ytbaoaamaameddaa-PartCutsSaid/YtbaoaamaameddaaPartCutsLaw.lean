/- The walk of PartCuts. -/
import Derived.Test.YtbaoaamaameddaaPartAwake
import Derived.Test.YtbaoaamaameddaaPartRef
namespace Go.Proofs.Ytbaoaamaameddaa
open Go.RowKit

set_option maxRecDepth 100000 in
set_option maxHeartbeats 2000000 in
theorem cuts_eq {w : World} (h : ML w) (s sep t : ByteArray) (hs : s.size ≤ 140737488351232) (hp : sep.size ≤ 140737488351232) (hf : Fits s sep) (hz : s.size + sep.size + t.size ≤ 281474976710656)
    (q : sep.size = 0 ∨ (0 < sep.size ∧ ¬ (67108864 : Int) / (sep.size : Int) < (s.size : Int))) :
    Calls Try.prog 3 #[.string s, .string sep, .string t] w (Yes w) := by
  have ci := fun {W : World} (g : ML W) => index_any g s sep hf
  have ch := fun {W : World} (g : ML W) => head_any g s sep hf (by omega)
  have ct := fun {W : World} (g : ML W) => tail_any g s sep hf (by omega)
  have cj := fun {W : World} => join_any (w := W) s sep t hz
  have ri := fun W => rindex_any W s sep (by omega) (by omega)
  have rh := fun W => rhead_any W s sep (by omega) (by omega)
  have rt := fun W => rtail_any W s sep (by omega) (by omega)
  have rj := fun W => rjoin_any W s sep t hz
  obtain ⟨I, hI⟩ : ∃ I, ix s sep = I := ⟨_, rfl⟩
  obtain ⟨H, hH⟩ : ∃ H, hd s sep = H := ⟨_, rfl⟩
  obtain ⟨T, hT⟩ : ∃ T, tl s sep = T := ⟨_, rfl⟩
  obtain ⟨J, hJ⟩ : ∃ J, s ++ sep ++ t = J := ⟨_, rfl⟩
  simp only [hI] at ci ri
  simp only [hH] at ch rh
  simp only [hT] at ct rt
  simp only [hJ] at cj rj
  clear hI hH hT hJ hf hs hp hz
  rcases q with q | ⟨q1, q2⟩
  · have q0 : ¬ (0 : Int) < (sep.size : Int) := by omega
    clear q
    go_enter Try.func3, Try.ntmps3
    go_wp2_with (first
      | (go_at_call 9; refine (awake_any h).mono ?_; rintro e w1 ⟨rfl, b1⟩; have m1 := h.below b1)
      | (go_at_call 10; refine (ci m1).mono ?_; rintro e w2 ⟨rfl, rfl⟩)
      | (go_at_call 11; refine (ri _).mono ?_; rintro e w2 ⟨rfl, rfl⟩)
      | (go_at_call 12; refine (ch m1).mono ?_; rintro e w3 ⟨rfl, b3⟩; have m3 := m1.below b3)
      | (go_at_call 13; refine (rh _).mono ?_; rintro e w4 ⟨rfl, rfl⟩)
      | (go_at_call 14; refine (ct m3).mono ?_; rintro e w5 ⟨rfl, b5⟩)
      | (go_at_call 15; refine (rt _).mono ?_; rintro e w6 ⟨rfl, rfl⟩)
      | (go_at_call 16; refine cj.mono ?_; rintro e w7 ⟨rfl, b7⟩)
      | (go_at_call 17; refine (rj _).mono ?_; rintro e w8 ⟨rfl, rfl⟩))
    go_ret
    exact ⟨rfl, Below.both (Below.both (Below.both b1 b3) b5) b7⟩
  · have q0 : (0 : Int) < (sep.size : Int) := by omega
    go_enter Try.func3, Try.ntmps3
    go_wp2_with (first
      | (go_at_call 9; refine (awake_any h).mono ?_; rintro e w1 ⟨rfl, b1⟩; have m1 := h.below b1)
      | (go_at_call 10; refine (ci m1).mono ?_; rintro e w2 ⟨rfl, rfl⟩)
      | (go_at_call 11; refine (ri _).mono ?_; rintro e w2 ⟨rfl, rfl⟩)
      | (go_at_call 12; refine (ch m1).mono ?_; rintro e w3 ⟨rfl, b3⟩; have m3 := m1.below b3)
      | (go_at_call 13; refine (rh _).mono ?_; rintro e w4 ⟨rfl, rfl⟩)
      | (go_at_call 14; refine (ct m3).mono ?_; rintro e w5 ⟨rfl, b5⟩)
      | (go_at_call 15; refine (rt _).mono ?_; rintro e w6 ⟨rfl, rfl⟩)
      | (go_at_call 16; refine cj.mono ?_; rintro e w7 ⟨rfl, b7⟩)
      | (go_at_call 17; refine (rj _).mono ?_; rintro e w8 ⟨rfl, rfl⟩))
    go_ret
    exact ⟨rfl, Below.both (Below.both (Below.both b1 b3) b5) b7⟩

set_option maxRecDepth 100000 in
set_option maxHeartbeats 2000000 in
theorem cuts_any {w : World} (h : ML w) (s sep t : ByteArray) (hs : s.size ≤ 140737488351232) (hp : sep.size ≤ 140737488351232) (ht : t.size ≤ 140737488351232) :
    Calls Try.prog 3 #[.string s, .string sep, .string t] w (Yes w) := by
  by_cases h0 : sep.size = 0
  · exact cuts_eq h s sep t hs hp (.inl h0) (by omega) (.inl h0)
  · by_cases hq : (67108864 : Int) / (sep.size : Int) < (s.size : Int)
    · have q0 : (0 : Int) < (sep.size : Int) := by omega
      go_enter Try.func3, Try.ntmps3
      go_wp2_with (go_at_call 9; refine (awake_any h).mono ?_; rintro e w1 ⟨rfl, b1⟩)
      go_ret
      exact ⟨rfl, b1⟩
    · have hd : (67108864 : Int) / (sep.size : Int) = ((67108864 / sep.size : Nat) : Int) := rfl
      have hle : s.size ≤ 67108864 / sep.size := by rw [hd] at hq; omega
      have hm : s.size * sep.size ≤ 67108864 := (Nat.le_div_iff_mul_le (by omega)).1 hle
      have h1 : s.size ≤ 67108864 := Nat.le_trans (Nat.le_mul_of_pos_right _ (by omega)) hm
      have h2 : s.size = 0 ∨ sep.size ≤ 67108864 := by
        rcases Nat.eq_zero_or_pos s.size with g | g
        · exact .inl g
        · exact .inr (Nat.le_trans (Nat.le_mul_of_pos_left _ g) hm)
      exact cuts_eq h s sep t hs hp (.inr (by omega)) (by omega) (.inr ⟨by omega, hq⟩)
end Go.Proofs.Ytbaoaamaameddaa
