/- The walk of kind.Order. -/
import Derived.Test.YtijgcfnjbfaelaaDoorKindOrd
import Derived.Test.YtijgcfnjbfaelaaDoorKindValid
namespace Go.Proofs.YtijgcfnjbfaelaaDoor
open Go.RowKit

set_option maxRecDepth 100000 in
set_option maxHeartbeats 1000000 in
theorem order_any {w0 w : World} (hk : KSt w0 w) (a b : Val) (ha : Fits a) (hb : Fits b) :
    Calls Tryd.prog 24 #[vv a, vv b] w fun e w' => e = .returned (.int .i64 (ordV a b)) ∧ KSt w0 w' := by
  obtain ⟨k, n, s⟩ := a
  obtain ⟨k', n', s'⟩ := b
  have c1 := fun W => ci_int W k k'
  have c2 := fun W (h : KVars W) => ordn_any h k n n' ha.1 ha.2 hb.1 hb.2
  have c3 := fun W => Tryd.strings_Compare s s' W
  unfold ordV vv
  dsimp only
  obtain ⟨x, hx⟩ : ∃ x, Lib.compareInt k k' = x := ⟨_, rfl⟩
  obtain ⟨y, hy⟩ : ∃ y, cmpN k n n' = y := ⟨_, rfl⟩
  obtain ⟨z, hz⟩ : ∃ z, Lib.compareBytes s.data.toList s'.data.toList = z := ⟨_, rfl⟩
  rw [hx, hy, hz]
  simp only [hx] at c1
  simp only [hy] at c2
  simp only [hz] at c3
  clear hx hy hz ha hb
  have HK := Lib.hid hk
  have k2 := ((hk.new (.cells #[.int .i64 k, .int .u64 n, .string s] 24)).new (.cells #[.int .i64 k', .int .u64 n', .string s'] 24))
  clear hk
  by_cases hx : x = 0
  · subst hx
    rw [if_neg (by simp)]
    by_cases hy : y = 0
    · subst hy
      rw [if_neg (by simp)]
      go_enter Tryd.func24, Tryd.ntmps24
      go_wp2_with (first
        | (go_at_call 37; refine (c1 _).mono ?_; rintro e w' ⟨rfl, rfl⟩)
        | (go_at_call 38; refine (c2 _ k2.k).mono ?_; rintro e w' ⟨rfl, rfl⟩)
        | (go_at_call 39; refine (c3 _).mono ?_; rintro e w' ⟨rfl, rfl⟩))
      go_ret
      exact ⟨rfl, k2⟩
    · rw [if_pos hy]
      have hyb : (y == 0) = false := by simpa using hy
      go_enter Tryd.func24, Tryd.ntmps24
      go_wp2_with (first
        | (go_at_call 37; refine (c1 _).mono ?_; rintro e w' ⟨rfl, rfl⟩)
        | (go_at_call 38; refine (c2 _ k2.k).mono ?_; rintro e w' ⟨rfl, rfl⟩))
      go_ret
      exact ⟨rfl, k2⟩
  · rw [if_pos hx]
    have hxb : (x == 0) = false := by simpa using hx
    go_enter Tryd.func24, Tryd.ntmps24
    go_wp2_with (go_at_call 37; refine (c1 _).mono ?_; rintro e w' ⟨rfl, rfl⟩)
    go_ret
    exact ⟨rfl, k2⟩

end Go.Proofs.YtijgcfnjbfaelaaDoor
