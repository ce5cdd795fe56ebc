/- The walks of the compares, of kind.Order, of kind.Valid. -/
import Derived.Test.YtijgcfnjbfaelaaDoorKindPure
import Derived.Test.YtijgcfnjbfaelaaDoorKindMem
import Derived.Test.YtijgcfnjbfaelaaDoorUtfValid
import Derived.Test.YtijgcfnjbfaelaaDoorShelf
import Derived.WalkKit
import Derived.BigCall
namespace Go.Proofs.YtijgcfnjbfaelaaDoor
open Go.RowKit

set_option maxRecDepth 100000 in
set_option maxHeartbeats 1000000 in
theorem ci_int (w : World) (x y : Int) :
    Calls Tryd.prog 37 #[.int .i64 x, .int .i64 y] w fun e w' => e = .returned (.int .i64 (Lib.compareInt x y)) ∧ w' = w := by
  rw [ci_eq]
  by_cases h1 : x < y
  · rw [if_pos h1]
    go_enter Tryd.func37, Tryd.ntmps37
    go_wp2
    go_ret
    exact ⟨rfl, rfl⟩
  · by_cases h2 : y < x
    · rw [if_neg h1, if_pos h2]
      go_enter Tryd.func37, Tryd.ntmps37
      go_wp2
      go_ret
      exact ⟨rfl, rfl⟩
    · rw [if_neg h1, if_neg h2]
      go_enter Tryd.func37, Tryd.ntmps37
      go_wp2
      go_ret
      exact ⟨rfl, rfl⟩
set_option maxRecDepth 100000 in
set_option maxHeartbeats 1000000 in
theorem ci_int64 (w : World) (x y : Int) :
    Calls Tryd.prog 62 #[.int .i64 x, .int .i64 y] w fun e w' => e = .returned (.int .i64 (Lib.compareInt x y)) ∧ w' = w := by
  rw [ci_eq]
  by_cases h1 : x < y
  · rw [if_pos h1]
    go_enter Tryd.func62, Tryd.ntmps62
    go_wp2
    go_ret
    exact ⟨rfl, rfl⟩
  · by_cases h2 : y < x
    · rw [if_neg h1, if_pos h2]
      go_enter Tryd.func62, Tryd.ntmps62
      go_wp2
      go_ret
      exact ⟨rfl, rfl⟩
    · rw [if_neg h1, if_neg h2]
      go_enter Tryd.func62, Tryd.ntmps62
      go_wp2
      go_ret
      exact ⟨rfl, rfl⟩
set_option maxRecDepth 100000 in
set_option maxHeartbeats 1000000 in
theorem ci_uint64 (w : World) (x y : Int) :
    Calls Tryd.prog 63 #[.int .u64 x, .int .u64 y] w fun e w' => e = .returned (.int .i64 (Lib.compareInt x y)) ∧ w' = w := by
  rw [ci_eq]
  by_cases h1 : x < y
  · rw [if_pos h1]
    go_enter Tryd.func63, Tryd.ntmps63
    go_wp2
    go_ret
    exact ⟨rfl, rfl⟩
  · by_cases h2 : y < x
    · rw [if_neg h1, if_pos h2]
      go_enter Tryd.func63, Tryd.ntmps63
      go_wp2
      go_ret
      exact ⟨rfl, rfl⟩
    · rw [if_neg h1, if_neg h2]
      go_enter Tryd.func63, Tryd.ntmps63
      go_wp2
      go_ret
      exact ⟨rfl, rfl⟩

theorem wrap_sgn (n : Int) (h0 : 0 ≤ n) (h1 : n ≤ 18446744073709551615) : IntKind.i64.wrap n = sgn n := by
  unfold sgn
  rw [IntKind.wrap_i64]
  split <;> omega

set_option maxRecDepth 100000 in
set_option maxHeartbeats 1000000 in
theorem ordn_any {w : World} (hk : KVars w) (k a b : Int) (a0 : 0 ≤ a) (a1 : a ≤ 18446744073709551615) (b0 : 0 ≤ b) (b1 : b ≤ 18446744073709551615) :
    Calls Tryd.prog 38 #[.int .i64 k, .int .u64 a, .int .u64 b] w fun e w' => e = .returned (.int .i64 (cmpN k a b)) ∧ w' = w := by
  have hi := hk.i
  have ha := wrap_sgn a a0 a1
  have hb := wrap_sgn b b0 b1
  unfold cmpN key
  by_cases h : k = 2
  · subst h
    rw [if_pos rfl, if_pos rfl]
    obtain ⟨x, hx⟩ : ∃ x, sgn a = x := ⟨_, rfl⟩
    obtain ⟨y, hy⟩ : ∃ y, sgn b = y := ⟨_, rfl⟩
    rw [hx] at ha ⊢
    rw [hy] at hb ⊢
    clear hx hy a0 a1 b0 b1
    go_enter Tryd.func38, Tryd.ntmps38
    go_wp2_with (go_at_call 62; refine (ci_int64 _ _ _).mono ?_; rintro e w' ⟨rfl, rfl⟩)
    go_ret
    exact ⟨rfl, rfl⟩
  · rw [if_neg h, if_neg h]
    clear ha hb a0 a1 b0 b1
    have hb2 : (k == 2) = false := by simpa using h
    go_enter Tryd.func38, Tryd.ntmps38
    go_wp2_with (go_at_call 63; refine (ci_uint64 _ _ _).mono ?_; rintro e w' ⟨rfl, rfl⟩)
    go_ret
    exact ⟨rfl, rfl⟩
end Go.Proofs.YtijgcfnjbfaelaaDoor
