/- The walks of KindNumbers, KindOrder and KindValid. -/
import Derived.Test.YtcodamhoanfanaaDoorKindLives
import Derived.Test.YtcodamhoanfanaaDoorEnRow
namespace Go.Proofs.YtcodamhoanfanaaDoor
open Go.RowKit

theorem sgn_wrap {x : Int} (h0 : -9223372036854775808 ≤ x) (h1 : x ≤ 9223372036854775807) : sgn (IntKind.u64.wrap x) = x := by
  unfold sgn
  rw [IntKind.wrap_u64]
  split <;> omega
theorem u64_fits (x : Int) : 0 ≤ IntKind.u64.wrap x ∧ IntKind.u64.wrap x ≤ 18446744073709551615 := by
  rw [IntKind.wrap_u64]; omega

/-- what the order of two numbers tells -/
structure NumFacts (x y O : Int) : Prop where
  lt : x < y → O = -1
  gt : y < x → O = 1
  eq : x = y → O = 0
theorem num_facts (k n m x y : Int) (hx : key k n = x) (hy : key k m = y) : NumFacts x y (ordV ⟨k, n, ⟨#[]⟩⟩ ⟨k, m, ⟨#[]⟩⟩) := by
  have h := ord_three ⟨k, n, ⟨#[]⟩⟩ ⟨k, m, ⟨#[]⟩⟩
  unfold Ahead Alike at h
  dsimp only at h
  rw [hx, hy] at h
  have hl := ll_irrefl (⟨#[]⟩ : ByteArray).data.toList
  refine ⟨fun g => ?_, fun g => ?_, fun g => ?_⟩
  · rcases h with ⟨q, _⟩ | ⟨_, _, q, _⟩ | ⟨_, q | ⟨_, q | ⟨q, _⟩⟩⟩
    · exact q
    · omega
    · omega
    · omega
    · omega
  · rcases h with ⟨_, q | ⟨_, q | ⟨q, _⟩⟩⟩ | ⟨_, _, q, _⟩ | ⟨q, _⟩
    · omega
    · omega
    · omega
    · omega
    · exact q
  · rcases h with ⟨_, q | ⟨_, q | ⟨_, q⟩⟩⟩ | ⟨q, _⟩ | ⟨_, q | ⟨_, q | ⟨_, q⟩⟩⟩
    · omega
    · omega
    · exact absurd q hl
    · exact q
    · omega
    · omega
    · exact absurd q hl

set_option maxRecDepth 100000 in
set_option maxHeartbeats 2000000 in
theorem numbers_any {w : World} (h : KAll w w) (x y u v : Int) (x0 : -9223372036854775808 ≤ x) (x1 : x ≤ 9223372036854775807) (y0 : -9223372036854775808 ≤ y) (y1 : y ≤ 9223372036854775807)
    (u0 : 0 ≤ u) (u1 : u ≤ 18446744073709551615) (v0 : 0 ≤ v) (v1 : v ≤ 18446744073709551615) :
    Calls Tryd.prog 8 #[.agg #[.int .i64 x, .int .i64 y, .int .u64 u, .int .u64 v]] w (Yes w) := by
  have f1 := num_facts 2 (IntKind.u64.wrap x) (IntKind.u64.wrap y) x y (by unfold key; rw [if_pos rfl, sgn_wrap x0 x1]) (by unfold key; rw [if_pos rfl, sgn_wrap y0 y1])
  have f2 := num_facts 1 u v u v (by unfold key; rw [if_neg (by decide)]) (by unfold key; rw [if_neg (by decide)])
  have c1 := fun {w0 w1 : World} (g : KAll w0 w1) => g.ofK (fun k => order_any k ⟨2, IntKind.u64.wrap x, ⟨#[]⟩⟩ ⟨2, IntKind.u64.wrap y, ⟨#[]⟩⟩ (u64_fits x) (u64_fits y))
  have c2 := fun {w0 w1 : World} (g : KAll w0 w1) => g.ofK (fun k => order_any k ⟨1, u, ⟨#[]⟩⟩ ⟨1, v, ⟨#[]⟩⟩ ⟨u0, u1⟩ ⟨v0, v1⟩)
  obtain ⟨O, hO⟩ : ∃ O, ordV ⟨2, IntKind.u64.wrap x, ⟨#[]⟩⟩ ⟨2, IntKind.u64.wrap y, ⟨#[]⟩⟩ = O := ⟨_, rfl⟩
  obtain ⟨R, hR⟩ : ∃ R, ordV ⟨1, u, ⟨#[]⟩⟩ ⟨1, v, ⟨#[]⟩⟩ = R := ⟨_, rfl⟩
  simp only [hO, vv] at c1
  simp only [hR, vv] at c2
  rw [hO] at f1
  rw [hR] at f2
  have F1 := Lib.hid f1
  have F2 := Lib.hid f2
  have hr : (w.alloc (.cells #[.int .i64 x, .int .i64 y, .int .u64 u, .int .u64 v] 44)).heap[w.heap.size]? = some (.cells #[.int .i64 x, .int .i64 y, .int .u64 u, .int .u64 v] 44 (0, 0)) := heap_alloc_new w _
  have hw0 : Below w.heap.size w (w.alloc (.cells #[.int .i64 x, .int .i64 y, .int .u64 u, .int .u64 v] 44)) := (Below.refl _ _).alloc (Nat.le_refl _) _
  have k2 := (h.new (.cells #[.int .i64 x, .int .i64 y, .int .u64 u, .int .u64 v] 44)).self
  have HW0 := Lib.hid hw0
  have HR := Lib.hid hr
  clear hr hw0
  have HA := Lib.hid h
  obtain ⟨X, hX⟩ : ∃ X, IntKind.u64.wrap x = X := ⟨_, rfl⟩
  obtain ⟨Y, hY⟩ : ∃ Y, IntKind.u64.wrap y = Y := ⟨_, rfl⟩
  simp only [hX, hY] at c1
  clear hO hR f1 f2 h u0 u1 v0 v1 x0 x1 y0 y1
  have hO3 : O = -1 ∧ x < y ∨ (O = 0 ∧ x = y ∧ X = Y) ∨ O = 1 ∧ y < x := by
    rcases Int.lt_trichotomy x y with g | g | g
    · exact .inl ⟨F1.out.lt g, g⟩
    · exact .inr (.inl ⟨F1.out.eq g, g, by rw [← hX, ← hY, g]⟩)
    · exact .inr (.inr ⟨F1.out.gt g, g⟩)
  have hR3 : R = -1 ∧ u < v ∨ R = 0 ∧ u = v ∨ R = 1 ∧ v < u := by
    rcases Int.lt_trichotomy u v with g | g | g
    · exact .inl ⟨F2.out.lt g, g⟩
    · exact .inr (.inl ⟨F2.out.eq g, g⟩)
    · exact .inr (.inr ⟨F2.out.gt g, g⟩)
  clear F1 F2
  rcases hO3 with ⟨rfl, g1⟩ | ⟨rfl, rfl, rfl⟩ | ⟨rfl, g1⟩
  all_goals
    rcases hR3 with ⟨rfl, g2⟩ | ⟨rfl, rfl⟩ | ⟨rfl, g2⟩
  all_goals
    try have g1' : ¬ x < y := by omega
    try have g1'' : ¬ y < x := by omega
    try have g2' : ¬ u < v := by omega
    try have g2'' : ¬ v < u := by omega
    go_enter Tryd.func8, Tryd.ntmps8
    go_wp2_with (first
      | (go_at_call 9; refine (awake_any k2).mono ?_; rintro e w' ⟨rfl, hst⟩; have d0 := row_cells hst.below HR.out 0 _ rfl; have d1 := row_cells hst.below HR.out 1 _ rfl; have d2 := row_cells hst.below HR.out 2 _ rfl; have d3 := row_cells hst.below HR.out 3 _ rfl)
      | (go_at_call 16; with_reducible refine (c1 (by assumption)).mono ?_; rintro e w' ⟨rfl, hst⟩)
      | (go_at_call 16; with_reducible refine (c2 (by assumption)).mono ?_; rintro e w' ⟨rfl, hst⟩))
    go_ret
    exact ⟨ret_bool (by first | rfl | (simp; done) | (simp; omega)), Below.both HW0.out (KAll.below (by assumption))⟩
end Go.Proofs.YtcodamhoanfanaaDoor
