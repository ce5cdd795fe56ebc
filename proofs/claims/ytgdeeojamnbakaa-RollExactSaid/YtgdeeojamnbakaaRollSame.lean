/- The walk of same: two rows of the same entries. -/
import Derived.Test.YtgdeeojamnbakaaRollLaw
import Derived.Laws.StructEq
import Derived.Deep.QuietTactic
import Derived.BigQuiet
namespace Go.Proofs.Ytgdeeojamnbakaa
open Go.RowKit

set_option maxHeartbeats 1000000 in
theorem same_some (n g cap g' cap' : Nat) (es : List Ent) (w : World) (hlen : n = es.length) (hn : n ≤ maxLen)
    (h1 : w.ownsRow 0 40 4 (.slice (some ⟨g, 0, none⟩) n cap) n (flat es)) (h2 : w.ownsRow 0 40 4 (.slice (some ⟨g', 0, none⟩) n cap') n (flat es)) :
    Calls Try.prog 13 #[.slice (some ⟨g, 0, none⟩) n cap, .slice (some ⟨g', 0, none⟩) n cap'] w fun e w' => e = .returned (.bool true) ∧ Below w.heap.size w w' := by
  unfold maxLen at hn
  have hlen1 : n ≤ es.length := by omega
  clear hlen
  have H1 := Lib.hid h1
  have H2 := Lib.hid h2
  clear h1 h2
  go_enter Try.func13, Try.ntmps13
  go_wp2
  go_loopw [5] (fun i wr => ∃ k d : Nat, k ≤ n ∧ i = .int .i64 k ∧ wr = w.drewN d) (fun i _ => n - (intOf i).toNat)
  case atStart => exact ⟨0, 0, Nat.zero_le _, rfl, rfl⟩
  case round =>
    obtain ⟨k, d, hk, rfl, rfl⟩ := hrel
    by_cases hlt : k < n
    · obtain ⟨c0, c1, c2, c3⟩ := rows_at H1.out (k := k) (e := es[k]) (by simp)
      obtain ⟨d0, d1, d2, d3⟩ := rows_at H2.out (k := k) (e := es[k]) (by simp)
      have hlt2 : (k : Int) < (n : Int) := by omega
      have hk0 : (0 : Int) ≤ (k : Int) := by omega
      go_wp2_with fail
      go_quiet (fail)
      go_wp2_with fail
      go_roundw
      case rel => exact ⟨k + 1, d + nq, by omega, by go_num, rfl⟩
      case measure => simp [intOf]; omega
    · go_wp2_with fail
      go_ret
      exact ⟨rfl, Below.drewN' _ _⟩

set_option maxHeartbeats 400000 in
theorem same_zero (a a' : Option Addr) (cap cap' : Nat) (w : World) :
    Calls Try.prog 13 #[.slice a 0 cap, .slice a' 0 cap'] w fun e w' => e = .returned (.bool true) ∧ Below w.heap.size w w' := by
  go_enter Try.func13, Try.ntmps13
  go_wp2
  go_rounds 1
  go_ret
  exact ⟨rfl, Below.refl _ _⟩

/-- Two values that read as the same entries. -/
theorem same_true {w : World} {B B' : Nat} {v v' : Value} {es : List Ent} (h1 : w.ownsRow B 40 4 v es.length (flat es)) (h2 : w.ownsRow B' 40 4 v' es.length (flat es)) :
    Calls Try.prog 13 #[v, v'] w fun e w' => e = .returned (.bool true) ∧ Below w.heap.size w w' := by
  have low : ∀ {B : Nat} {v : Value}, w.ownsRow B 40 4 v es.length (flat es) → w.ownsRow 0 40 4 v es.length (flat es) := fun h => by
    refine ⟨h.1, ?_⟩
    rcases h.2 with h | ⟨g, cap, cur, hv, _, r⟩
    · exact .inl h
    · exact .inr ⟨g, cap, cur, hv, Nat.zero_le _, r⟩
  by_cases h0 : es.length = 0
  · have zero : ∀ {B : Nat} {v : Value}, w.ownsRow B 40 4 v es.length (flat es) → ∃ a c, v = .slice a 0 c := fun h => by
      rcases rows_form h with ⟨rfl, _⟩ | ⟨g, cap, rfl, _⟩
      · exact ⟨_, _, rfl⟩
      · rw [h0]
        exact ⟨_, _, rfl⟩
    obtain ⟨a, c, rfl⟩ := zero h1
    obtain ⟨a', c', rfl⟩ := zero h2
    exact same_zero a a' c c' w
  · have l1 := low h1
    have l2 := low h2
    rcases rows_form h1 with ⟨_, h⟩ | ⟨g, cap, rfl, _, hc, hm⟩
    · exact absurd h h0
    rcases rows_form h2 with ⟨_, h⟩ | ⟨g', cap', rfl, _, _, _⟩
    · exact absurd h h0
    exact same_some _ g cap g' cap' es w rfl (by omega) l1 l2

end Go.Proofs.Ytgdeeojamnbakaa
