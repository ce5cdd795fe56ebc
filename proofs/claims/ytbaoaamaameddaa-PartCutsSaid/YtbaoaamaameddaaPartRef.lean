/- The walks of the reference: stands, Index, Head, Tail, Join, Rep, Hex. -/
import Derived.Test.YtbaoaamaameddaaPartHex
import Derived.Lib.AppendStr
namespace Go.Proofs.Ytbaoaamaameddaa
open Go.RowKit
open Go.Lib (byteCells)

set_option maxRecDepth 100000 in
set_option maxHeartbeats 1000000 in
theorem stands_yes {s sep : ByteArray} {k : Nat} (h : At s sep k) (hs : s.size ≤ 140737488355328) (w : World) :
    Calls Try.prog 23 #[.string s, .string sep, .int .i64 k] w fun e w' => e = .returned (.bool true) ∧ w = w' := by
  obtain ⟨h1, h2⟩ := h
  have a0 : (k : Int) + (sep.size : Int) ≤ s.size := by omega
  have a1 : (k : Int) ≤ (k : Int) + (sep.size : Int) := by omega
  go_enter Try.func23, Try.ntmps23
  go_wp2
  go_ret
  exact ⟨rfl, rfl⟩

set_option maxRecDepth 100000 in
set_option maxHeartbeats 1000000 in
theorem stands_no {s sep : ByteArray} {k : Nat} (h : ¬ At s sep k) (hs : s.size ≤ 140737488355328) (hp : sep.size ≤ 140737488355328) (hk : k ≤ s.size) (w : World) :
    Calls Try.prog 23 #[.string s, .string sep, .int .i64 k] w fun e w' => e = .returned (.bool false) ∧ w = w' := by
  by_cases h1 : k + sep.size ≤ s.size
  · have h2 : ((s.extract k (k + sep.size)).toList == sep.toList) = false := by
      rw [beq_ls]
      exact decide_eq_false fun e => h ⟨h1, e⟩
    have a0 : (k : Int) + (sep.size : Int) ≤ s.size := by omega
    have a1 : (k : Int) ≤ (k : Int) + (sep.size : Int) := by omega
    clear h
    go_enter Try.func23, Try.ntmps23
    go_wp2
    go_ret
    exact ⟨rfl, rfl⟩
  · have a0 : ¬ (k : Int) + (sep.size : Int) ≤ s.size := by omega
    clear h
    go_enter Try.func23, Try.ntmps23
    go_wp2
    go_ret
    exact ⟨rfl, rfl⟩

set_option maxRecDepth 100000 in
set_option maxHeartbeats 1000000 in
theorem rindex_any (w : World) (s sep : ByteArray) (hs : s.size ≤ 140737488355328) (hp : sep.size ≤ 140737488355328) :
    Calls Try.prog 11 #[.string s, .string sep] w fun e w' => e = .returned (.int .i64 (ix s sep)) ∧ w = w' := by
  by_cases h0 : sep.size = 0
  · rw [ix_empty h0]
    obtain rfl := size_zero h0
    clear h0 hp
    go_enter Try.func11, Try.ntmps11
    go_wp2
    go_ret
    exact ⟨rfl, rfl⟩
  · have he := isEmpty_no h0
    obtain ⟨X, hX⟩ : ∃ X, ix s sep = X := ⟨_, rfl⟩
    rw [hX]
    have HX := Lib.hid hX
    have H0 := Lib.hid h0
    clear hX h0
    go_enter Try.func11, Try.ntmps11
    go_wp2
    go_loopw [5] (fun v wr => ∃ k : Nat, v = .int .i64 k ∧ k ≤ s.size ∧ Hid (∀ j, j < k → ¬ At s sep j) ∧ w = wr) (fun v _ => s.size - (intOf v).toNat)
    case atStart => exact ⟨0, rfl, Nat.zero_le _, fun _ h => absurd h (Nat.not_lt_zero _), rfl⟩
    case round =>
      obtain ⟨k, rfl, hk, HN, rfl⟩ := hrel
      by_cases hlt : k < s.size
      · have hltz : (k : Int) < (s.size : Int) := by omega
        by_cases ha : At s sep k
        · have cs := stands_yes ha hs
          have HE : Hid ((k : Int) = X) := (ix_first H0.out ⟨ha, HN.out⟩).symm.trans HX.out
          clear ha
          go_wp2_with (go_at_call 23; refine (cs _).mono ?_; rintro e w2 ⟨rfl, rfl⟩)
          go_ret
          exact ⟨ret_int HE.out, rfl⟩
        · have cs := stands_no ha hs hp hk
          have HN2 : Hid (∀ j, j < k + 1 → ¬ At s sep j) := fun j hj => by
            rcases Nat.lt_or_eq_of_le (Nat.le_of_lt_succ hj) with h | h
            · exact HN.out j h
            · rw [h]; exact ha
          clear ha
          go_wp2_with (go_at_call 23; refine (cs _).mono ?_; rintro e w2 ⟨rfl, rfl⟩)
          go_roundw
          case rel => exact ⟨k + 1, by go_num, by omega, HN2, trivial⟩
          case measure => simp [intOf]; omega
      · have HE : Hid (X = -1) := HX.out.symm.trans (ix_none fun j hj => by
          have hz := H0.out
          by_cases hjk : j < k
          · exact HN.out j hjk hj
          · have := hj.1
            omega)
        go_wp2
        go_ret
        exact ⟨ret_int HE.out.symm, rfl⟩

set_option maxRecDepth 100000 in
set_option maxHeartbeats 1000000 in
theorem rhead_any (w : World) (s sep : ByteArray) (hs : s.size ≤ 140737488355328) (hp : sep.size ≤ 140737488355328) :
    Calls Try.prog 13 #[.string s, .string sep] w fun e w' => e = .returned (.string (hd s sep)) ∧ w = w' := by
  have ci := fun W => rindex_any W s sep hs hp
  rcases ix_cases s sep with ⟨hi, _⟩ | ⟨k, hi, _, hf⟩
  · rw [hd_none hi]
    simp only [hi] at ci
    clear hi
    go_enter Try.func13, Try.ntmps13
    go_wp2_with (go_at_call 11; refine (ci _).mono ?_; rintro e w' ⟨rfl, rfl⟩)
    go_ret
    exact ⟨rfl, rfl⟩
  · rw [hd_at hi]
    simp only [hi] at ci
    have hk : k ≤ s.size := by have := hf.1.1; omega
    clear hi hf
    go_enter Try.func13, Try.ntmps13
    go_wp2_with (go_at_call 11; refine (ci _).mono ?_; rintro e w' ⟨rfl, rfl⟩)
    go_ret
    exact ⟨rfl, rfl⟩

set_option maxRecDepth 100000 in
set_option maxHeartbeats 1000000 in
theorem rtail_any (w : World) (s sep : ByteArray) (hs : s.size ≤ 140737488355328) (hp : sep.size ≤ 140737488355328) :
    Calls Try.prog 15 #[.string s, .string sep] w fun e w' => e = .returned (.string (tl s sep)) ∧ w = w' := by
  have ci := fun W => rindex_any W s sep hs hp
  rcases ix_cases s sep with ⟨hi, _⟩ | ⟨k, hi, _, hf⟩
  · rw [tl_none hi]
    simp only [hi] at ci
    clear hi
    go_enter Try.func15, Try.ntmps15
    go_wp2_with (go_at_call 11; refine (ci _).mono ?_; rintro e w' ⟨rfl, rfl⟩)
    go_ret
    exact ⟨rfl, rfl⟩
  · rw [tl_at hi]
    simp only [hi] at ci
    have hk : k + sep.size ≤ s.size := hf.1.1
    clear hi hf
    go_enter Try.func15, Try.ntmps15
    go_wp2_with (go_at_call 11; refine (ci _).mono ?_; rintro e w' ⟨rfl, rfl⟩)
    go_ret
    exact ⟨rfl, rfl⟩

set_option maxRecDepth 100000 in
set_option maxHeartbeats 1000000 in
theorem rjoin_any (w : World) (a b c : ByteArray) (hs : a.size + b.size + c.size ≤ 281474976710656) :
    Calls Try.prog 17 #[.string a, .string b, .string c] w fun e w' => e = .returned (.string (a ++ b ++ c)) ∧ w = w' := by
  have h1 : ¬ 9223372036854775807 < a.size + b.size := by omega
  have h2 : ¬ 9223372036854775807 < a.size + b.size + c.size := by omega
  go_enter Try.func17, Try.ntmps17
  go_wp2
  go_ret
  exact ⟨rfl, rfl⟩
end Go.Proofs.Ytbaoaamaameddaa
