/- The walk of PartReps. -/
import Derived.Test.YtbaoaamaameddaaPartAwake
namespace Go.Proofs.Ytbaoaamaameddaa
open Go.RowKit

theorem rep_ok {w : World} {s : ByteArray} {n : Nat} (h : n * s.size ≤ 4096) (hn : n ≤ 18446744073709551615) (hs : s.size ≤ 9223372036854775807) :
    Calls Try.prog 18 #[.string s, .int .u64 n] w fun e w' => e = .returned (.tuple #[.string (rp s n), .int .i64 0]) ∧ Below w.heap.size w w' := by
  have := rep_any (w := w) s n hn hs
  unfold repT repE at this
  rw [if_pos h, if_pos h] at this
  exact this
theorem rep_no {w : World} {s : ByteArray} {n : Nat} (h : ¬ n * s.size ≤ 4096) (hn : n ≤ 18446744073709551615) (hs : s.size ≤ 9223372036854775807) :
    Calls Try.prog 18 #[.string s, .int .u64 n] w fun e w' => e = .returned (.tuple #[.string ByteArray.empty, .int .i64 2]) ∧ Below w.heap.size w w' := by
  have := rep_any (w := w) s n hn hs
  unfold repT repE at this
  rw [if_neg h, if_neg h] at this
  exact this
theorem rep_emp {w : World} (X : Int) (h0 : 0 ≤ X) (h1 : X ≤ 18446744073709551615) :
    Calls Try.prog 18 #[.string ByteArray.empty, .int .u64 X] w fun e w' => e = .returned (.tuple #[.string ByteArray.empty, .int .i64 0]) ∧ Below w.heap.size w w' := by
  obtain ⟨n, rfl⟩ := Int.eq_ofNat_of_zero_le h0
  have := rep_ok (w := w) (s := ByteArray.empty) (n := n) (by show n * 0 ≤ _; omega) (by omega) (by decide)
  rw [rp_empty rfl] at this
  exact this

theorem wrap_u64 (x : Int) : 0 ≤ IntKind.u64.wrap x ∧ IntKind.u64.wrap x ≤ 18446744073709551615 := by
  have h : IntKind.u64.wrap x = x % 18446744073709551616 := rfl
  rw [h]
  omega

set_option maxRecDepth 100000 in
set_option maxHeartbeats 2000000 in
theorem reps_empty {w : World} (h : ML w) (n m : Nat) (hn : n ≤ 18446744073709551615) (hm : m ≤ 18446744073709551615) :
    Calls Try.prog 7 #[.string ByteArray.empty, .int .u64 n, .int .u64 m] w (Yes w) := by
  have cn := fun {W : World} => rep_emp (w := W) n (by omega) (by omega)
  have cm := fun {W : World} => rep_emp (w := W) m (by omega) (by omega)
  have hx := wrap_u64 ((n : Int) + (m : Int))
  have cx := fun {W : World} => rep_emp (w := W) _ hx.1 hx.2
  clear hx
  go_enter Try.func7, Try.ntmps7
  go_wp2_with (first
    | (go_at_call 9; refine (awake_any h).mono ?_; rintro e w1 ⟨rfl, b1⟩)
    | (go_at_call 18; (with_reducible refine cn.mono ?_); rintro e w2 ⟨rfl, b2⟩)
    | (go_at_call 18; (with_reducible refine cm.mono ?_); rintro e w3 ⟨rfl, b3⟩)
    | (go_at_call 18; (with_reducible refine cx.mono ?_); rintro e w4 ⟨rfl, b4⟩))
  go_ret
  exact ⟨rfl, Below.both (Below.both (Below.both b1 b2) b3) b4⟩

set_option maxRecDepth 100000 in
set_option maxHeartbeats 2000000 in
theorem reps_any {w : World} (h : ML w) (s : ByteArray) (n m : Nat) (hs : s.size ≤ 140737488351232) (hn : n ≤ 18446744073709551615) (hm : m ≤ 18446744073709551615) :
    Calls Try.prog 7 #[.string s, .int .u64 n, .int .u64 m] w (Yes w) := by
  by_cases h0 : s.size = 0
  · obtain rfl := size_zero h0
    exact reps_empty h n m hn hm
  · have he := isEmpty_no h0
    have hp : 1 ≤ s.size := by omega
    have hs9 : s.size ≤ 9223372036854775807 := by omega
    have bound : ∀ k, k * s.size ≤ 4096 → k ≤ 4096 := fun k hk => by
      have : k * 1 ≤ k * s.size := Nat.mul_le_mul_left _ hp
      omega
    have cdiv : ∀ k : Nat, k ≠ 0 → ((s.size : Int) ≤ (4096 : Int) / (k : Int) ↔ k * s.size ≤ 4096) := fun k hk => by
      have h2 : (4096 : Int) / (k : Int) = ((4096 / k : Nat) : Int) := rfl
      rw [h2]
      have h3 := Nat.le_div_iff_mul_le (x := s.size) (y := 4096) (k := k) (by omega)
      rw [Nat.mul_comm] at h3
      omega
    have CDIV := Lib.hid cdiv
    have BOUND := Lib.hid bound
    clear cdiv bound
    by_cases h1 : n * s.size ≤ 4096
    · have c1 := fun {W : World} => rep_ok (w := W) h1 hn hs9
      have hn4 := BOUND.out n h1
      have fits : ((n : Int) == 0) = true ∨ (((n : Int) == 0) = false ∧ (n : Int) ≠ 0 ∧ (n : Int) ≤ 4096 ∧ (s.size : Int) ≤ (4096 : Int) / (n : Int)) := by
        by_cases hz : n = 0
        · exact .inl (by simp; omega)
        · exact .inr ⟨by simp; omega, by omega, by omega, (CDIV.out n hz).2 h1⟩
      by_cases h2 : m * s.size ≤ 4096
      · have c2 := fun {W : World} => rep_ok (w := W) h2 hm hs9
        have hm4 := BOUND.out m h2
        have hsum : (n + m) * s.size = n * s.size + m * s.size := Nat.add_mul _ _ _
        have za := rp_size s n
        have zb := rp_size s m
        have hcat := rp_add s n m
        by_cases h3 : (n + m) * s.size ≤ 4096
        · have c3 := fun {W : World} => rep_ok (w := W) h3 (by omega) hs9
          have hq : ¬ (4096 : Int) < ((rp s n).size : Int) + ((rp s m).size : Int) := by omega
          rw [Int.natCast_add] at c3
          have hlt : ¬ 9223372036854775807 < (rp s n).size + (rp s m).size := by omega
          obtain ⟨a, ha⟩ : ∃ a, rp s n = a := ⟨_, rfl⟩
          obtain ⟨b, hb⟩ : ∃ b, rp s m = b := ⟨_, rfl⟩
          obtain ⟨c, hc⟩ : ∃ c, rp s (n + m) = c := ⟨_, rfl⟩
          rw [ha] at c1 hq hcat za hlt
          rw [hb] at c2 hq hcat zb hlt
          rw [hc] at c3 hcat
          subst hcat
          clear ha hb hc h1 h2 h3 hsum za zb CDIV BOUND hp
          rcases fits with g0 | ⟨g1, g2, g3, g4⟩
          · go_enter Try.func7, Try.ntmps7
            go_wp2_with (first
              | (go_at_call 9; refine (awake_any h).mono ?_; rintro e w1 ⟨rfl, b1⟩)
              | (go_at_call 18; (with_reducible refine c1.mono ?_); rintro e w2 ⟨rfl, b2⟩)
              | (go_at_call 18; (with_reducible refine c2.mono ?_); rintro e w3 ⟨rfl, b3⟩)
              | (go_at_call 18; (with_reducible refine c3.mono ?_); rintro e w4 ⟨rfl, b4⟩))
            all_goals
              go_ret
              exact ⟨rfl, Below.both (Below.both (Below.both b1 b2) b3) b4⟩
          · go_enter Try.func7, Try.ntmps7
            go_wp2_with (first
              | (go_at_call 9; refine (awake_any h).mono ?_; rintro e w1 ⟨rfl, b1⟩)
              | (go_at_call 18; (with_reducible refine c1.mono ?_); rintro e w2 ⟨rfl, b2⟩)
              | (go_at_call 18; (with_reducible refine c2.mono ?_); rintro e w3 ⟨rfl, b3⟩)
              | (go_at_call 18; (with_reducible refine c3.mono ?_); rintro e w4 ⟨rfl, b4⟩))
            all_goals
              go_ret
              exact ⟨rfl, Below.both (Below.both (Below.both b1 b2) b3) b4⟩
        · have c3 := fun {W : World} => rep_no (w := W) h3 (by omega) hs9
          have hq : (4096 : Int) < ((rp s n).size : Int) + ((rp s m).size : Int) := by omega
          rw [Int.natCast_add] at c3
          obtain ⟨a, ha⟩ : ∃ a, rp s n = a := ⟨_, rfl⟩
          obtain ⟨b, hb⟩ : ∃ b, rp s m = b := ⟨_, rfl⟩
          rw [ha] at c1 hq hcat za
          rw [hb] at c2 hq hcat zb
          have za4 : a.size ≤ 4096 := by omega
          have zb4 : b.size ≤ 4096 := by omega
          clear ha hb h1 h2 h3 hsum za zb CDIV BOUND hp hcat
          rcases fits with g0 | ⟨g1, g2, g3, g4⟩
          · go_enter Try.func7, Try.ntmps7
            go_wp2_with (first
              | (go_at_call 9; refine (awake_any h).mono ?_; rintro e w1 ⟨rfl, b1⟩)
              | (go_at_call 18; (with_reducible refine c1.mono ?_); rintro e w2 ⟨rfl, b2⟩)
              | (go_at_call 18; (with_reducible refine c2.mono ?_); rintro e w3 ⟨rfl, b3⟩)
              | (go_at_call 18; (with_reducible refine c3.mono ?_); rintro e w4 ⟨rfl, b4⟩))
            all_goals
              go_ret
              exact ⟨rfl, Below.both (Below.both (Below.both b1 b2) b3) b4⟩
          · go_enter Try.func7, Try.ntmps7
            go_wp2_with (first
              | (go_at_call 9; refine (awake_any h).mono ?_; rintro e w1 ⟨rfl, b1⟩)
              | (go_at_call 18; (with_reducible refine c1.mono ?_); rintro e w2 ⟨rfl, b2⟩)
              | (go_at_call 18; (with_reducible refine c2.mono ?_); rintro e w3 ⟨rfl, b3⟩)
              | (go_at_call 18; (with_reducible refine c3.mono ?_); rintro e w4 ⟨rfl, b4⟩))
            all_goals
              go_ret
              exact ⟨rfl, Below.both (Below.both (Below.both b1 b2) b3) b4⟩
      · have c2 := fun {W : World} => rep_no (w := W) h2 hm hs9
        obtain ⟨a, ha⟩ : ∃ a, rp s n = a := ⟨_, rfl⟩
        rw [ha] at c1
        clear ha h1 h2 CDIV BOUND hp
        rcases fits with g0 | ⟨g1, g2, g3, g4⟩
        · go_enter Try.func7, Try.ntmps7
          go_wp2_with (first
              | (go_at_call 9; refine (awake_any h).mono ?_; rintro e w1 ⟨rfl, b1⟩)
              | (go_at_call 18; (with_reducible refine c1.mono ?_); rintro e w2 ⟨rfl, b2⟩)
              | (go_at_call 18; (with_reducible refine c2.mono ?_); rintro e w3 ⟨rfl, b3⟩))
          all_goals
            go_ret
            exact ⟨rfl, Below.both (Below.both b1 b2) b3⟩
        · go_enter Try.func7, Try.ntmps7
          go_wp2_with (first
              | (go_at_call 9; refine (awake_any h).mono ?_; rintro e w1 ⟨rfl, b1⟩)
              | (go_at_call 18; (with_reducible refine c1.mono ?_); rintro e w2 ⟨rfl, b2⟩)
              | (go_at_call 18; (with_reducible refine c2.mono ?_); rintro e w3 ⟨rfl, b3⟩))
          all_goals
            go_ret
            exact ⟨rfl, Below.both (Below.both b1 b2) b3⟩
    · have c1 := fun {W : World} => rep_no (w := W) h1 hn hs9
      have hn0 : n ≠ 0 := fun e => h1 (by rw [e]; omega)
      have g1 : ((n : Int) == 0) = false := by simp; omega
      have g2 : (n : Int) ≠ 0 := by omega
      have g3 : (n : Int) ≤ 4096 → ¬ (s.size : Int) ≤ (4096 : Int) / (n : Int) := fun _ e => h1 ((CDIV.out n hn0).1 e)
      have G3 := Lib.hid g3
      have c2 := fun {W : World} => rep_any (w := W) s m hm hs9
      obtain ⟨b, hb⟩ : ∃ b, repT s m = b := ⟨_, rfl⟩
      obtain ⟨f, hf⟩ : ∃ f, repE s m = f := ⟨_, rfl⟩
      rw [hb, hf] at c2
      clear hb hf h1 CDIV BOUND hp g3
      by_cases g5 : (n : Int) ≤ 4096
      · have g4 := G3.out g5
        go_enter Try.func7, Try.ntmps7
        go_wp2_with (first
              | (go_at_call 9; refine (awake_any h).mono ?_; rintro e w1 ⟨rfl, b1⟩)
              | (go_at_call 18; (with_reducible refine c1.mono ?_); rintro e w2 ⟨rfl, b2⟩)
              | (go_at_call 18; (with_reducible refine c2.mono ?_); rintro e w3 ⟨rfl, b3⟩))
        all_goals
          go_ret
          exact ⟨rfl, Below.both (Below.both b1 b2) b3⟩
      · go_enter Try.func7, Try.ntmps7
        go_wp2_with (first
              | (go_at_call 9; refine (awake_any h).mono ?_; rintro e w1 ⟨rfl, b1⟩)
              | (go_at_call 18; (with_reducible refine c1.mono ?_); rintro e w2 ⟨rfl, b2⟩)
              | (go_at_call 18; (with_reducible refine c2.mono ?_); rintro e w3 ⟨rfl, b3⟩))
        all_goals
          go_ret
          exact ⟨rfl, Below.both (Below.both b1 b2) b3⟩
end Go.Proofs.Ytbaoaamaameddaa
