/- The walk of PartHalves. -/
import Derived.Test.YtbaoaamaameddaaPartAwake
namespace Go.Proofs.Ytbaoaamaameddaa
open Go.RowKit

theorem wrap_u64h (x : Int) : 0 ≤ IntKind.u64.wrap x ∧ IntKind.u64.wrap x ≤ 18446744073709551615 := by
  have h : IntKind.u64.wrap x = x % 18446744073709551616 := rfl
  rw [h]
  omega

set_option maxRecDepth 100000 in
set_option maxHeartbeats 2000000 in
/-- where the separator stands nowhere -/
theorem halves_none {w : World} (h : ML w) (s sep : ByteArray) (a : Int) (hs : s.size < 4294967281) (hp : sep.size ≤ 140737488351232) (hi : ix s sep = -1) (hn : sep.size = 0 ∨ ∀ k, ¬ At s sep k) :
    Calls Try.prog 5 #[.string s, .string sep, .int .i64 a] w (Yes w) := by
  have ci := fun {W : World} (g : ML W) => index_any g s sep (.inr hs)
  have ch := fun {W : World} (g : ML W) => head_any g s sep (.inr hs) (by omega)
  have ct := fun {W : World} (g : ML W) => tail_any g s sep (.inr hs) (by omega)
  simp only [hi, hd_none hi, tl_none hi] at ci ch ct
  obtain ⟨z, hz⟩ : ∃ z, IntKind.u64.wrap a = z := ⟨_, rfl⟩
  have hzb := wrap_u64h a
  rw [hz] at hzb
  obtain ⟨k, hk⟩ : ∃ k : Nat, z % ((s.size : Int) + 1) = k := Int.eq_ofNat_of_zero_le (Int.emod_nonneg _ (by omega))
  have hks : k ≤ s.size := by have := Int.emod_lt_of_pos z (show (0 : Int) < (s.size : Int) + 1 by omega); omega
  clear hi
  by_cases h0 : sep.size = 0
  · obtain rfl := size_zero h0
    clear h0 hn hp
    go_enter Try.func5, Try.ntmps5
    go_wp2_with (first
      | (go_at_call 9; refine (awake_any h).mono ?_; rintro e w1 ⟨rfl, b1⟩; have m1 := h.below b1)
      | (go_at_call 10; refine (ci m1).mono ?_; rintro e w2 ⟨rfl, rfl⟩)
      | (go_at_call 12; refine (ch m1).mono ?_; rintro e w3 ⟨rfl, b3⟩; have m3 := m1.below b3)
      | (go_at_call 14; refine (ct m3).mono ?_; rintro e w5 ⟨rfl, b5⟩))
    go_ret
    exact ⟨rfl, Below.both (Below.both b1 b3) b5⟩
  · have he := isEmpty_no h0
    have hno : ¬ At s sep k := hn.resolve_left h0 k
    by_cases h1 : k + sep.size ≤ s.size
    · have h2 : ((s.extract k (k + sep.size)).toList == sep.toList) = false := by
        rw [beq_ls]
        exact decide_eq_false fun e => hno ⟨h1, e⟩
      have a0 : (k : Int) + (sep.size : Int) ≤ s.size := by omega
      have a1 : (k : Int) ≤ (k : Int) + (sep.size : Int) := by omega
      clear hno hn h0
      go_enter Try.func5, Try.ntmps5
      go_wp2_with (first
        | (go_at_call 9; refine (awake_any h).mono ?_; rintro e w1 ⟨rfl, b1⟩; have m1 := h.below b1)
        | (go_at_call 10; refine (ci m1).mono ?_; rintro e w2 ⟨rfl, rfl⟩)
        | (go_at_call 12; refine (ch m1).mono ?_; rintro e w3 ⟨rfl, b3⟩; have m3 := m1.below b3)
        | (go_at_call 14; refine (ct m3).mono ?_; rintro e w5 ⟨rfl, b5⟩))
      go_ret
      exact ⟨rfl, Below.both (Below.both b1 b3) b5⟩
    · have a0 : (s.size : Int) < (k : Int) + (sep.size : Int) := by omega
      clear hno hn h0
      go_enter Try.func5, Try.ntmps5
      go_wp2_with (first
        | (go_at_call 9; refine (awake_any h).mono ?_; rintro e w1 ⟨rfl, b1⟩; have m1 := h.below b1)
        | (go_at_call 10; refine (ci m1).mono ?_; rintro e w2 ⟨rfl, rfl⟩)
        | (go_at_call 12; refine (ch m1).mono ?_; rintro e w3 ⟨rfl, b3⟩; have m3 := m1.below b3)
        | (go_at_call 14; refine (ct m3).mono ?_; rintro e w5 ⟨rfl, b5⟩))
      go_ret
      exact ⟨rfl, Below.both (Below.both b1 b3) b5⟩

set_option maxRecDepth 100000 in
set_option maxHeartbeats 2000000 in
/-- where it stands at i first -/
theorem halves_at {w : World} (h : ML w) (s sep : ByteArray) (a : Int) (hs : s.size < 4294967281) (i : Nat) (hi : ix s sep = i) (h0 : sep.size ≠ 0) (hf : First s sep i) :
    Calls Try.prog 5 #[.string s, .string sep, .int .i64 a] w (Yes w) := by
  have ci := fun {W : World} (g : ML W) => index_any g s sep (.inr hs)
  have ch := fun {W : World} (g : ML W) => head_any g s sep (.inr hs) (by omega)
  have ct := fun {W : World} (g : ML W) => tail_any g s sep (.inr hs) (by omega)
  have hb := hf.1.1
  have hj := halves hf.1
  have hl : (s.extract 0 i).size + sep.size + (s.extract (i + sep.size) s.size).size ≤ 281474976710656 := by
    rw [ByteArray.size_extract, ByteArray.size_extract]; omega
  simp only [hi, hd_at hi, tl_at hi] at ci ch ct
  obtain ⟨T, hT⟩ : ∃ T, s.extract (i + sep.size) s.size = T := ⟨_, rfl⟩
  simp only [hT] at ct hj hl
  have cj := fun {W : World} => join_any (w := W) (s.extract 0 i) sep T hl
  simp only [hj] at cj
  have he := isEmpty_no h0
  have q1 : ((i : Int) == -1) = false := by simp
  obtain ⟨z, hz⟩ : ∃ z, IntKind.u64.wrap a = z := ⟨_, rfl⟩
  have hzb := wrap_u64h a
  rw [hz] at hzb
  clear hi hj hT hl
  by_cases hi0 : i = 0
  · subst hi0
    have d0 : (sep.size : Int) ≤ s.size := by omega
    clear hf h0
    have e0 : s.extract 0 0 = ByteArray.empty := by apply ls_inj; rw [ls_extract]; rfl
    simp only [Int.natCast_zero] at ci
    simp only [e0] at ch cj
    clear e0
    go_enter Try.func5, Try.ntmps5
    go_wp2_with (first
      | (go_at_call 9; refine (awake_any h).mono ?_; rintro e w1 ⟨rfl, b1⟩; have m1 := h.below b1)
      | (go_at_call 10; refine (ci m1).mono ?_; rintro e w2 ⟨rfl, rfl⟩)
      | (go_at_call 12; refine (ch m1).mono ?_; rintro e w3 ⟨rfl, b3⟩; have m3 := m1.below b3)
      | (go_at_call 14; refine (ct m3).mono ?_; rintro e w5 ⟨rfl, b5⟩)
      | (go_at_call 16; refine cj.mono ?_; rintro e w7 ⟨rfl, b7⟩))
    go_ret
    exact ⟨rfl, Below.both (Below.both (Below.both b1 b3) b5) b7⟩
  · obtain ⟨k, hk⟩ : ∃ k : Nat, z % (i : Int) = k := Int.eq_ofNat_of_zero_le (Int.emod_nonneg _ (by omega))
    have hki : k < i := by have := Int.emod_lt_of_pos z (show (0 : Int) < (i : Int) by omega); omega
    have hno : ¬ At s sep k := hf.2 k hki
    have q2 : (0 : Int) < (i : Int) := by omega
    have q3 : (i : Int) ≠ 0 := by omega
    have q4 : ((k : Int) == (i : Int)) = false := by simp; omega
    have d0 : (i : Int) + (sep.size : Int) ≤ s.size := by omega
    have h1 : k + sep.size ≤ s.size := by omega
    have h2 : ((s.extract k (k + sep.size)).toList == sep.toList) = false := by
      rw [beq_ls]
      exact decide_eq_false fun e => hno ⟨h1, e⟩
    have a0 : (k : Int) + (sep.size : Int) ≤ s.size := by omega
    have a1 : (k : Int) ≤ (k : Int) + (sep.size : Int) := by omega
    obtain ⟨H, hH⟩ : ∃ H, s.extract 0 i = H := ⟨_, rfl⟩
    simp only [hH] at ch cj
    clear hf h0 hno
    go_enter Try.func5, Try.ntmps5
    go_wp2_with (first
      | (go_at_call 9; refine (awake_any h).mono ?_; rintro e w1 ⟨rfl, b1⟩; have m1 := h.below b1)
      | (go_at_call 10; refine (ci m1).mono ?_; rintro e w2 ⟨rfl, rfl⟩)
      | (go_at_call 12; refine (ch m1).mono ?_; rintro e w3 ⟨rfl, b3⟩; have m3 := m1.below b3)
      | (go_at_call 14; refine (ct m3).mono ?_; rintro e w5 ⟨rfl, b5⟩)
      | (go_at_call 16; refine cj.mono ?_; rintro e w7 ⟨rfl, b7⟩))
    go_ret
    exact ⟨rfl, Below.both (Below.both (Below.both b1 b3) b5) b7⟩

theorem halves_any {w : World} (h : ML w) (s sep : ByteArray) (a : Int) (hs : s.size < 4294967281) (hp : sep.size ≤ 140737488351232) :
    Calls Try.prog 5 #[.string s, .string sep, .int .i64 a] w (Yes w) := by
  rcases ix_cases s sep with ⟨hi, hn⟩ | ⟨i, hi, h0, hf⟩
  · exact halves_none h s sep a hs hp hi hn
  · exact halves_at h s sep a hs i hi h0 hf
end Go.Proofs.Ytbaoaamaameddaa
