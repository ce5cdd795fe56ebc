/- The walks of what reckons with one field: isNumber, payloadNumber, payloadSize, keyOf, fieldSize. -/
import Derived.Test.YthekbefbhjllnaaDoorTlvMem
import Derived.Test.YthekbefbhjllnaaDoorKindNums
import Derived.Test.YthekbefbhjllnaaDoorVarNum
import Derived.Deep.QuietTactic
import Derived.BigQuiet
namespace Go.Proofs.YthekbefbhjllnaaDoor
open Go.RowKit

theorem KVars.newN {w : World} (h : KVars w) (n : Nat) : KVars (w.drewN n) := h.below (Below.newN w n)

set_option maxRecDepth 100000 in
set_option maxHeartbeats 1000000 in
theorem isnum_any {w : World} (h : KVars w) (k : Int) :
    Calls Tryd.prog 51 #[.int .i64 k] w fun e w' => e = .returned (.bool (isNum k)) ∧ w = w' := by
  by_cases k1 : k = 1 ∨ k = 2 ∨ k = 3
  · rcases k1 with rfl | rfl | rfl
    all_goals
      go_enter Tryd.func51, Tryd.ntmps51
      go_wp2_with (first
        | (go_at_call 24; refine (uint_any h).mono ?_; rintro e w' ⟨rfl, rfl⟩)
        | (go_at_call 26; refine (int_any h).mono ?_; rintro e w' ⟨rfl, rfl⟩)
        | (go_at_call 28; refine (bool_any h).mono ?_; rintro e w' ⟨rfl, rfl⟩))
      go_ret
      exact ⟨rfl, rfl⟩
  · have q1 : (k == 1) = false := by simp; omega
    have q2 : (k == 2) = false := by simp; omega
    have q3 : (k == 3) = false := by simp; omega
    have hn : isNum k = false := by unfold isNum; rw [q1, q2, q3]; rfl
    rw [hn]
    clear hn k1
    go_enter Tryd.func51, Tryd.ntmps51
    go_wp2_with (first
      | (go_at_call 24; refine (uint_any h).mono ?_; rintro e w' ⟨rfl, rfl⟩)
      | (go_at_call 26; refine (int_any h).mono ?_; rintro e w' ⟨rfl, rfl⟩)
      | (go_at_call 28; refine (bool_any h).mono ?_; rintro e w' ⟨rfl, rfl⟩))
    go_ret
    exact ⟨rfl, rfl⟩

theorem wrap_sgn2 (n : Int) (h0 : 0 ≤ n) (h1 : n ≤ 18446744073709551615) : IntKind.i64.wrap n = sgn n := by
  unfold sgn
  rw [IntKind.wrap_i64]
  split <;> omega

set_option maxRecDepth 100000 in
set_option maxHeartbeats 1000000 in
theorem pnum_any {w : World} (h : KVars w) (v : Val) (hf : Fit v) :
    Calls Tryd.prog 52 #[.agg (vvC v)] w fun e w' => e = .returned (.int .u64 (pnum v)) ∧ Below w.heap.size w w' := by
  obtain ⟨k, n, s⟩ := v
  have hb := wrap_sgn2 n hf.1 hf.2
  have hr := sgn_range hf.1 hf.2
  unfold pnum vvC
  dsimp only
  have h1 : KVars (w.alloc (.cells #[.int .i64 k, .int .u64 n, .string s] 39)) := h.below ((Below.refl _ _).alloc (Nat.le_refl _) _)
  obtain ⟨z, hz⟩ : ∃ z, sgn n = z := ⟨_, rfl⟩
  rw [hz] at hb hr ⊢
  clear hf hz
  by_cases k2 : k = 2
  · subst k2
    rw [if_pos rfl]
    have HB := Lib.hid hb
    clear hb
    go_enter Tryd.func52, Tryd.ntmps52
    go_wp2
    go_quiet ((go_at_call 26; exact Calls.quiet_of_same (int_any (h1.newN _))))
    have hb := HB.out
    go_wp2_with (go_at_call 27; refine (zig_any z _ hr.1 hr.2).mono ?_; rintro e w' ⟨rfl, rfl⟩)
    go_ret
    exact ⟨rfl, Below.thenN ((Below.refl _ _).alloc (Nat.le_refl _) _) _⟩
  · rw [if_neg k2]
    have q2 : (k == 2) = false := by simpa using k2
    clear hb hr k2
    go_enter Tryd.func52, Tryd.ntmps52
    go_wp2
    go_quiet ((go_at_call 26; exact Calls.quiet_of_same (int_any (h1.newN _))))
    go_wp2
    go_ret
    exact ⟨rfl, Below.thenN ((Below.refl _ _).alloc (Nat.le_refl _) _) _⟩

theorem pay_size (v : Val) (h : isNum v.k = true) : ((pay v).length : Int) = (vsz (pnum v).toNat : Int) := by
  unfold pay vsz; rw [if_pos h]
theorem pay_text (v : Val) (h : isNum v.k = false) : (pay v).length = v.s.size := by
  unfold pay; rw [if_neg (by simp [h])]; exact (Lib.size_eq v.s).symm

set_option maxRecDepth 100000 in
set_option maxHeartbeats 1000000 in
theorem psize_any {w : World} (h : KVars w) (v : Val) (hf : Fit v) :
    Calls Tryd.prog 50 #[.agg (vvC v)] w fun e w' => e = .returned (.int .i64 ((pay v).length : Nat)) ∧ Below w.heap.size w w' := by
  have hps := pay_size v
  have hpt := pay_text v
  have hpr := pnum_range hf
  have cp := fun {W : World} (g : KVars W) => pnum_any g v hf
  obtain ⟨k, n, s⟩ := v
  unfold vvC at cp ⊢
  dsimp only at hps hpt cp ⊢
  have h1 : KVars (w.alloc (.cells #[.int .i64 k, .int .u64 n, .string s] 39)) := h.below ((Below.refl _ _).alloc (Nat.le_refl _) _)
  have hB : Below w.heap.size w (w.alloc (.cells #[.int .i64 k, .int .u64 n, .string s] 39)) := (Below.refl _ _).alloc (Nat.le_refl _) _
  obtain ⟨P, hP⟩ : ∃ P, pnum ⟨k, n, s⟩ = P := ⟨_, rfl⟩
  rw [hP] at hps hpr cp
  clear hP
  have cn := isnum_any h1 k
  obtain ⟨L, hL⟩ : ∃ L, (pay ⟨k, n, s⟩).length = L := ⟨_, rfl⟩
  rw [hL] at hps hpt ⊢
  clear hL
  by_cases hk : isNum k = true
  · have HP := Lib.hid (hps hk)
    rw [hk] at cn
    obtain ⟨Q, rfl⟩ := Int.eq_ofNat_of_zero_le hpr.1
    have hq : Q ≤ 18446744073709551615 := by omega
    clear hps hpt hk hpr
    go_enter Tryd.func50, Tryd.ntmps50
    go_wp2_with (first
      | (go_at_call 51; refine cn.mono ?_; rintro e w' ⟨rfl, rfl⟩)
      | (go_at_call 52; refine (cp h1).mono ?_; rintro e w' ⟨rfl, hb⟩)
      | (go_at_call 43; refine (size_any _ _ hq).mono ?_; rintro e w' ⟨rfl, rfl⟩))
    go_ret
    exact ⟨ret_int (by have := HP.out; simp at this; omega), Below.both hB hb⟩
  · have hk' : isNum k = false := by simpa using hk
    have HP := Lib.hid (hpt hk')
    rw [hk'] at cn
    clear hps hpt hk hk' hpr
    go_enter Tryd.func50, Tryd.ntmps50
    go_wp2_with (go_at_call 51; refine cn.mono ?_; rintro e w' ⟨rfl, rfl⟩)
    go_ret
    exact ⟨ret_int (by have := HP.out; omega), hB⟩

set_option maxRecDepth 100000 in
set_option maxHeartbeats 1000000 in
theorem key_any (w : World) (f : Fd) (t0 : 0 ≤ f.t) (t1 : f.t ≤ 65535) (k0 : 0 ≤ f.v.k) (k1 : f.v.k ≤ 5) :
    Calls Tryd.prog 49 #[.agg (ffC f)] w fun e w' => e = .returned (.int .u64 (keyF f)) ∧ Below w.heap.size w w' := by
  obtain ⟨t, k, n, s⟩ := f
  unfold ffC keyF
  dsimp only at t0 t1 k0 k1 ⊢
  go_enter Tryd.func49, Tryd.ntmps49
  go_wp2
  go_ret
  exact ⟨rfl, (Below.refl _ _).alloc (Nat.le_refl _) _⟩

theorem fb_length (f : Fd) : (fb f).length = vsz (keyF f).toNat + vsz (pay f.v).length + (pay f.v).length := by
  unfold fb vsz; rw [List.length_append, List.length_append]; omega

set_option maxRecDepth 100000 in
set_option maxHeartbeats 1000000 in
theorem fsize_any {w : World} (h : KVars w) (f : Fd) (hf : Fit f.v) (t0 : 0 ≤ f.t) (t1 : f.t ≤ 65535) (k0 : 0 ≤ f.v.k) (k1 : f.v.k ≤ 5) (hs : (pay f.v).length ≤ 140737488355328) :
    Calls Tryd.prog 47 #[.agg (ffC f)] w fun e w' => e = .returned (.int .i64 ((fb f).length : Nat)) ∧ Below w.heap.size w w' := by
  have cp := fun {W : World} (g : KVars W) => psize_any g f.v hf
  have ck := fun (W : World) => key_any W f t0 t1 k0 k1
  have hl := fb_length f
  have hk0 : 0 ≤ keyF f := by unfold keyF; omega
  have hk1 : keyF f ≤ 18446744073709551615 := by unfold keyF; omega
  obtain ⟨K, hK⟩ := Int.eq_ofNat_of_zero_le hk0
  rw [hK] at hl ck hk1
  have hk2 : K ≤ 18446744073709551615 := by omega
  have v1 := vsz_le (x := K) (by omega)
  obtain ⟨L, hL⟩ : ∃ L, (pay f.v).length = L := ⟨_, rfl⟩
  rw [hL] at hl cp hs
  have v2 := vsz_le (x := L) (by omega)
  obtain ⟨t, k, n, s⟩ := f
  unfold ffC at ck ⊢
  unfold vvC at cp
  dsimp only at cp ck ⊢
  simp only [Int.toNat_natCast] at hl ck
  rw [hl]
  clear hl hL hK hk0 hk1 t0 t1 k0 k1 hf
  have h1 : KVars (w.alloc (.cells #[.int .i64 t, .int .i64 k, .int .u64 n, .string s] 41)) := h.below ((Below.refl _ _).alloc (Nat.le_refl _) _)
  have hB : Below w.heap.size w (w.alloc (.cells #[.int .i64 t, .int .i64 k, .int .u64 n, .string s] 41)) := (Below.refl _ _).alloc (Nat.le_refl _) _
  go_enter Tryd.func47, Tryd.ntmps47
  go_wp2_with (go_at_call 50; refine (cp h1).mono ?_; rintro e w' ⟨rfl, hb⟩; obtain ⟨hc, _⟩ := Below.cells hb)
  go_wp2_with (go_at_call 49; refine (ck _).mono ?_; rintro e w2 ⟨rfl, hb2⟩)
  go_wp2_with (go_at_call 43; with_reducible refine (size_any K _ hk2).mono ?_; rintro e w3 ⟨rfl, rfl⟩)
  go_wp2_with (go_at_call 43; refine (size_any L _ (by omega)).mono ?_; rintro e w3 ⟨rfl, rfl⟩)
  go_ret
  exact ⟨ret_int (by omega), Below.both (Below.both hB hb) hb2⟩
end Go.Proofs.YthekbefbhjllnaaDoor
