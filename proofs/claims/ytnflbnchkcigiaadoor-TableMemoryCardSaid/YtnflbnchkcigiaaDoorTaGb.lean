/- The kinds' variables hold what was laid. No walk here. -/
import Derived.Test.YtnflbnchkcigiaaDoorTaGa
import Derived.Test.YtnflbnchkcigiaaDoorProg
import Derived.Test.YtnflbnchkcigiaaDoorVarPure
import Derived.Test.YtnflbnchkcigiaaDoorShelf
import Derived.Test.YtnflbnchkcigiaaDoorRows
import Derived.Test.YtnflbnchkcigiaaDoorTlvMem
import Derived.WalkKit
import Derived.BigCall
import Derived.Lib.MinMax
import Derived.Laws.BitsAllLaws
import Derived.Laws.DeepNot64
import Derived.Outline
import Derived.Deep.QuietTactic
import Derived.BigQuiet
namespace Go.Proofs.YtnflbnchkcigiaaDoor
open Go.RowKit

/-- the kinds' variables hold what was laid -/
structure KVars (w : World) : Prop where
  u : w.cell? ⟨0, 0, none⟩ = some (.int .i64 1)
  i : w.cell? ⟨1, 0, none⟩ = some (.int .i64 2)
  b : w.cell? ⟨2, 0, none⟩ = some (.int .i64 3)
  t : w.cell? ⟨3, 0, none⟩ = some (.int .i64 4)
  y : w.cell? ⟨4, 0, none⟩ = some (.int .i64 5)
theorem KVars.below {w w' : World} (h : KVars w) (hb : Below w.heap.size w w') : KVars w' := by
  have k := (Below.cells hb).1
  exact ⟨(k _ _ (World.block_lt_of_cell? w ⟨_, _, none⟩ h.u)).trans h.u, (k _ _ (World.block_lt_of_cell? w ⟨_, _, none⟩ h.i)).trans h.i, (k _ _ (World.block_lt_of_cell? w ⟨_, _, none⟩ h.b)).trans h.b, (k _ _ (World.block_lt_of_cell? w ⟨_, _, none⟩ h.t)).trans h.t, (k _ _ (World.block_lt_of_cell? w ⟨_, _, none⟩ h.y)).trans h.y⟩
end Go.Proofs.YtnflbnchkcigiaaDoor
/- The walks of the kinds' numbers. -/
namespace Go.Proofs.YtnflbnchkcigiaaDoor
open Go.RowKit

theorem uint_any {w : World} (h : KVars w) : Calls Tryd.prog 69 #[] w fun e w' => e = .returned (.int .i64 1) ∧ w' = w := by
  have hc := h.u
  go_enter Tryd.func69, Tryd.ntmps69
  go_wp2
  go_ret
  exact ⟨rfl, rfl⟩
theorem int_any {w : World} (h : KVars w) : Calls Tryd.prog 70 #[] w fun e w' => e = .returned (.int .i64 2) ∧ w' = w := by
  have hc := h.i
  go_enter Tryd.func70, Tryd.ntmps70
  go_wp2
  go_ret
  exact ⟨rfl, rfl⟩
theorem bool_any {w : World} (h : KVars w) : Calls Tryd.prog 71 #[] w fun e w' => e = .returned (.int .i64 3) ∧ w' = w := by
  have hc := h.b
  go_enter Tryd.func71, Tryd.ntmps71
  go_wp2
  go_ret
  exact ⟨rfl, rfl⟩
end Go.Proofs.YtnflbnchkcigiaaDoor
/- The walks of what reckons with numbers alone: Size, Zig, Zag, canStand, and the reference's. -/
namespace Go.Proofs.YtnflbnchkcigiaaDoor
open Go.RowKit

theorem u64_not (a : Int) (h0 : 0 ≤ a) (h1 : a ≤ 18446744073709551615) : bits .xor .u64 IntKind.u64.max a = 18446744073709551615 - a := by
  obtain ⟨n, rfl⟩ := Int.eq_ofNat_of_zero_le h0
  show IntKind.u64.wrap ((BitVec.ofInt 64 IntKind.u64.max ^^^ BitVec.ofInt 64 (n : Int)).toNat : Int) = _
  have e : BitVec.ofInt 64 IntKind.u64.max = BitVec.allOnes 64 := by decide
  rw [e, BitVec.allOnes_xor, BitVec.toNat_not, ofInt_u64 n (by omega)]
  simp [IntKind.wrap, IntKind.bits, IntKind.signed]
  omega
theorem u64_odd (x : Nat) (h1 : x ≤ 18446744073709551615) : bits .and .u64 (x : Int) 1 = ((x % 2 : Nat) : Int) := by
  rw [u64_and _ _ (by omega) (by omega) (by omega) (by omega)]
  have e : (1 : Int).toNat = 1 := rfl
  rw [e, Int.toNat_natCast, Nat.and_one_is_mod]

theorem size_any (x : Nat) (w : World) (hx : x ≤ 18446744073709551615) :
    Calls Tryd.prog 67 #[.int .u64 x] w fun e w' => e = .returned (.int .i64 (vsz x)) ∧ w = w' := by
  have hb := Go.Lib.bitLen_le x 64 (Nat.le_refl _) (by simpa using (by omega : x < 18446744073709551616))
  have hv := Lib.hid (bits_vsz x (by omega))
  go_enter Tryd.func67, Tryd.ntmps67
  go_wp2_with (go_at_call 78; refine (Tryd.bits_Len64 _ _ (by omega) (by omega)).mono ?_; rintro e w' ⟨rfl, rfl⟩)
  go_ret
  refine ⟨ret_int ?_, rfl⟩
  have h := hv.out
  by_cases h2 : 1 < (Go.Lib.bitLen x + 6) / 7
  · rw [if_pos h2] at h; omega
  · rw [if_neg h2] at h; omega

theorem wrap_neg (x : Int) (h0 : -9223372036854775808 ≤ x) (h : x < 0) : IntKind.u64.wrap (IntKind.u64.wrap x * 2) = 2 * x + 18446744073709551616 := by
  simp [IntKind.wrap, IntKind.bits, IntKind.signed]
  omega

theorem zig_any (x : Int) (w : World) (h0 : -9223372036854775808 ≤ x) (h1 : x ≤ 9223372036854775807) :
    Calls Tryd.prog 72 #[.int .i64 x] w fun e w' => e = .returned (.int .u64 (zig x)) ∧ w = w' := by
  by_cases h : x < 0
  · have hw := Lib.hid (wrap_neg x h0 h)
    go_enter Tryd.func72, Tryd.ntmps72
    go_wp2
    all_goals
      first
        | (exfalso; revert ‹IntKind.u64.signed = true›; decide)
        | (go_ret
           refine ⟨ret_int ?_, rfl⟩
           unfold zig
           rw [hw.out, u64_not _ (by omega) (by omega), if_neg (by omega)]
           omega)
  · go_enter Tryd.func72, Tryd.ntmps72
    go_wp2
    go_ret
    refine ⟨ret_int ?_, rfl⟩
    unfold zig
    rw [if_pos (by omega)]
    omega

theorem zag_any (x : Nat) (w : World) (h1 : x ≤ 18446744073709551615) :
    Calls Tryd.prog 74 #[.int .u64 x] w fun e w' => e = .returned (.int .i64 (zag x)) ∧ w = w' := by
  have ho := u64_odd x h1
  by_cases h : x % 2 = 1
  · have hb : (bits .and .u64 (x : Int) 1 == 1) = true := by rw [ho, h]; rfl
    have H := Lib.hid h
    clear ho h
    go_enter Tryd.func74, Tryd.ntmps74
    go_wp2
    all_goals
      first
        | (exfalso; revert ‹¬ IntKind.i64.signed = true›; decide)
        | (go_ret
           refine ⟨ret_int ?_, rfl⟩
           have h := H.out
           have e : (x : Int) / 2 = ((x / 2 : Nat) : Int) := by omega
           unfold zag
           rw [if_pos (by omega), e, i64_not _ (by omega)]
           omega)
  · have hb : (bits .and .u64 (x : Int) 1 == 1) = false := by
      rw [ho, show x % 2 = 0 by omega]; rfl
    have H := Lib.hid h
    clear ho h
    go_enter Tryd.func74, Tryd.ntmps74
    go_wp2
    go_ret
    refine ⟨ret_int ?_, rfl⟩
    have h := H.out
    unfold zag
    rw [if_neg (by omega)]

theorem rzig_any (x : Int) (w : World) (h0 : -9223372036854775808 ≤ x) (h1 : x ≤ 9223372036854775807) :
    Calls Tryd.prog 77 #[.int .i64 x] w fun e w' => e = .returned (.int .u64 (zig x)) ∧ w = w' := by
  by_cases h : 0 ≤ x
  · go_enter Tryd.func77, Tryd.ntmps77
    go_wp2
    go_ret
    refine ⟨ret_int ?_, rfl⟩
    unfold zig
    rw [if_pos h]
  · go_enter Tryd.func77, Tryd.ntmps77
    go_wp2
    go_ret
    refine ⟨ret_int ?_, rfl⟩
    unfold zig
    rw [if_neg (by omega)]
    omega

set_option maxRecDepth 100000 in
/-- the reference's Size -/
theorem rsize_any (x : Nat) (w : World) (hx : x ≤ 18446744073709551615) :
    Calls Tryd.prog 62 #[.int .u64 x] w fun e w' => e = .returned (.int .i64 (vsz x)) ∧ w = w' := by
  have hsz := vsz_le (x := x) (by omega)
  have hs0 := vsz_pos x
  go_enter Tryd.func62, Tryd.ntmps62
  go_wp2
  go_loop [0, 3] (fun x' n => ∃ y m : Nat, y ≤ x ∧ x' = .int .u64 y ∧ n = .int .i64 m ∧ 1 ≤ m ∧ m ≤ 10 ∧ Hid (m + vsz y = vsz x + 1)) (fun x' _ => (intOf x').toNat)
  case atStart => exact ⟨x, 1, Nat.le_refl _, rfl, rfl, by omega, by omega, Nat.add_comm _ _⟩
  case round =>
    obtain ⟨y, m, hy, rfl, rfl, hm, hm2, H⟩ := hrel
    by_cases hlt : 128 ≤ y
    · have hv := Lib.hid (vsz_big hlt)
      have hp := vsz_pos (y / 128)
      go_wp2
      go_round
      case rel => exact ⟨y / 128, m + 1, by omega, by go_num, by go_num, by omega, by have := H.out; rw [hv.out] at this; omega, by have := H.out; rw [hv.out] at this; unfold Hid; omega⟩
      case measure => simp [intOf]; omega
    · have hv := Lib.hid (vsz_small (x := y) (by omega))
      go_wp2
      go_ret
      exact ⟨ret_int (by have := H.out; rw [hv.out] at this; omega), rfl⟩

theorem stand_any (c : UInt8) (i : Nat) (w : World) (hi : i ≤ 140737488355328) :
    Calls Tryd.prog 73 #[.int .u8 (c.toNat : Nat), .int .i64 i] w fun e w' => e = .returned (.bool (!bad c i)) ∧ w = w' := by
  have hc := c.toNat_lt
  go_enter Tryd.func73, Tryd.ntmps73
  go_wp2
  all_goals
    go_ret
    refine ⟨ret_bool ?_, rfl⟩
    unfold bad
    rw [Bool.eq_iff_iff]
    simp
    try omega

end Go.Proofs.YtnflbnchkcigiaaDoor
/- The walks of what reckons with one field: isNumber, payloadNumber, payloadSize, keyOf, fieldSize. -/
namespace Go.Proofs.YtnflbnchkcigiaaDoor
open Go.RowKit

theorem KVars.newN {w : World} (h : KVars w) (n : Nat) : KVars (w.drewN n) := h.below (Below.newN w n)

set_option maxRecDepth 100000 in
set_option maxHeartbeats 1000000 in
theorem isnum_any {w : World} (h : KVars w) (k : Int) :
    Calls Tryd.prog 54 #[.int .i64 k] w fun e w' => e = .returned (.bool (isNum k)) ∧ w = w' := by
  by_cases k1 : k = 1 ∨ k = 2 ∨ k = 3
  · rcases k1 with rfl | rfl | rfl
    all_goals
      go_enter Tryd.func54, Tryd.ntmps54
      go_wp2_with (first
        | (go_at_call 69; refine (uint_any h).mono ?_; rintro e w' ⟨rfl, rfl⟩)
        | (go_at_call 70; refine (int_any h).mono ?_; rintro e w' ⟨rfl, rfl⟩)
        | (go_at_call 71; refine (bool_any h).mono ?_; rintro e w' ⟨rfl, rfl⟩))
      go_ret
      exact ⟨rfl, rfl⟩
  · have q1 : (k == 1) = false := by simp; omega
    have q2 : (k == 2) = false := by simp; omega
    have q3 : (k == 3) = false := by simp; omega
    have hn : isNum k = false := by unfold isNum; rw [q1, q2, q3]; rfl
    rw [hn]
    clear hn k1
    go_enter Tryd.func54, Tryd.ntmps54
    go_wp2_with (first
      | (go_at_call 69; refine (uint_any h).mono ?_; rintro e w' ⟨rfl, rfl⟩)
      | (go_at_call 70; refine (int_any h).mono ?_; rintro e w' ⟨rfl, rfl⟩)
      | (go_at_call 71; refine (bool_any h).mono ?_; rintro e w' ⟨rfl, rfl⟩))
    go_ret
    exact ⟨rfl, rfl⟩

theorem wrap_sgn2 (n : Int) (h0 : 0 ≤ n) (h1 : n ≤ 18446744073709551615) : IntKind.i64.wrap n = sgn n := by
  unfold sgn
  rw [IntKind.wrap_i64]
  split <;> omega

set_option maxRecDepth 100000 in
set_option maxHeartbeats 1000000 in
theorem pnum_any {w : World} (h : KVars w) (v : Val) (hf : Fit v) :
    Calls Tryd.prog 55 #[.agg (vvC v)] w fun e w' => e = .returned (.int .u64 (pnum v)) ∧ Below w.heap.size w w' := by
  obtain ⟨k, n, s⟩ := v
  have hb := wrap_sgn2 n hf.1 hf.2
  have hr := sgn_range hf.1 hf.2
  unfold pnum vvC
  dsimp only
  have h1 : KVars (w.alloc (.cells #[.int .i64 k, .int .u64 n, .string s] 51)) := h.below ((Below.refl _ _).alloc (Nat.le_refl _) _)
  obtain ⟨z, hz⟩ : ∃ z, sgn n = z := ⟨_, rfl⟩
  rw [hz] at hb hr ⊢
  clear hf hz
  by_cases k2 : k = 2
  · subst k2
    rw [if_pos rfl]
    have HB := Lib.hid hb
    clear hb
    go_enter Tryd.func55, Tryd.ntmps55
    go_wp2
    go_quiet ((go_at_call 70; exact Calls.quiet_of_same (int_any (h1.newN _))))
    have hb := HB.out
    go_wp2_with (go_at_call 72; refine (zig_any z _ hr.1 hr.2).mono ?_; rintro e w' ⟨rfl, rfl⟩)
    go_ret
    exact ⟨rfl, Below.thenN ((Below.refl _ _).alloc (Nat.le_refl _) _) _⟩
  · rw [if_neg k2]
    have q2 : (k == 2) = false := by simpa using k2
    clear hb hr k2
    go_enter Tryd.func55, Tryd.ntmps55
    go_wp2
    go_quiet ((go_at_call 70; exact Calls.quiet_of_same (int_any (h1.newN _))))
    go_wp2
    go_ret
    exact ⟨rfl, Below.thenN ((Below.refl _ _).alloc (Nat.le_refl _) _) _⟩

theorem pay_size (v : Val) (h : isNum v.k = true) : ((pay v).length : Int) = (vsz (pnum v).toNat : Int) := by
  unfold pay vsz; rw [if_pos h]
theorem pay_text (v : Val) (h : isNum v.k = false) : (pay v).length = v.s.size := by
  unfold pay; rw [if_neg (by simp [h])]; exact (Lib.size_eq v.s).symm

set_option maxRecDepth 100000 in
set_option maxHeartbeats 1000000 in
theorem psize_any {w : World} (h : KVars w) (v : Val) (hf : Fit v) :
    Calls Tryd.prog 53 #[.agg (vvC v)] w fun e w' => e = .returned (.int .i64 ((pay v).length : Nat)) ∧ Below w.heap.size w w' := by
  have hps := pay_size v
  have hpt := pay_text v
  have hpr := pnum_range hf
  have cp := fun {W : World} (g : KVars W) => pnum_any g v hf
  obtain ⟨k, n, s⟩ := v
  unfold vvC at cp ⊢
  dsimp only at hps hpt cp ⊢
  have h1 : KVars (w.alloc (.cells #[.int .i64 k, .int .u64 n, .string s] 51)) := h.below ((Below.refl _ _).alloc (Nat.le_refl _) _)
  have hB : Below w.heap.size w (w.alloc (.cells #[.int .i64 k, .int .u64 n, .string s] 51)) := (Below.refl _ _).alloc (Nat.le_refl _) _
  obtain ⟨P, hP⟩ : ∃ P, pnum ⟨k, n, s⟩ = P := ⟨_, rfl⟩
  rw [hP] at hps hpr cp
  clear hP
  have cn := isnum_any h1 k
  obtain ⟨L, hL⟩ : ∃ L, (pay ⟨k, n, s⟩).length = L := ⟨_, rfl⟩
  rw [hL] at hps hpt ⊢
  clear hL
  by_cases hk : isNum k = true
  · have HP := Lib.hid (hps hk)
    rw [hk] at cn
    obtain ⟨Q, rfl⟩ := Int.eq_ofNat_of_zero_le hpr.1
    have hq : Q ≤ 18446744073709551615 := by omega
    clear hps hpt hk hpr
    go_enter Tryd.func53, Tryd.ntmps53
    go_wp2_with (first
      | (go_at_call 54; refine cn.mono ?_; rintro e w' ⟨rfl, rfl⟩)
      | (go_at_call 55; refine (cp h1).mono ?_; rintro e w' ⟨rfl, hb⟩)
      | (go_at_call 67; refine (size_any _ _ hq).mono ?_; rintro e w' ⟨rfl, rfl⟩))
    go_ret
    exact ⟨ret_int (by have := HP.out; simp at this; omega), Below.both hB hb⟩
  · have hk' : isNum k = false := by simpa using hk
    have HP := Lib.hid (hpt hk')
    rw [hk'] at cn
    clear hps hpt hk hk' hpr
    go_enter Tryd.func53, Tryd.ntmps53
    go_wp2_with (go_at_call 54; refine cn.mono ?_; rintro e w' ⟨rfl, rfl⟩)
    go_ret
    exact ⟨ret_int (by have := HP.out; omega), hB⟩

set_option maxRecDepth 100000 in
set_option maxHeartbeats 1000000 in
theorem key_any (w : World) (f : Fd) (t0 : 0 ≤ f.t) (t1 : f.t ≤ 65535) (k0 : 0 ≤ f.v.k) (k1 : f.v.k ≤ 5) :
    Calls Tryd.prog 52 #[.agg (ffC f)] w fun e w' => e = .returned (.int .u64 (keyF f)) ∧ Below w.heap.size w w' := by
  obtain ⟨t, k, n, s⟩ := f
  unfold ffC keyF
  dsimp only at t0 t1 k0 k1 ⊢
  go_enter Tryd.func52, Tryd.ntmps52
  go_wp2
  go_ret
  exact ⟨rfl, (Below.refl _ _).alloc (Nat.le_refl _) _⟩

theorem fb_length (f : Fd) : (fb f).length = vsz (keyF f).toNat + vsz (pay f.v).length + (pay f.v).length := by
  unfold fb vsz; rw [List.length_append, List.length_append]; omega

set_option maxRecDepth 100000 in
set_option maxHeartbeats 1000000 in
theorem fsize_any {w : World} (h : KVars w) (f : Fd) (hf : Fit f.v) (t0 : 0 ≤ f.t) (t1 : f.t ≤ 65535) (k0 : 0 ≤ f.v.k) (k1 : f.v.k ≤ 5) (hs : (pay f.v).length ≤ 140737488355328) :
    Calls Tryd.prog 50 #[.agg (ffC f)] w fun e w' => e = .returned (.int .i64 ((fb f).length : Nat)) ∧ Below w.heap.size w w' := by
  have cp := fun {W : World} (g : KVars W) => psize_any g f.v hf
  have ck := fun (W : World) => key_any W f t0 t1 k0 k1
  have hl := fb_length f
  have hk0 : 0 ≤ keyF f := by unfold keyF; omega
  have hk1 : keyF f ≤ 18446744073709551615 := by unfold keyF; omega
  obtain ⟨K, hK⟩ := Int.eq_ofNat_of_zero_le hk0
  rw [hK] at hl ck hk1
  have hk2 : K ≤ 18446744073709551615 := by omega
  have v1 := vsz_le (x := K) (by omega)
  obtain ⟨L, hL⟩ : ∃ L, (pay f.v).length = L := ⟨_, rfl⟩
  rw [hL] at hl cp hs
  have v2 := vsz_le (x := L) (by omega)
  obtain ⟨t, k, n, s⟩ := f
  unfold ffC at ck ⊢
  unfold vvC at cp
  dsimp only at cp ck ⊢
  simp only [Int.toNat_natCast] at hl ck
  rw [hl]
  clear hl hL hK hk0 hk1 t0 t1 k0 k1 hf
  have h1 : KVars (w.alloc (.cells #[.int .i64 t, .int .i64 k, .int .u64 n, .string s] 53)) := h.below ((Below.refl _ _).alloc (Nat.le_refl _) _)
  have hB : Below w.heap.size w (w.alloc (.cells #[.int .i64 t, .int .i64 k, .int .u64 n, .string s] 53)) := (Below.refl _ _).alloc (Nat.le_refl _) _
  go_enter Tryd.func50, Tryd.ntmps50
  go_wp2_with (go_at_call 53; refine (cp h1).mono ?_; rintro e w' ⟨rfl, hb⟩; obtain ⟨hc, _⟩ := Below.cells hb)
  go_wp2_with (go_at_call 52; refine (ck _).mono ?_; rintro e w2 ⟨rfl, hb2⟩)
  go_wp2_with (go_at_call 67; with_reducible refine (size_any K _ hk2).mono ?_; rintro e w3 ⟨rfl, rfl⟩)
  go_wp2_with (go_at_call 67; refine (size_any L _ (by omega)).mono ?_; rintro e w3 ⟨rfl, rfl⟩)
  go_ret
  exact ⟨ret_int (by omega), Below.both (Below.both hB hb) hb2⟩
end Go.Proofs.YtnflbnchkcigiaaDoor
