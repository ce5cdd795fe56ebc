/- The walks of what reckons with numbers alone: Size, Zig, Zag, canStand, and the reference's. -/
import Derived.Test.YthekbefbhjllnaaDoorVarPure
import Derived.Test.YthekbefbhjllnaaDoorBytMem
import Derived.Test.YthekbefbhjllnaaDoorShelf
import Derived.Test.YthekbefbhjllnaaDoorRows
import Derived.Lib.MinMax
import Derived.Laws.BitsAllLaws
import Derived.Laws.DeepNot64
import Derived.Outline
namespace Go.Proofs.YthekbefbhjllnaaDoor
open Go.RowKit

theorem u64_not (a : Int) (h0 : 0 ≤ a) (h1 : a ≤ 18446744073709551615) : bits .xor .u64 IntKind.u64.max a = 18446744073709551615 - a := by
  obtain ⟨n, rfl⟩ := Int.eq_ofNat_of_zero_le h0
  show IntKind.u64.wrap ((BitVec.ofInt 64 IntKind.u64.max ^^^ BitVec.ofInt 64 (n : Int)).toNat : Int) = _
  have e : BitVec.ofInt 64 IntKind.u64.max = BitVec.allOnes 64 := by decide
  rw [e, BitVec.allOnes_xor, BitVec.toNat_not, ofInt_u64 n (by omega)]
  simp [IntKind.wrap, IntKind.bits, IntKind.signed]
  omega
theorem u64_odd (x : Nat) (h1 : x ≤ 18446744073709551615) : bits .and .u64 (x : Int) 1 = ((x % 2 : Nat) : Int) := by
  rw [u64_and _ _ (by omega) (by omega) (by omega) (by omega)]
  have e : (1 : Int).toNat = 1 := rfl
  rw [e, Int.toNat_natCast, Nat.and_one_is_mod]

theorem size_any (x : Nat) (w : World) (hx : x ≤ 18446744073709551615) :
    Calls Tryd.prog 43 #[.int .u64 x] w fun e w' => e = .returned (.int .i64 (vsz x)) ∧ w = w' := by
  have hb := Go.Lib.bitLen_le x 64 (Nat.le_refl _) (by simpa using (by omega : x < 18446744073709551616))
  have hv := Lib.hid (bits_vsz x (by omega))
  go_enter Tryd.func43, Tryd.ntmps43
  go_wp2_with (go_at_call 57; refine (Tryd.bits_Len64 _ _ (by omega) (by omega)).mono ?_; rintro e w' ⟨rfl, rfl⟩)
  go_ret
  refine ⟨ret_int ?_, rfl⟩
  have h := hv.out
  by_cases h2 : 1 < (Go.Lib.bitLen x + 6) / 7
  · rw [if_pos h2] at h; omega
  · rw [if_neg h2] at h; omega

theorem wrap_neg (x : Int) (h0 : -9223372036854775808 ≤ x) (h : x < 0) : IntKind.u64.wrap (IntKind.u64.wrap x * 2) = 2 * x + 18446744073709551616 := by
  simp [IntKind.wrap, IntKind.bits, IntKind.signed]
  omega

theorem zig_any (x : Int) (w : World) (h0 : -9223372036854775808 ≤ x) (h1 : x ≤ 9223372036854775807) :
    Calls Tryd.prog 27 #[.int .i64 x] w fun e w' => e = .returned (.int .u64 (zig x)) ∧ w = w' := by
  by_cases h : x < 0
  · have hw := Lib.hid (wrap_neg x h0 h)
    go_enter Tryd.func27, Tryd.ntmps27
    go_wp2
    all_goals
      first
        | (exfalso; revert ‹IntKind.u64.signed = true›; decide)
        | (go_ret
           refine ⟨ret_int ?_, rfl⟩
           unfold zig
           rw [hw.out, u64_not _ (by omega) (by omega), if_neg (by omega)]
           omega)
  · go_enter Tryd.func27, Tryd.ntmps27
    go_wp2
    go_ret
    refine ⟨ret_int ?_, rfl⟩
    unfold zig
    rw [if_pos (by omega)]
    omega

theorem zag_any (x : Nat) (w : World) (h1 : x ≤ 18446744073709551615) :
    Calls Tryd.prog 60 #[.int .u64 x] w fun e w' => e = .returned (.int .i64 (zag x)) ∧ w = w' := by
  have ho := u64_odd x h1
  by_cases h : x % 2 = 1
  · have hb : (bits .and .u64 (x : Int) 1 == 1) = true := by rw [ho, h]; rfl
    have H := Lib.hid h
    clear ho h
    go_enter Tryd.func60, Tryd.ntmps60
    go_wp2
    all_goals
      first
        | (exfalso; revert ‹¬ IntKind.i64.signed = true›; decide)
        | (go_ret
           refine ⟨ret_int ?_, rfl⟩
           have h := H.out
           have e : (x : Int) / 2 = ((x / 2 : Nat) : Int) := by omega
           unfold zag
           rw [if_pos (by omega), e, i64_not _ (by omega)]
           omega)
  · have hb : (bits .and .u64 (x : Int) 1 == 1) = false := by
      rw [ho, show x % 2 = 0 by omega]; rfl
    have H := Lib.hid h
    clear ho h
    go_enter Tryd.func60, Tryd.ntmps60
    go_wp2
    go_ret
    refine ⟨ret_int ?_, rfl⟩
    have h := H.out
    unfold zag
    rw [if_neg (by omega)]

theorem rzig_any (x : Int) (w : World) (h0 : -9223372036854775808 ≤ x) (h1 : x ≤ 9223372036854775807) :
    Calls Tryd.prog 36 #[.int .i64 x] w fun e w' => e = .returned (.int .u64 (zig x)) ∧ w = w' := by
  by_cases h : 0 ≤ x
  · go_enter Tryd.func36, Tryd.ntmps36
    go_wp2
    go_ret
    refine ⟨ret_int ?_, rfl⟩
    unfold zig
    rw [if_pos h]
  · go_enter Tryd.func36, Tryd.ntmps36
    go_wp2
    go_ret
    refine ⟨ret_int ?_, rfl⟩
    unfold zig
    rw [if_neg (by omega)]
    omega

theorem rzag_any (x : Nat) (w : World) (h1 : x ≤ 18446744073709551615) :
    Calls Tryd.prog 53 #[.int .u64 x] w fun e w' => e = .returned (.int .i64 (zag x)) ∧ w = w' := by
  by_cases h : x % 2 = 0
  · have hb : ((x : Int) % 2 == 0) = true := by simp; omega
    have H := Lib.hid h
    clear h
    go_enter Tryd.func53, Tryd.ntmps53
    go_wp2
    go_ret
    refine ⟨ret_int ?_, rfl⟩
    have h := H.out
    unfold zag
    rw [if_neg (by omega)]
  · have hb : ((x : Int) % 2 == 0) = false := by simp; omega
    have H := Lib.hid h
    clear h
    go_enter Tryd.func53, Tryd.ntmps53
    go_wp2
    go_ret
    refine ⟨ret_int ?_, rfl⟩
    have h := H.out
    unfold zag
    rw [if_pos (by omega)]

set_option maxRecDepth 100000 in
/-- the reference's Size -/
theorem rsize_any (x : Nat) (w : World) (hx : x ≤ 18446744073709551615) :
    Calls Tryd.prog 46 #[.int .u64 x] w fun e w' => e = .returned (.int .i64 (vsz x)) ∧ w = w' := by
  have hsz := vsz_le (x := x) (by omega)
  have hs0 := vsz_pos x
  go_enter Tryd.func46, Tryd.ntmps46
  go_wp2
  go_loop [0, 3] (fun x' n => ∃ y m : Nat, y ≤ x ∧ x' = .int .u64 y ∧ n = .int .i64 m ∧ 1 ≤ m ∧ m ≤ 10 ∧ Hid (m + vsz y = vsz x + 1)) (fun x' _ => (intOf x').toNat)
  case atStart => exact ⟨x, 1, Nat.le_refl _, rfl, rfl, by omega, by omega, Nat.add_comm _ _⟩
  case round =>
    obtain ⟨y, m, hy, rfl, rfl, hm, hm2, H⟩ := hrel
    by_cases hlt : 128 ≤ y
    · have hv := Lib.hid (vsz_big hlt)
      have hp := vsz_pos (y / 128)
      go_wp2
      go_round
      case rel => exact ⟨y / 128, m + 1, by omega, by go_num, by go_num, by omega, by have := H.out; rw [hv.out] at this; omega, by have := H.out; rw [hv.out] at this; unfold Hid; omega⟩
      case measure => simp [intOf]; omega
    · have hv := Lib.hid (vsz_small (x := y) (by omega))
      go_wp2
      go_ret
      exact ⟨ret_int (by have := H.out; rw [hv.out] at this; omega), rfl⟩

theorem stand_any (c : UInt8) (i : Nat) (w : World) (hi : i ≤ 140737488355328) :
    Calls Tryd.prog 59 #[.int .u8 (c.toNat : Nat), .int .i64 i] w fun e w' => e = .returned (.bool (!bad c i)) ∧ w = w' := by
  have hc := c.toNat_lt
  go_enter Tryd.func59, Tryd.ntmps59
  go_wp2
  all_goals
    go_ret
    refine ⟨ret_bool ?_, rfl⟩
    unfold bad
    rw [Bool.eq_iff_iff]
    simp
    try omega

end Go.Proofs.YthekbefbhjllnaaDoor
