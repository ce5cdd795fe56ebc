/- The walks of what reads bytes: Take, and the reference's Take. -/
import Derived.Test.YthekbefbhjllnaaDoorVarNum
import Derived.Deep.QuietTactic
import Derived.BigQuiet
import Derived.IntWalk
import Derived.Outline
namespace Go.Proofs.YthekbefbhjllnaaDoor
open Go.RowKit

/-- a byte among the others -/
theorem or_add (a c i : Nat) (ha : a < 2 ^ (7 * i)) : a ||| c * 2 ^ (7 * i) = a + c * 2 ^ (7 * i) := by
  rw [Nat.or_comm, Nat.mul_comm c, ← Nat.two_pow_add_eq_or_of_lt ha, Nat.add_comm]
theorem pow_le (k : Nat) (h : k ≤ 8) : (2 : Nat) ^ (7 * k) ≤ 72057594037927936 := by
  have h := Nat.pow_le_pow_right (show 0 < 2 by decide) (show 7 * k ≤ 56 by omega)
  have e : (2 : Nat) ^ 56 = 72057594037927936 := by decide
  rw [e] at h; exact h
theorem part_lt (c : UInt8) (k : Nat) (hk : k ≤ 9) (hb : ¬ bad c k = true) : c.toNat % 128 * 2 ^ (7 * k) ≤ 9223372036854775808 := by
  by_cases h9 : k = 9
  · subst h9
    have : c.toNat ≤ 1 := by simp [bad] at hb; omega
    have e : (2 : Nat) ^ (7 * 9) = 9223372036854775808 := by decide
    rw [e]; omega
  · have h := Nat.mul_le_mul (show c.toNat % 128 ≤ 127 by omega) (pow_le k (by omega))
    omega
theorem or_part (c : UInt8) (k acc : Nat) (hk : k ≤ 9) (hb : ¬ bad c k = true) (ha : acc < 2 ^ (7 * k)) :
    bits .or .u64 (acc : Int) (IntKind.u64.wrap ((c.toNat : Int) % 128 * 2 ^ (7 * k))) = ((acc + c.toNat % 128 * 2 ^ (7 * k) : Nat) : Int) := by
  have hp := part_lt c k hk hb
  have ha2 : acc < 9223372036854775808 := by
    refine Nat.lt_of_lt_of_le ha ?_
    have h := Nat.pow_le_pow_right (show 0 < 2 by decide) (show 7 * k ≤ 63 by omega)
    have e : (2 : Nat) ^ 63 = 9223372036854775808 := by decide
    rw [e] at h; exact h
  have e : ((c.toNat : Int) % 128 * 2 ^ (7 * k)) = ((c.toNat % 128 * 2 ^ (7 * k) : Nat) : Int) := by
    rw [Int.natCast_mul, Int.natCast_pow]; rfl
  rw [e, IntWalk.u64_in _ (by omega), u64_or _ _ (by omega) (by omega) (by omega) (by omega), Int.toNat_natCast, Int.toNat_natCast, or_add _ _ _ ha]

theorem at_drop (l : List UInt8) (k : Nat) (h : k < l.length) : l.drop k = l[k] :: l.drop (k + 1) := List.drop_eq_getElem_cons h
theorem step_bad (l : List UInt8) (k : Nat) (h : k < l.length) (hb : bad l[k] k = true) : stops k (l.drop k) = (0, 3) := by
  rw [at_drop l k h, stops, if_pos hb]
theorem step_end (l : List UInt8) (k : Nat) (h : k < l.length) (hb : ¬ bad l[k] k = true) (hc : l[k].toNat < 128) : stops k (l.drop k) = (k + 1, 0) := by
  rw [at_drop l k h, stops, if_neg hb, if_pos hc]
theorem step_on (l : List UInt8) (k : Nat) (h : k < l.length) (hb : ¬ bad l[k] k = true) (hc : 128 ≤ l[k].toNat) : stops k (l.drop k) = stops (k + 1) (l.drop (k + 1)) ∧ k ≠ 9 := by
  refine ⟨by rw [at_drop l k h, stops, if_neg hb, if_neg (by omega)], ?_⟩
  rintro rfl
  simp [bad] at hb
  omega
theorem step_val (l : List UInt8) (k : Nat) (h : k < l.length) : val (l.take (k + 1)) = val (l.take k) + l[k].toNat % 128 * 2 ^ (7 * k) := by
  rw [List.take_succ_eq_append_getElem h, val_snoc, List.length_take, Nat.min_eq_left (by omega), Nat.pow_mul]
theorem step_lt (l : List UInt8) (k : Nat) : val (l.take k) < 2 ^ (7 * k) := by
  refine Nat.lt_of_lt_of_le (val_lt _) ?_
  rw [Nat.pow_mul]
  exact Nat.pow_le_pow_right (by decide) (List.length_take_le _ _)
theorem ret_take {l : List UInt8} {x n e : Nat} (h : stops 0 l = (n, e)) (hx : x = val (l.take n)) :
    Ending.returned (.tuple #[.int .u64 (x : Int), .int .i64 (n : Int), .int .i64 (e : Int)]) = .returned (.tuple #[.int .u64 (tkX l : Nat), .int .i64 (tkN l : Nat), .int .i64 (tkE l : Nat)]) := by
  unfold tkX tkN tkE
  rw [h, hx]

theorem andNot_128 (c : UInt8) : bits .andNot .u8 (c.toNat : Nat) 128 = ((c.toNat % 128 : Nat) : Int) := by
  have h : ∀ n : Fin 256, bits .andNot .u8 (n.val : Int) 128 = ((n.val % 128 : Nat) : Int) := by decide +kernel
  exact h ⟨c.toNat, c.toNat_lt⟩

set_option maxRecDepth 100000 in
set_option maxHeartbeats 400000 in
theorem take_any {w : World} {B : Nat} {A : Option Addr} {l : List UInt8} (c : Nat) (h : Byt w B A l) (hm : l.length ≤ 140737488355328) :
    Calls Tryd.prog 54 #[.slice A l.length c] w fun e w' => e = .returned (.tuple #[.int .u64 (tkX l : Nat), .int .i64 (tkN l : Nat), .int .i64 (tkE l : Nat)]) ∧ w = w' := by
  go_enter Tryd.func54, Tryd.ntmps54
  go_wp2
  go_loop [5, 10] (fun x i => ∃ k acc : Nat, k ≤ l.length ∧ k ≤ 9 ∧ x = .int .u64 acc ∧ i = .int .i64 k ∧ acc < 2 ^ (7 * k) ∧ Hid (acc = val (l.take k)) ∧ Hid (stops 0 l = stops k (l.drop k))) (fun _ i => l.length - (intOf i).toNat)
  case atStart => exact ⟨0, 0, Nat.zero_le _, Nat.zero_le _, rfl, rfl, by decide, rfl, rfl⟩
  case round =>
    obtain ⟨k, acc, hk, hk9, rfl, rfl, hacc, HV, HS⟩ := hrel
    by_cases hlt : k < l.length
    · obtain ⟨b, o, rfl, hB, hc⟩ := h.at_ (by omega)
      have hck := hc k hlt
      clear hc
      have hc8 := l[k].toNat_lt
      have hA := andNot_128 l[k]
      by_cases hbad : bad l[k] k = true
      · have hn : (!bad l[k] k) = false := by rw [hbad]; rfl
        have HB := Lib.hid hbad
        clear hbad
        go_wp2_with (go_at_call 59; refine (stand_any _ _ _ (by omega)).mono ?_; rintro e w' ⟨rfl, rfl⟩)
        go_ret3
        exact ⟨ret_take (x := 0) (HS.out.trans (step_bad l k hlt HB.out)) rfl, rfl⟩
      · have hn : (!bad l[k] k) = true := by simpa using hbad
        have hO := or_part l[k] k acc hk9 hbad hacc
        have HB := Lib.hid hbad
        clear hbad
        by_cases hc1 : l[k].toNat < 128
        · go_wp2_with (go_at_call 59; refine (stand_any _ _ _ (by omega)).mono ?_; rintro e w' ⟨rfl, rfl⟩)
          go_ret3
          exact ⟨ret_take (HS.out.trans (step_end l k hlt HB.out hc1)) (by rw [step_val l k hlt, ← HV.out]; rfl), rfl⟩
        · go_wp2_with (go_at_call 59; refine (stand_any _ _ _ (by omega)).mono ?_; rintro e w' ⟨rfl, rfl⟩)
          go_round
          case rel =>
            obtain ⟨hs, h9⟩ := step_on l k hlt HB.out (by omega)
            have hv := step_val l k hlt
            rw [← HV.out] at hv
            exact ⟨k + 1, acc + l[k].toNat % 128 * 2 ^ (7 * k), by omega, by omega, rfl, by go_num, by rw [← hv]; exact step_lt l (k + 1), hv.symm, HS.out.trans hs⟩
          case measure => simp [intOf]; omega
    · go_wp2
      go_ret3
      refine ⟨ret_take (x := 0) (n := 0) (e := 5) (HS.out.trans ?_) rfl, rfl⟩
      rw [List.drop_eq_nil_of_le (by omega)]; rfl

theorem val_drop (l : List UInt8) : ∀ j, val (l.drop j) ≤ val l := by
  induction l with
  | nil => intro j; simp
  | cons c r ih =>
    intro j
    cases j with
    | zero => simp
    | succ j => rw [List.drop_succ_cons, val]; have := ih j; omega
theorem val_at (l : List UInt8) (k i : Nat) (hi : i ≤ k) (hk : k < l.length) : val ((l.take (k + 1)).drop i) = l[i].toNat % 128 + 128 * val ((l.take (k + 1)).drop (i + 1)) := by
  rw [List.drop_eq_getElem_cons (by simp; omega), val]
  simp
theorem whole_lt (l : List UInt8) (k : Nat) (h : stops 0 l = (k + 1, 0)) : val (l.take (k + 1)) < 18446744073709551616 := by
  obtain ⟨m, hm, _, _, _, _, hv, _⟩ := stops_ok l 0 (k + 1) (by omega) h
  rw [Nat.zero_add] at hm
  subst hm
  simpa using hv

set_option maxRecDepth 100000 in
set_option maxHeartbeats 1000000 in
theorem rtake_any {w : World} {B : Nat} {A : Option Addr} {l : List UInt8} (c : Nat) (h : Byt w B A l) (hm : l.length ≤ 140737488355328) :
    Calls Tryd.prog 38 #[.slice A l.length c] w fun e w' => e = .returned (.tuple #[.int .u64 (tkX l : Nat), .int .i64 (tkN l : Nat), .int .i64 (tkE l : Nat)]) ∧ w = w' := by
  go_enter Tryd.func38, Tryd.ntmps38
  go_wp2
  go_loop [5] (fun i => ∃ k : Nat, k ≤ l.length ∧ k ≤ 9 ∧ i = .int .i64 k ∧ Hid (stops 0 l = stops k (l.drop k))) (fun i => l.length - (intOf i).toNat)
  case atStart => exact ⟨0, Nat.zero_le _, Nat.zero_le _, rfl, rfl⟩
  case round =>
    obtain ⟨k, hk, hk9, rfl, HS⟩ := hrel
    by_cases hlt : k < l.length
    · obtain ⟨b, o, rfl, hB, hc⟩ := h.at_ (by omega)
      have hck := hc k hlt
      have HC := Lib.hid hc
      clear hc
      have hc8 := l[k].toNat_lt
      by_cases hbad : bad l[k] k = true
      · have hb := hbad
        simp only [bad, Bool.or_eq_true, Bool.and_eq_true, decide_eq_true_eq, beq_iff_eq, Bool.not_eq_true', beq_eq_false_iff_ne] at hb
        have HB := Lib.hid hbad
        clear hbad
        by_cases h0 : l[k].toNat = 0
        · have hk0 : 0 < k := by omega
          have h1 : ((l[k].toNat : Nat) : Int) = 0 := by omega
          have h2 : (((l[k].toNat : Nat) : Int) == 0) = true := by simp [h0]
          clear hb h0
          go_wp2
          go_ret3
          exact ⟨ret_take (x := 0) (HS.out.trans (step_bad l k hlt HB.out)) rfl, rfl⟩
        · have h2 : (((l[k].toNat : Nat) : Int) == 0) = false := by simp; omega
          have h9 : k = 9 := by omega
          have hgt : 1 < l[k].toNat := by omega
          have h3 : ((k : Int) == 9) = true := by simp; omega
          have H9 := Lib.hid h9
          clear hb h0 h9
          have hk0 : 0 < k := by have := H9.out; omega
          go_wp2
          go_ret3
          exact ⟨ret_take (x := 0) (HS.out.trans (step_bad l k hlt HB.out)) rfl, rfl⟩
      · have hn := hbad
        simp only [bad, Bool.or_eq_true, Bool.and_eq_true, decide_eq_true_eq, beq_iff_eq, Bool.not_eq_true', beq_eq_false_iff_ne] at hn
        have HB := Lib.hid hbad
        clear hbad
        have hthree : (¬ 0 < k ∧ ((k : Int) == 9) = false) ∨ (0 < k ∧ (((l[k].toNat : Nat) : Int) == 0) = false ∧ ((k : Int) == 9) = false) ∨ (0 < k ∧ (((l[k].toNat : Nat) : Int) == 0) = false ∧ ((k : Int) == 9) = true ∧ ¬ (1 < l[k].toNat)) := by
          simp
          omega
        clear hn
        rcases hthree with ⟨hk0, h9⟩ | ⟨hk0, hz, h9⟩ | ⟨hk0, hz, h9, hc1⟩
        all_goals
          by_cases hc2 : l[k].toNat < 128
          · have hend := HS.out.trans (step_end l k hlt HB.out hc2)
            have hwl := whole_lt l k hend
            have HE := Lib.hid hend
            clear hend
            go_wp2
            go_loop [6, 7] (fun x i => ∃ (z : Int) (y : Nat), -1 ≤ z ∧ z ≤ k ∧ i = .int .i64 z ∧ x = .int .u64 y ∧ Hid (y = val ((l.take (k + 1)).drop (z + 1).toNat))) (fun _ i => (intOf i + 1).toNat)
            case atStart => exact ⟨k, 0, by omega, by omega, by go_num, rfl, by rw [List.drop_eq_nil_of_le (by simp; omega)]; rfl⟩
            case round =>
              obtain ⟨z, y, hz1, hz2, rfl, rfl, HY⟩ := hrel
              by_cases hz0 : 0 ≤ z
              · obtain ⟨i, rfl⟩ := Int.eq_ofNat_of_zero_le hz0
                have hci := HC.out i (by omega)
                have hi8 := l[i].toNat_lt
                have hv := val_at l k i (by omega) hlt
                have hy : y = val ((l.take (k + 1)).drop (i + 1)) := HY.out
                rw [← hy] at hv
                have hb := val_drop (l.take (k + 1)) i
                have hsum : (y : Int) * 128 + (l[i].toNat : Int) % 128 ≤ 18446744073709551615 := by omega
                have hmul : (y : Int) * 128 ≤ 18446744073709551615 := by omega
                have HV := Lib.hid hv
                clear hv hy hb hwl
                go_wp2
                go_round
                case rel =>
                  refine ⟨(i : Int) - 1, y * 128 + l[i].toNat % 128, by omega, by omega, rfl, by go_num, ?_⟩
                  have e : ((i : Int) - 1 + 1).toNat = i := by omega
                  rw [e]
                  have := HV.out
                  unfold Hid
                  omega
                case measure => simp [intOf]
              · obtain rfl : z = -1 := by omega
                go_wp2
                go_ret3
                exact ⟨ret_take HE.out HY.out, rfl⟩
          · first
              | (exfalso; omega)
              | (go_wp2
                 go_round
                 case rel => exact ⟨k + 1, by omega, by have := step_on l k hlt HB.out (by omega); omega, by go_num, HS.out.trans (step_on l k hlt HB.out (by omega)).1⟩
                 case measure => simp [intOf]; omega)
    · go_wp2
      go_ret3
      refine ⟨ret_take (x := 0) (n := 0) (e := 5) (HS.out.trans ?_) rfl, rfl⟩
      rw [List.drop_eq_nil_of_le (by omega)]; rfl

end Go.Proofs.YthekbefbhjllnaaDoor
