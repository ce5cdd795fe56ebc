/- The walks of the code: what sort of thing a kind wants; whether a kind has a number; a number's bits. -/
import Derived.Test.YtmbiompmhaiehaaDoorExMem
import Derived.Test.YtmbiompmhaiehaaDoorExKinds
import Derived.Test.YtmbiompmhaiehaaDoorExGw
namespace Go.Proofs.YtmbiompmhaiehaaDoor
open Go.RowKit

/-- the sort whose things can be values of a kind -/
def sortK (k : Int) : Int := if k = 1 ∨ k = 2 then 1 else if k = 3 then 3 else if k = 4 then 2 else 4
set_option maxRecDepth 100000 in
set_option maxHeartbeats 4000000 in
theorem sortOf_any {w : World} (h : KVars w) (k : Int) : Calls Tryd.prog 28 #[.int .i64 k] w fun e w' => e = .returned (.int .i64 (sortK k)) ∧ w = w' := by
  have c1 := uintK_any h
  have c2 := intK_any h
  have c3 := boolK_any h
  have c4 := textK_any h
  obtain ⟨R, hR⟩ : ∃ R, sortK k = R := ⟨_, rfl⟩
  rw [hR]
  by_cases h1 : k = 1
  · subst h1
    obtain rfl : R = 1 := hR.symm
    go_enter Tryd.func28, Tryd.ntmps28
    go_wp2_with (go_at_call 57; refine c1.mono ?_; rintro e w' ⟨rfl, rfl⟩)
    go_ret
    exact ⟨rfl, rfl⟩
  have z1 : (k == 1) = false := beq_eq_false_iff_ne.2 h1
  by_cases h2 : k = 2
  · subst h2
    obtain rfl : R = 1 := hR.symm
    go_enter Tryd.func28, Tryd.ntmps28
    go_wp2_with (first | (go_at_call 57; refine c1.mono ?_; rintro e w' ⟨rfl, rfl⟩) | (go_at_call 9; refine c2.mono ?_; rintro e w' ⟨rfl, rfl⟩))
    go_ret
    exact ⟨rfl, rfl⟩
  have z2 : (k == 2) = false := beq_eq_false_iff_ne.2 h2
  by_cases h3 : k = 3
  · subst h3
    obtain rfl : R = 3 := hR.symm
    go_enter Tryd.func28, Tryd.ntmps28
    go_wp2_with (first | (go_at_call 57; refine c1.mono ?_; rintro e w' ⟨rfl, rfl⟩) | (go_at_call 9; refine c2.mono ?_; rintro e w' ⟨rfl, rfl⟩) | (go_at_call 58; refine c3.mono ?_; rintro e w' ⟨rfl, rfl⟩))
    go_ret
    exact ⟨rfl, rfl⟩
  have z3 : (k == 3) = false := beq_eq_false_iff_ne.2 h3
  by_cases h4 : k = 4
  · subst h4
    obtain rfl : R = 2 := hR.symm
    go_enter Tryd.func28, Tryd.ntmps28
    go_wp2_with (first | (go_at_call 57; refine c1.mono ?_; rintro e w' ⟨rfl, rfl⟩) | (go_at_call 9; refine c2.mono ?_; rintro e w' ⟨rfl, rfl⟩) | (go_at_call 58; refine c3.mono ?_; rintro e w' ⟨rfl, rfl⟩) | (go_at_call 10; refine c4.mono ?_; rintro e w' ⟨rfl, rfl⟩))
    go_ret
    exact ⟨rfl, rfl⟩
  have z4 : (k == 4) = false := beq_eq_false_iff_ne.2 h4
  obtain rfl : R = 4 := by rw [← hR]; unfold sortK; rw [if_neg (by omega), if_neg h3, if_neg h4]
  clear hR h1 h2 h3 h4
  go_enter Tryd.func28, Tryd.ntmps28
  go_wp2_with (first | (go_at_call 57; refine c1.mono ?_; rintro e w' ⟨rfl, rfl⟩) | (go_at_call 9; refine c2.mono ?_; rintro e w' ⟨rfl, rfl⟩) | (go_at_call 58; refine c3.mono ?_; rintro e w' ⟨rfl, rfl⟩) | (go_at_call 10; refine c4.mono ?_; rintro e w' ⟨rfl, rfl⟩))
  go_ret
  exact ⟨rfl, rfl⟩

/-- whether a kind of numbers has this one -/
def hasN (k v : Int) : Bool := if k = 1 then decide (0 ≤ v) else if k = 2 then decide (v < 9223372036854775808) else true
set_option maxRecDepth 100000 in
set_option maxHeartbeats 4000000 in
theorem hasNumber_any {w : World} (h : KVars w) (k v : Int) : Calls Tryd.prog 31 #[.int .i64 k, .agg (numC v)] w fun e w' => e = .returned (.bool (hasN k v)) ∧ Below w.heap.size w w' := by
  obtain ⟨bl, hbl⟩ : ∃ bl : Bool, decide (v < 0) = bl := ⟨_, rfl⟩
  obtain ⟨sz, hsz⟩ : ∃ sz : Nat, v.natAbs = sz := ⟨_, rfl⟩
  unfold numC
  rw [hbl, hsz]
  have hb1 : Below w.heap.size w (w.alloc (.cells #[.bool bl, .int .u64 (sz : Nat)] 62)) := (Below.refl _ w).alloc (Nat.le_refl _) _
  have hn1 := CB.new w 62 #[.bool bl, .int .u64 (sz : Nat)]
  obtain ⟨w1, hw1⟩ : ∃ w1, w.alloc (.cells #[.bool bl, .int .u64 (sz : Nat)] 62) = w1 := ⟨_, rfl⟩
  rw [hw1] at hb1 hn1
  have q0 : w1.cell? ⟨w.heap.size, 0, none⟩ = some (.bool bl) := hn1.at_ 0
  have q1 : w1.cell? ⟨w.heap.size, 1, none⟩ = some (.int .u64 (sz : Nat)) := hn1.at_ 1
  have c1 := uintK_any (h.below hb1)
  have c2 := intK_any (h.below hb1)
  obtain ⟨R, hR⟩ : ∃ R, hasN k v = R := ⟨_, rfl⟩
  rw [hR]
  clear hn1
  by_cases h1 : k = 1
  · subst h1
    obtain rfl : R = !bl := by
      rw [← hR, ← hbl]
      unfold hasN
      rw [if_pos rfl]
      by_cases g : v < 0
      · rw [decide_eq_true g, decide_eq_false (by omega)]; rfl
      · rw [decide_eq_false g, decide_eq_true (by omega)]; rfl
    clear hR hbl hsz
    go_enter Tryd.func31, Tryd.ntmps31
    go_wp2_with (go_at_call 57; refine c1.mono ?_; rintro e w' ⟨rfl, rfl⟩)
    go_ret
    exact ⟨rfl, hb1⟩
  have z1 : (k == 1) = false := beq_eq_false_iff_ne.2 h1
  by_cases h2 : k = 2
  · subst h2
    have hd : decide ((sz : Int) ≤ 9223372036854775807) = decide (sz ≤ 9223372036854775807) := by rw [decide_eq_decide]; omega
    cases bl with
    | true =>
      obtain rfl : R = true := by
        rw [← hR]
        unfold hasN
        rw [if_neg h1, if_pos rfl]
        have := of_decide_eq_true hbl
        exact decide_eq_true (by omega)
      clear hR hbl hsz hd
      go_enter Tryd.func31, Tryd.ntmps31
      go_wp2_with (first | (go_at_call 57; refine c1.mono ?_; rintro e w' ⟨rfl, rfl⟩) | (go_at_call 9; refine c2.mono ?_; rintro e w' ⟨rfl, rfl⟩))
      go_ret
      exact ⟨rfl, hb1⟩
    | false =>
      have hv0 := of_decide_eq_false hbl
      obtain ⟨mb, hmb⟩ : ∃ mb, decide ((sz : Int) ≤ 9223372036854775807) = mb := ⟨_, rfl⟩
      obtain rfl : R = mb := by
        rw [← hR, ← hmb]
        unfold hasN
        rw [if_neg h1, if_pos rfl, decide_eq_decide]
        omega
      clear hR hbl hsz hd hv0
      go_enter Tryd.func31, Tryd.ntmps31
      go_wp2_with (first | (go_at_call 57; refine c1.mono ?_; rintro e w' ⟨rfl, rfl⟩) | (go_at_call 9; refine c2.mono ?_; rintro e w' ⟨rfl, rfl⟩))
      go_ret
      exact ⟨rfl, hb1⟩
  have z2 : (k == 2) = false := beq_eq_false_iff_ne.2 h2
  obtain rfl : R = true := by rw [← hR]; unfold hasN; rw [if_neg h1, if_neg h2]
  clear hR h1 h2 hbl hsz
  go_enter Tryd.func31, Tryd.ntmps31
  go_wp2_with (first | (go_at_call 57; refine c1.mono ?_; rintro e w' ⟨rfl, rfl⟩) | (go_at_call 9; refine c2.mono ?_; rintro e w' ⟨rfl, rfl⟩))
  go_ret
  exact ⟨rfl, hb1⟩

/-- a number in two's complement -/
def bitsV (v : Int) : Nat := if v < 0 then (v + 18446744073709551616).toNat else v.toNat
set_option maxRecDepth 100000 in
set_option maxHeartbeats 4000000 in
theorem bitsOf_any (w : World) (v : Int) (hv : -9223372036854775808 ≤ v ∧ v < 18446744073709551616) : Calls Tryd.prog 29 #[.agg (numC v)] w fun e w' => e = .returned (.int .u64 (bitsV v : Nat)) ∧ Below w.heap.size w w' := by
  obtain ⟨bl, hbl⟩ : ∃ bl : Bool, decide (v < 0) = bl := ⟨_, rfl⟩
  obtain ⟨sz, hsz⟩ : ∃ sz : Nat, v.natAbs = sz := ⟨_, rfl⟩
  obtain ⟨R, hR⟩ : ∃ R, bitsV v = R := ⟨_, rfl⟩
  unfold numC
  rw [hbl, hsz, hR]
  have hb1 : Below w.heap.size w (w.alloc (.cells #[.bool bl, .int .u64 (sz : Nat)] 62)) := (Below.refl _ w).alloc (Nat.le_refl _) _
  have hn1 := CB.new w 62 #[.bool bl, .int .u64 (sz : Nat)]
  obtain ⟨w1, hw1⟩ : ∃ w1, w.alloc (.cells #[.bool bl, .int .u64 (sz : Nat)] 62) = w1 := ⟨_, rfl⟩
  rw [hw1] at hb1 hn1
  have q0 : w1.cell? ⟨w.heap.size, 0, none⟩ = some (.bool bl) := hn1.at_ 0
  have q1 : w1.cell? ⟨w.heap.size, 1, none⟩ = some (.int .u64 (sz : Nat)) := hn1.at_ 1
  clear hn1
  cases bl with
  | true =>
    have h0 := of_decide_eq_true hbl
    have hw : IntKind.u64.wrap (-(sz : Int)) = (R : Int) := by
      rw [IntKind.wrap_u64, ← hR]
      unfold bitsV
      rw [if_pos h0]
      omega
    clear hbl hsz hR hv h0
    go_enter Tryd.func29, Tryd.ntmps29
    go_wp2
    go_ret
    exact ⟨rfl, hb1⟩
  | false =>
    have h0 := of_decide_eq_false hbl
    obtain rfl : R = sz := by
      rw [← hR, ← hsz]
      unfold bitsV
      rw [if_neg h0]
      omega
    clear hbl hsz hR hv h0
    go_enter Tryd.func29, Tryd.ntmps29
    go_wp2
    go_ret
    exact ⟨rfl, hb1⟩
set_option maxRecDepth 100000 in
set_option maxHeartbeats 4000000 in
theorem isKind_any (w : World) (k : Int) : Calls Tryd.prog 16 #[.int .i64 k] w fun e w' => e = .returned (.bool (decide (1 ≤ k ∧ k ≤ 5))) ∧ Below w.heap.size w w' := by
  have cn := name_any w k
  have hz : ∀ b, decide (1 ≤ k ∧ k ≤ 5) = b → ((⟨(knameL k).toArray⟩ : ByteArray).toList.isEmpty) = !b := by
    intro b hb
    rw [ByteArray.toList_eq]
    show (knameL k).isEmpty = !b
    rw [← hb]
    unfold knameL
    repeat' split
    all_goals first
      | (rename_i h; subst h; rfl)
      | (rw [decide_eq_false (by omega)]; rfl)
  obtain ⟨b, hb⟩ : ∃ b, decide (1 ≤ k ∧ k ≤ 5) = b := ⟨_, rfl⟩
  have hz := hz b hb
  obtain ⟨S, hS⟩ : ∃ S : ByteArray, ⟨(knameL k).toArray⟩ = S := ⟨_, rfl⟩
  rw [hS] at hz cn
  rw [hb]
  clear hb hS
  go_enter Tryd.func16, Tryd.ntmps16
  go_wp2_with (go_at_call 25; refine cn.mono ?_; rintro e w' ⟨rfl, hb⟩)
  go_ret
  exact ⟨rfl, hb⟩
end Go.Proofs.YtmbiompmhaiehaaDoor
