/- The walks of the code: numbers by sign and size. -/
import Derived.Test.YtmbiompmhaiehaaDoorExMem
import Derived.Test.YtmbiompmhaiehaaDoorPoWhole
import Derived.Laws.Externs
namespace Go.Proofs.YtmbiompmhaiehaaDoor
open Go.RowKit

/-- what a function on numbers answers: v, and whether it is in the range -/
def NumAt (v : Int) (w : World) (e : Ending) (w' : World) : Prop :=
  ∃ (bl : Bool) (sz : Nat), e = .returned (.tuple #[.agg #[.bool bl, .int .u64 (sz : Nat)], .bool (inR v)]) ∧ Hid (Below w.heap.size w w' ∧ (inR v = true → bl = decide (v < 0) ∧ sz = v.natAbs) ∧ sz < 18446744073709551616)
/-- the number of a sign and a size -/
def sg (bl : Bool) (sz : Nat) : Int := if bl then -(sz : Int) else sz
theorem sg_numC (v : Int) : sg (decide (v < 0)) v.natAbs = v := by
  unfold sg
  by_cases h : v < 0
  · rw [if_pos (decide_eq_true h)]; omega
  · rw [if_neg (by simpa using h)]; omega
set_option maxRecDepth 100000 in
set_option maxHeartbeats 4000000 in
theorem bounded_any (w : World) (bl : Bool) (ov sz : Nat) (hs : sz < 18446744073709551616) (v : Int) (hv : v = sg bl (ov * 18446744073709551616 + sz)) :
    Calls Tryd.prog 76 #[.bool bl, .int .u64 (ov : Nat), .int .u64 (sz : Nat)] w (NumAt v w) := by
  obtain ⟨w1, hw1⟩ : ∃ w1, w.alloc (.cells #[.bool false, .int .u64 0] 62) = w1 := ⟨_, rfl⟩
  have b1 : Below w.heap.size w w1 := by rw [← hw1]; exact (Below.refl _ w).alloc (Nat.le_refl _) _
  have k1 : CB w1 w.heap.size 62 #[.bool false, .int .u64 0] := by rw [← hw1]; exact CB.new w _ _
  obtain ⟨ob, hob⟩ : ∃ ob : Bool, decide (ov = 0) = ob := ⟨_, rfl⟩
  have hoz : ((ov : Int) == 0) = ob := by rw [← hob]; by_cases h : ov = 0 <;> simp [h]
  obtain ⟨mb, hmb⟩ : ∃ mb : Bool, decide (sz ≤ 9223372036854775808) = mb := ⟨_, rfl⟩
  have hmz : decide ((sz : Int) ≤ 9223372036854775808) = mb := by rw [← hmb, decide_eq_decide]; omega
  obtain ⟨rb, hrb⟩ : ∃ rb : Bool, inR v = rb := ⟨_, rfl⟩
  have HR : Hid (rb = (ob && (!bl || mb)) ∧ (rb = true → (bl && decide (0 < sz)) = decide (v < 0) ∧ sz = v.natAbs)) := by
    unfold Hid
    rw [← hrb, ← hob, ← hmb]
    unfold inR
    subst hv
    unfold sg
    cases bl
    · simp only [Bool.false_eq_true, if_false, Bool.not_false, Bool.true_or, Bool.and_true, Bool.false_and]
      refine ⟨by rw [decide_eq_decide]; omega, fun h => ?_⟩
      rw [decide_eq_true_eq] at h
      exact ⟨by rw [eq_comm, decide_eq_false_iff_not]; omega, by omega⟩
    · simp only [if_true, Bool.not_true, Bool.false_or, Bool.true_and]
      refine ⟨?_, fun h => ?_⟩
      · rw [← Bool.decide_and, decide_eq_decide]; omega
      · rw [decide_eq_true_eq] at h
        exact ⟨by rw [decide_eq_decide]; omega, by omega⟩
  unfold NumAt
  rw [hrb]
  have HS := Lib.hid hs
  clear hv hob hmb hrb hs
  go_enter Tryd.func76, Tryd.ntmps76
  cases ob <;> cases mb <;> cases bl
  all_goals
    go_wp2_with (refine wpList_store_cb rfl 62 (.tmp 6) (.tmp 14) rfl w.heap.size _ #[_, .int .u64 (sz : Nat)] rfl rfl k1 rfl (by kernel_rfl) (by kernel_rfl) ?_; intro w9 h9 t9)
    first
    | (refine bodyPost_ret (v := .tuple #[.agg #[.bool (decide (0 < sz)), .int .u64 (sz : Nat)], .bool rb]) ?_ rfl ⟨decide (0 < sz), sz, rfl, b1.trans (t9.below (Nat.le_refl _)), HR.out.2, HS.out⟩
       rw [HR.out.1]
       exact results_cv rfl _ _ _ _ _ rfl rfl h9 Tryd.underlying62 rfl (by kernel_rfl))
    | (refine bodyPost_ret (v := .tuple #[.agg #[.bool false, .int .u64 (sz : Nat)], .bool rb]) ?_ rfl ⟨false, sz, rfl, b1.trans (t9.below (Nat.le_refl _)), HR.out.2, HS.out⟩
       rw [HR.out.1]
       exact results_cv rfl _ _ _ _ _ rfl rfl h9 Tryd.underlying62 rfl (by kernel_rfl))

/-- a number's block -/
theorem numC_cells {w w' : World} {b : Nat} {T : TypeId} {bl : Bool} {sz : Nat} (h : CB w b T #[.bool bl, .int .u64 (sz : Nat)]) (hb : Below w.heap.size w w') : w'.cell? ⟨b, 0, none⟩ = some (.bool bl) ∧ w'.cell? ⟨b, 1, none⟩ = some (.int .u64 (sz : Nat)) := ⟨(h.below hb).at_ 0, (h.below hb).at_ 1⟩

set_option maxRecDepth 100000 in
set_option maxHeartbeats 4000000 in
theorem opposite_any (w : World) (v : Int) (hv : v.natAbs < 18446744073709551616) :
    Calls Tryd.prog 70 #[.agg (numC v)] w (NumAt (-v) w) := by
  obtain ⟨bl, hbl⟩ : ∃ bl : Bool, decide (v < 0) = bl := ⟨_, rfl⟩
  obtain ⟨sz, hsz⟩ : ∃ sz : Nat, v.natAbs = sz := ⟨_, rfl⟩
  obtain ⟨w1, hw1⟩ : ∃ w1, w.alloc (.cells #[.bool bl, .int .u64 (sz : Nat)] 62) = w1 := ⟨_, rfl⟩
  obtain ⟨w2, hw2⟩ : ∃ w2, w1.alloc (.cells #[.bool false, .int .u64 0] 62) = w2 := ⟨_, rfl⟩
  have s1 : w1.heap.size = w.heap.size + 1 := by rw [← hw1]; simp
  have b1 : Below w.heap.size w w1 := by rw [← hw1]; exact (Below.refl _ w).alloc (Nat.le_refl _) _
  have b2 : Below w1.heap.size w1 w2 := by rw [← hw2]; exact (Below.refl _ w1).alloc (Nat.le_refl _) _
  have b12 : Below w.heap.size w w2 := b1.trans (b2.mono (by omega))
  have k1 : CB w1 w.heap.size 62 #[.bool bl, .int .u64 (sz : Nat)] := by rw [← hw1]; exact CB.new w _ _
  obtain ⟨c0, c1⟩ := numC_cells k1 b2
  have k2 : CB w2 (w.heap.size + 1) 62 #[.bool false, .int .u64 0] := by rw [← s1, ← hw2]; exact CB.new w1 _ _
  have CB_ := Lib.hid (bounded_any w2 (!bl) 0 sz (by omega) (-v) (by
    rw [← hbl, ← hsz]
    unfold sg
    by_cases h : v < 0
    · rw [decide_eq_true h, Bool.not_true, if_neg (by decide)]; omega
    · rw [decide_eq_false h, Bool.not_false, if_pos rfl]; omega))
  unfold NumAt numC
  rw [hbl, hsz]
  obtain ⟨rb, hrb⟩ : ∃ rb : Bool, inR (-v) = rb := ⟨_, rfl⟩
  have CN : Hid (Calls Tryd.prog 76 #[.bool (!bl), .int .u64 0, .int .u64 (sz : Nat)] w2 fun e w' => ∃ (b : Bool) (s : Nat), e = .returned (.tuple #[.agg #[.bool b, .int .u64 (s : Nat)], .bool rb]) ∧ CB w' (w.heap.size + 1) 62 #[.bool false, .int .u64 0] ∧ Hid (Below w.heap.size w w' ∧ (rb = true → b = decide (-v < 0) ∧ s = (-v).natAbs) ∧ s < 18446744073709551616)) := by
    refine CB_.out.mono ?_
    rintro e w' ⟨b, s, he, hb, h1, h2⟩
    rw [hrb] at he h1
    exact ⟨b, s, he, k2.below hb, b12.trans (hb.mono b12.size), h1, h2⟩
  rw [hrb]
  clear CB_ hv hbl hsz hrb k1 k2
  go_enter Tryd.func70, Tryd.ntmps70
  go_wp2_with (first
    | (go_at_call 76; refine CN.out.mono ?_; rintro e w3 ⟨b, s, rfl, h3, H3⟩)
    | (refine wpList_store_cb rfl 62 (.tmp 2) (.tmp 10) rfl (w.heap.size + 1) _ #[.bool b, .int .u64 (s : Nat)] rfl rfl h3 rfl (by kernel_rfl) (by kernel_rfl) ?_; intro w9 h9 t9))
  refine bodyPost_ret (v := .tuple #[.agg #[.bool b, .int .u64 (s : Nat)], .bool rb]) (results_cv rfl _ _ _ _ _ rfl rfl h9 Tryd.underlying62 rfl (by kernel_rfl)) rfl ⟨b, s, rfl, H3.out.1.trans (t9.below (by omega)), H3.out.2⟩
end Go.Proofs.YtmbiompmhaiehaaDoor
