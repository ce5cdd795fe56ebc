/- The walks of the code: giving up; a number, a text as what a node stands for. -/
import Derived.Test.YtmbiompmhaiehaaDoorExMem
import Derived.Test.YtmbiompmhaiehaaDoorPoPlace
import Derived.WalkLawsBesides
namespace Go.Proofs.YtmbiompmhaiehaaDoor
open Go.RowKit

/-- the subtree whose root stands there, as a value -/
abbrev sbt (x r : Nat) : Value := .agg #[.pointer (some ⟨x, 0, none⟩), .int .i64 (r : Nat)]

set_option maxRecDepth 100000 in
set_option maxHeartbeats 4000000 in
theorem give_any (w : World) (x r e : Nat) : Calls Tryd.prog 32 #[.agg #[.pointer (some ⟨x, 0, none⟩), .int .i64 (r : Nat)], .int .i64 (e : Nat)] w fun q w' => q = .panicked [faultV r e] ∧ Below w.heap.size w w' := by
  obtain ⟨w1, hw1⟩ : ∃ w1, w.alloc (.cells #[.pointer (some ⟨x, 0, none⟩), .int .i64 (r : Nat)] 43) = w1 := ⟨_, rfl⟩
  have b1 : Below w.heap.size w w1 := by rw [← hw1]; exact (Below.refl _ w).alloc (Nat.le_refl _) _
  have k1 : CB w1 w.heap.size 43 #[.pointer (some ⟨x, 0, none⟩), .int .i64 (r : Nat)] := by rw [← hw1]; exact CB.new w _ _
  have c0 : w1.cell? ⟨w.heap.size, 0, none⟩ = some (.pointer (some ⟨x, 0, none⟩)) := k1.at_ 0
  have c1 : w1.cell? ⟨w.heap.size, 1, none⟩ = some (.int .i64 (r : Nat)) := k1.at_ 1
  have cp := pplace_any w1 (.pointer (some ⟨x, 0, none⟩)) r
  clear k1
  go_enter Tryd.func32, Tryd.ntmps32
  go_wp2_with (go_at_call 60; refine cp.mono ?_; rintro q w2 ⟨rfl, hb2⟩)
  exact ⟨rfl, rfl, b1.trans (hb2.mono b1.size)⟩

set_option maxRecDepth 100000 in
set_option maxHeartbeats 4000000 in
theorem want_yes (w : World) (x r : Nat) : Calls Tryd.prog 27 #[.agg #[.pointer (some ⟨x, 0, none⟩), .int .i64 (r : Nat)], .bool true] w fun q w' => q = .returned (.tuple #[]) ∧ Below w.heap.size w w' := by
  go_enter Tryd.func27, Tryd.ntmps27
  go_wp2
  go_end0
  exact ⟨rfl, (Below.refl _ w).alloc (Nat.le_refl _) _⟩

set_option maxRecDepth 100000 in
set_option maxHeartbeats 4000000 in
theorem want_no (w : World) (x r : Nat) : Calls Tryd.prog 27 #[.agg #[.pointer (some ⟨x, 0, none⟩), .int .i64 (r : Nat)], .bool false] w fun q w' => q = .panicked [faultV r 110] ∧ Below w.heap.size w w' := by
  obtain ⟨w1, hw1⟩ : ∃ w1, w.alloc (.cells #[.pointer (some ⟨x, 0, none⟩), .int .i64 (r : Nat)] 43) = w1 := ⟨_, rfl⟩
  have b1 : Below w.heap.size w w1 := by rw [← hw1]; exact (Below.refl _ w).alloc (Nat.le_refl _) _
  have k1 : CB w1 w.heap.size 43 #[.pointer (some ⟨x, 0, none⟩), .int .i64 (r : Nat)] := by rw [← hw1]; exact CB.new w _ _
  have c0 : w1.cell? ⟨w.heap.size, 0, none⟩ = some (.pointer (some ⟨x, 0, none⟩)) := k1.at_ 0
  have c1 : w1.cell? ⟨w.heap.size, 1, none⟩ = some (.int .i64 (r : Nat)) := k1.at_ 1
  have cg := give_any w1 x r 110
  clear k1
  go_enter Tryd.func27, Tryd.ntmps27
  go_wp2_with (go_at_call 32; refine cg.mono ?_; rintro q w2 ⟨rfl, hb2⟩)
  exact ⟨rfl, rfl, b1.trans (hb2.mono b1.size)⟩

set_option maxRecDepth 100000 in
set_option maxHeartbeats 4000000 in
theorem textOf_any (w : World) (x r : Nat) (s : List UInt8) (hs : s.length ≤ 9223372036854775807) : Calls Tryd.prog 46 #[.agg #[.pointer (some ⟨x, 0, none⟩), .int .i64 (r : Nat)], .string (str s)] w fun q w' => q = endO r (textE s) ∧ Below w.heap.size w w' := by
  obtain ⟨S, hS⟩ : ∃ S, str s = S := ⟨_, rfl⟩
  have hz : S.size = s.length := by rw [← hS]; exact str_size s
  obtain ⟨w1, hw1⟩ : ∃ w1, w.alloc (.cells #[.pointer (some ⟨x, 0, none⟩), .int .i64 (r : Nat)] 43) = w1 := ⟨_, rfl⟩
  obtain ⟨w2, hw2⟩ : ∃ w2, w1.alloc (.cells #[.int .i64 0, .bool false, .int .u64 0, .string ⟨#[]⟩] 64) = w2 := ⟨_, rfl⟩
  have s1 : w1.heap.size = w.heap.size + 1 := by rw [← hw1]; simp
  have b1 : Below w.heap.size w w1 := by rw [← hw1]; exact (Below.refl _ w).alloc (Nat.le_refl _) _
  have b2 : Below w1.heap.size w1 w2 := by rw [← hw2]; exact (Below.refl _ w1).alloc (Nat.le_refl _) _
  have b12 : Below w.heap.size w w2 := b1.trans (b2.mono (by omega))
  have k1 : CB w2 w.heap.size 43 #[.pointer (some ⟨x, 0, none⟩), .int .i64 (r : Nat)] := CB.below (by rw [← hw1]; exact CB.new w _ _) b2
  have k2 : CB w2 (w.heap.size + 1) 64 #[.int .i64 0, .bool false, .int .u64 0, .string ⟨#[]⟩] := by rw [← s1, ← hw2]; exact CB.new w1 _ _
  have c0 : w2.cell? ⟨w.heap.size, 0, none⟩ = some (.pointer (some ⟨x, 0, none⟩)) := k1.at_ 0
  have c1 : w2.cell? ⟨w.heap.size, 1, none⟩ = some (.int .i64 (r : Nat)) := k1.at_ 1
  have cg := give_any w2 x r 2
  rw [hS]
  by_cases hl : s.length ≤ 4096
  · have hc : decide ((4096 : Int) < (S.size : Int)) = false := decide_eq_false (by omega)
    have hc' : ¬ (4096 : Int) < (S.size : Int) := by omega
    have he : endO r (textE s) = .returned (.agg #[.int .i64 2, .bool false, .int .u64 0, .string S]) := by unfold textE; rw [if_pos hl, ← hS]; rfl
    rw [he]
    clear k1 hl he hS hs cg
    go_enter Tryd.func46, Tryd.ntmps46
    go_wp2_with (refine wpList_store_cb rfl 64 (.tmp 4) (.tmp 11) rfl (w.heap.size + 1) _ #[.int .i64 2, .bool false, .int .u64 0, .string S] rfl rfl k2 rfl (by kernel_rfl) (by kernel_rfl) ?_; intro w9 h9 t9)
    exact bodyPost_ret (results_cb rfl _ _ _ _ rfl h9 Tryd.underlying64 rfl (by kernel_rfl)) rfl ⟨rfl, b12.trans (t9.below (by omega))⟩
  · have hc : decide ((4096 : Int) < (S.size : Int)) = true := decide_eq_true (by omega)
    have hc' : (4096 : Int) < (S.size : Int) := by omega
    have he : endO r (textE s) = .panicked [faultV r 2] := by unfold textE; rw [if_neg hl]; rfl
    rw [he]
    clear k1 hl he hS hs k2
    go_enter Tryd.func46, Tryd.ntmps46
    go_wp2_with (go_at_call 32; refine cg.mono ?_; rintro q w3 ⟨rfl, hb3⟩)
    exact ⟨rfl, rfl, b12.trans (hb3.mono b12.size)⟩

set_option maxRecDepth 100000 in
set_option maxHeartbeats 4000000 in
theorem numberOf_any (w : World) (x r : Nat) (v : Int) (bl : Bool) (sz : Nat) (h : inR v = true → bl = decide (v < 0) ∧ sz = v.natAbs) : Calls Tryd.prog 71 #[.agg #[.pointer (some ⟨x, 0, none⟩), .int .i64 (r : Nat)], .agg #[.bool bl, .int .u64 (sz : Nat)], .bool (inR v)] w fun q w' => q = endO r (numE v) ∧ Below w.heap.size w w' := by
  rw [numE_eq]
  obtain ⟨w1, hw1⟩ : ∃ w1, w1 = w.alloc (.cells #[.pointer (some ⟨x, 0, none⟩), .int .i64 (r : Nat)] 43) := ⟨_, rfl⟩
  obtain ⟨w2, hw2⟩ : ∃ w2, w2 = w1.alloc (.cells #[.bool bl, .int .u64 (sz : Nat)] 62) := ⟨_, rfl⟩
  obtain ⟨w3, hw3⟩ : ∃ w3, w3 = w2.alloc (.cells #[.int .i64 0, .bool false, .int .u64 0, .string ⟨#[]⟩] 64) := ⟨_, rfl⟩
  have s1 : w1.heap.size = w.heap.size + 1 := by rw [hw1]; simp
  have s2 : w2.heap.size = w.heap.size + 1 + 1 := by rw [hw2]; simp [s1]
  have b1 : Below w.heap.size w w1 := by rw [hw1]; exact (Below.refl _ w).alloc (Nat.le_refl _) _
  have b2 : Below w1.heap.size w1 w2 := by rw [hw2]; exact (Below.refl _ w1).alloc (Nat.le_refl _) _
  have b3 : Below w2.heap.size w2 w3 := by rw [hw3]; exact (Below.refl _ w2).alloc (Nat.le_refl _) _
  have b13 : Below w.heap.size w w3 := (b1.trans (b2.mono (by omega))).trans (b3.mono (by omega))
  have k1 : CB w3 w.heap.size 43 #[.pointer (some ⟨x, 0, none⟩), .int .i64 (r : Nat)] := CB.below (CB.below (by rw [hw1]; exact CB.new w _ _) b2) b3
  have k2 : CB w3 (w.heap.size + 1) 62 #[.bool bl, .int .u64 (sz : Nat)] := CB.below (by rw [← s1, hw2]; exact CB.new w1 _ _) b3
  have k3 : CB w3 (w.heap.size + 1 + 1) 64 #[.int .i64 0, .bool false, .int .u64 0, .string ⟨#[]⟩] := by rw [← s2, hw3]; exact CB.new w2 _ _
  have c0 : w3.cell? ⟨w.heap.size, 0, none⟩ = some (.pointer (some ⟨x, 0, none⟩)) := k1.at_ 0
  have c1 : w3.cell? ⟨w.heap.size, 1, none⟩ = some (.int .i64 (r : Nat)) := k1.at_ 1
  have d0 : w3.cell? ⟨w.heap.size + 1, 0, none⟩ = some (.bool bl) := k2.at_ 0
  have d1 : w3.cell? ⟨w.heap.size + 1, 1, none⟩ = some (.int .u64 (sz : Nat)) := k2.at_ 1
  have cg := give_any w3 x r 111
  rw [hw2, hw1] at hw3
  have hw4 := hw3.symm
  clear hw3 hw2 hw1 b1 b2 b3 s1 s2 w2 w1
  cases hi : inR v with
  | true =>
    obtain ⟨rfl, rfl⟩ := h hi
    have he : endO r (if true = true then .ok (.num v) else .error 111) = .returned (.agg #[.int .i64 1, .bool (decide (v < 0)), .int .u64 (v.natAbs : Nat), .string ⟨#[]⟩]) := rfl
    rw [he]
    obtain ⟨bl, hbl⟩ : ∃ bl, decide (v < 0) = bl := ⟨_, rfl⟩
    obtain ⟨sz, hsz⟩ : ∃ sz, v.natAbs = sz := ⟨_, rfl⟩
    rw [hbl] at d0 hw4 ⊢
    rw [hsz] at d1 hw4 ⊢
    clear k1 k2 cg h hi he hbl hsz
    go_enter Tryd.func71, Tryd.ntmps71
    go_wp2_with (refine wpList_store_cb rfl 64 (.tmp 6) (.tmp 12) rfl (w.heap.size + 1 + 1) _ #[.int .i64 1, .bool bl, .int .u64 (sz : Nat), .string ⟨#[]⟩] rfl rfl k3 rfl (by kernel_rfl) (by kernel_rfl) ?_; intro w9 h9 t9)
    exact bodyPost_ret (results_cb rfl _ _ _ _ rfl h9 Tryd.underlying64 rfl (by kernel_rfl)) rfl ⟨rfl, b13.trans (t9.below (by omega))⟩
  | false =>
    have he : endO r (if false = true then .ok (.num v) else .error 111) = .panicked [faultV r 111] := rfl
    rw [he]
    clear k1 k2 k3 h hi he
    go_enter Tryd.func71, Tryd.ntmps71
    go_wp2_with (go_at_call 32; refine cg.mono ?_; rintro q w4 ⟨rfl, hb4⟩)
    exact ⟨rfl, rfl, b13.trans (hb4.mono b13.size)⟩
end Go.Proofs.YtmbiompmhaiehaaDoor
