/- The walk of the reference's number. -/
import Derived.Test.YtijgcfnjbfaelaaDoorConvRead
import Derived.Test.YtijgcfnjbfaelaaDoorKindVal
namespace Go.Proofs.YtijgcfnjbfaelaaDoor
open Go.RowKit

/-- what the reference's Apply answers of a value of the right kind -/
def CapAt (n : Int) (v : Val) (w : World) (e : Ending) (w' : World) : Prop := e = .returned (.tuple #[.agg (vaC (cap n v).2), .int .i64 (cap n v).1]) ∧ Below w.heap.size w w'
theorem cap_at {n : Int} {v x : Val} {E : Int} {w w' : World} (h : cap n v = (E, x)) (hb : Below w.heap.size w w') : CapAt n v w (.returned (.tuple #[.agg (vaC x), .int .i64 E])) w' := by
  unfold CapAt; rw [h]; exact ⟨rfl, hb⟩
theorem size_dg {n : Nat} (h : n < 18446744073709551616) : (tx (dg n)).size ≤ 21 := by rw [size_tx]; exact dg_len64 h

section
variable (w : World) (v : Val)
set_option maxRecDepth 100000 in
set_option maxHeartbeats 1000000 in
theorem rnum1 (hf : Fit64 v) : Calls Tryd.prog 35 #[.int .i64 1, .int .u64 v.n] w (CapAt 1 v w) := by
  have ct : ∀ W, Calls Tryd.prog 18 #[.int .i64 1] W fun e w' => e = .returned (.int .i64 2) ∧ Below W.heap.size W w' := fun W => rto_any W 1
  have h0 := VBlk.new w v0
  have hB0 : Below w.heap.size w (w.alloc (.cells (vaC v0) 24)) := (Below.refl _ _).alloc (Nat.le_refl _) _
  obtain ⟨f1, f2⟩ := hf
  obtain ⟨m, hm⟩ : ∃ m : Nat, v.n = (m : Int) := Int.eq_ofNat_of_zero_le f1
  rw [hm] at f1 f2 ⊢
  obtain ⟨z, hz⟩ : ∃ z : Int, (m : Int) = z := ⟨_, rfl⟩
  rw [hz] at hm f1 f2 ⊢
  clear hz
  by_cases gz : 9223372036854775808 ≤ z
  · have HC := Lib.hid (show cap 1 v = (60, v0) by rw [cap1, if_pos (by omega)])
    clear hm
    go_enter Tryd.func35, Tryd.ntmps35
    go_wp2_with (first
      | (go_at_call 18; refine (ct _).mono ?_; rintro e w1 ⟨rfl, hb⟩; have h1 := h0.below hb; have hB1 := hB0.trans (hb.mono hB0.size))
      | (refine wpList_store_val rfl (.tmp 4) (.tmp 17) rfl w.heap.size v0 v0 rfl rfl (h1.new_ _) ?_; intro w2 h2 t2))
    exact bodyPost_ret (v := .tuple #[.agg (vaC v0), .int .i64 60]) (results_val rfl _ _ _ _ _ rfl rfl h2) rfl (cap_at HC.out ((hB1.alloc hB1.size _).trans (t2.below (Nat.le_refl _))))
  · have HC := Lib.hid (show cap 1 v = (0, ⟨2, z, ⟨#[]⟩⟩) by rw [cap1, if_neg (by omega), hm])
    clear hm
    go_enter Tryd.func35, Tryd.ntmps35
    go_wp2_with (first
      | (go_at_call 18; refine (ct _).mono ?_; rintro e w1 ⟨rfl, hb⟩; have h1 := h0.below hb; have hB1 := hB0.trans (hb.mono hB0.size))
      | (refine wpList_store_val rfl (.tmp 4) (.tmp 46) rfl w.heap.size v0 ⟨2, z, ⟨#[]⟩⟩ rfl rfl (h1.new_ _) ?_; intro w2 h2 t2))
    exact bodyPost_ret (v := .tuple #[.agg (vaC ⟨2, z, ⟨#[]⟩⟩), .int .i64 0]) (results_val rfl _ _ _ _ _ rfl rfl h2) rfl (cap_at HC.out ((hB1.alloc hB1.size _).trans (t2.below (Nat.le_refl _))))

set_option maxRecDepth 100000 in
set_option maxHeartbeats 1000000 in
theorem rnum2 (hf : Fit64 v) : Calls Tryd.prog 35 #[.int .i64 2, .int .u64 v.n] w (CapAt 2 v w) := by
  have ct : ∀ W, Calls Tryd.prog 18 #[.int .i64 2] W fun e w' => e = .returned (.int .i64 1) ∧ Below W.heap.size W w' := fun W => rto_any W 2
  have h0 := VBlk.new w v0
  have hB0 : Below w.heap.size w (w.alloc (.cells (vaC v0) 24)) := (Below.refl _ _).alloc (Nat.le_refl _) _
  obtain ⟨f1, f2⟩ := hf
  obtain ⟨m, hm⟩ : ∃ m : Nat, v.n = (m : Int) := Int.eq_ofNat_of_zero_le f1
  rw [hm] at f1 f2 ⊢
  obtain ⟨z, hz⟩ : ∃ z : Int, (m : Int) = z := ⟨_, rfl⟩
  rw [hz] at hm f1 f2 ⊢
  clear hz
  by_cases gz : 9223372036854775808 ≤ z
  · have HC := Lib.hid (show cap 2 v = (60, v0) by rw [cap2, if_pos (by omega)])
    clear hm
    go_enter Tryd.func35, Tryd.ntmps35
    go_wp2_with (first
      | (go_at_call 18; refine (ct _).mono ?_; rintro e w1 ⟨rfl, hb⟩; have h1 := h0.below hb; have hB1 := hB0.trans (hb.mono hB0.size))
      | (refine wpList_store_val rfl (.tmp 4) (.tmp 17) rfl w.heap.size v0 v0 rfl rfl (h1.new_ _) ?_; intro w2 h2 t2))
    exact bodyPost_ret (v := .tuple #[.agg (vaC v0), .int .i64 60]) (results_val rfl _ _ _ _ _ rfl rfl h2) rfl (cap_at HC.out ((hB1.alloc hB1.size _).trans (t2.below (Nat.le_refl _))))
  · have HC := Lib.hid (show cap 2 v = (0, ⟨1, z, ⟨#[]⟩⟩) by rw [cap2, if_neg (by omega), hm])
    clear hm
    go_enter Tryd.func35, Tryd.ntmps35
    go_wp2_with (first
      | (go_at_call 18; refine (ct _).mono ?_; rintro e w1 ⟨rfl, hb⟩; have h1 := h0.below hb; have hB1 := hB0.trans (hb.mono hB0.size))
      | (refine wpList_store_val rfl (.tmp 4) (.tmp 46) rfl w.heap.size v0 ⟨1, z, ⟨#[]⟩⟩ rfl rfl (h1.new_ _) ?_; intro w2 h2 t2))
    exact bodyPost_ret (v := .tuple #[.agg (vaC ⟨1, z, ⟨#[]⟩⟩), .int .i64 0]) (results_val rfl _ _ _ _ _ rfl rfl h2) rfl (cap_at HC.out ((hB1.alloc hB1.size _).trans (t2.below (Nat.le_refl _))))

set_option maxRecDepth 100000 in
set_option maxHeartbeats 1000000 in
theorem rnum9 (hf : Fit64 v) : Calls Tryd.prog 35 #[.int .i64 9, .int .u64 v.n] w (CapAt 9 v w) := by
  have ct : ∀ W, Calls Tryd.prog 18 #[.int .i64 9] W fun e w' => e = .returned (.int .i64 1) ∧ Below W.heap.size W w' := fun W => rto_any W 9
  have h0 := VBlk.new w v0
  have hB0 : Below w.heap.size w (w.alloc (.cells (vaC v0) 24)) := (Below.refl _ _).alloc (Nat.le_refl _) _
  obtain ⟨f1, f2⟩ := hf
  obtain ⟨m, hm⟩ : ∃ m : Nat, v.n = (m : Int) := Int.eq_ofNat_of_zero_le f1
  rw [hm] at f1 f2 ⊢
  have HC := Lib.hid (show cap 9 v = (0, ⟨1, (m : Int), ⟨#[]⟩⟩) by rw [cap9, hm])
  clear hm
  go_enter Tryd.func35, Tryd.ntmps35
  go_wp2_with (first
    | (go_at_call 18; refine (ct _).mono ?_; rintro e w1 ⟨rfl, hb⟩; have h1 := h0.below hb; have hB1 := hB0.trans (hb.mono hB0.size))
    | (refine wpList_store_val rfl (.tmp 4) (.tmp 46) rfl w.heap.size v0 ⟨1, (m : Int), ⟨#[]⟩⟩ rfl rfl (h1.new_ _) ?_; intro w2 h2 t2))
  exact bodyPost_ret (v := .tuple #[.agg (vaC ⟨1, (m : Int), ⟨#[]⟩⟩), .int .i64 0]) (results_val rfl _ _ _ _ _ rfl rfl h2) rfl (cap_at HC.out ((hB1.alloc hB1.size _).trans (t2.below (Nat.le_refl _))))

set_option maxRecDepth 100000 in
set_option maxHeartbeats 1000000 in
theorem rnum10 (hf : Fit64 v) : Calls Tryd.prog 35 #[.int .i64 10, .int .u64 v.n] w (CapAt 10 v w) := by
  have ct : ∀ W, Calls Tryd.prog 18 #[.int .i64 10] W fun e w' => e = .returned (.int .i64 3) ∧ Below W.heap.size W w' := fun W => rto_any W 10
  have h0 := VBlk.new w v0
  have hB0 : Below w.heap.size w (w.alloc (.cells (vaC v0) 24)) := (Below.refl _ _).alloc (Nat.le_refl _) _
  obtain ⟨f1, f2⟩ := hf
  obtain ⟨m, hm⟩ : ∃ m : Nat, v.n = (m : Int) := Int.eq_ofNat_of_zero_le f1
  rw [hm] at f1 f2 ⊢
  by_cases g : 1 < m
  · have gz : (1 : Int) < (m : Int) := by omega
    have HC := Lib.hid (show cap 10 v = (60, v0) by rw [cap10, if_pos (by omega)])
    clear hm
    go_enter Tryd.func35, Tryd.ntmps35
    go_wp2_with (first
      | (go_at_call 18; refine (ct _).mono ?_; rintro e w1 ⟨rfl, hb⟩; have h1 := h0.below hb; have hB1 := hB0.trans (hb.mono hB0.size))
      | (refine wpList_store_val rfl (.tmp 4) (.tmp 22) rfl w.heap.size v0 v0 rfl rfl (h1.new_ _) ?_; intro w2 h2 t2))
    exact bodyPost_ret (v := .tuple #[.agg (vaC v0), .int .i64 60]) (results_val rfl _ _ _ _ _ rfl rfl h2) rfl (cap_at HC.out ((hB1.alloc hB1.size _).trans (t2.below (Nat.le_refl _))))
  · have gz : ¬ (1 : Int) < (m : Int) := by omega
    have HC := Lib.hid (show cap 10 v = (0, ⟨3, (m : Int), ⟨#[]⟩⟩) by rw [cap10, if_neg (by omega), hm])
    clear hm
    go_enter Tryd.func35, Tryd.ntmps35
    go_wp2_with (first
      | (go_at_call 18; refine (ct _).mono ?_; rintro e w1 ⟨rfl, hb⟩; have h1 := h0.below hb; have hB1 := hB0.trans (hb.mono hB0.size))
      | (refine wpList_store_val rfl (.tmp 4) (.tmp 46) rfl w.heap.size v0 ⟨3, (m : Int), ⟨#[]⟩⟩ rfl rfl (h1.new_ _) ?_; intro w2 h2 t2))
    exact bodyPost_ret (v := .tuple #[.agg (vaC ⟨3, (m : Int), ⟨#[]⟩⟩), .int .i64 0]) (results_val rfl _ _ _ _ _ rfl rfl h2) rfl (cap_at HC.out ((hB1.alloc hB1.size _).trans (t2.below (Nat.le_refl _))))

set_option maxRecDepth 100000 in
set_option maxHeartbeats 1000000 in
theorem rnum7 (hf : Fit64 v) : Calls Tryd.prog 35 #[.int .i64 7, .int .u64 v.n] w (CapAt 7 v w) := by
  have ct : ∀ W, Calls Tryd.prog 18 #[.int .i64 7] W fun e w' => e = .returned (.int .i64 4) ∧ Below W.heap.size W w' := fun W => rto_any W 7
  have h0 := VBlk.new w v0
  have hB0 : Below w.heap.size w (w.alloc (.cells (vaC v0) 24)) := (Below.refl _ _).alloc (Nat.le_refl _) _
  obtain ⟨f1, f2⟩ := hf
  obtain ⟨m, hm⟩ : ∃ m : Nat, v.n = (m : Int) := Int.eq_ofNat_of_zero_le f1
  rw [hm] at f1 f2 ⊢
  by_cases g : m = 0
  · subst g
    have HC := Lib.hid (show cap 7 v = (0, ⟨4, 0, ⟨#[102, 97, 108, 115, 101]⟩⟩) by rw [cap7, hm]; rfl)
    clear hm
    go_enter Tryd.func35, Tryd.ntmps35
    go_wp2_with (first
      | (go_at_call 18; refine (ct _).mono ?_; rintro e w1 ⟨rfl, hb⟩; have h1 := h0.below hb; have hB1 := hB0.trans (hb.mono hB0.size))
      | (refine wpList_store_val rfl (.tmp 4) (.tmp 44) rfl w.heap.size v0 ⟨4, 0, ⟨#[102, 97, 108, 115, 101]⟩⟩ rfl rfl (h1.new_ _) ?_; intro w2 h2 t2))
    exact bodyPost_ret (v := .tuple #[.agg (vaC ⟨4, 0, ⟨#[102, 97, 108, 115, 101]⟩⟩), .int .i64 0]) (results_val rfl _ _ _ _ _ rfl rfl h2) rfl (cap_at HC.out ((hB1.alloc hB1.size _).trans (t2.below (Nat.le_refl _))))
  · have gz : ¬ (m : Int) = 0 := by omega
    have gb : ((m : Int) == 0) = false := by simpa using gz
    have HC := Lib.hid (show cap 7 v = (0, ⟨4, 0, ⟨#[116, 114, 117, 101]⟩⟩) by rw [cap7, hm, if_neg gz]; rfl)
    clear hm
    go_enter Tryd.func35, Tryd.ntmps35
    go_wp2_with (first
      | (go_at_call 18; refine (ct _).mono ?_; rintro e w1 ⟨rfl, hb⟩; have h1 := h0.below hb; have hB1 := hB0.trans (hb.mono hB0.size))
      | (refine wpList_store_val rfl (.tmp 4) (.tmp 45) rfl w.heap.size v0 ⟨4, 0, ⟨#[116, 114, 117, 101]⟩⟩ rfl rfl (h1.new_ _) ?_; intro w2 h2 t2))
    exact bodyPost_ret (v := .tuple #[.agg (vaC ⟨4, 0, ⟨#[116, 114, 117, 101]⟩⟩), .int .i64 0]) (results_val rfl _ _ _ _ _ rfl rfl h2) rfl (cap_at HC.out ((hB1.alloc hB1.size _).trans (t2.below (Nat.le_refl _))))

set_option maxRecDepth 100000 in
set_option maxHeartbeats 1000000 in
theorem rnum3 (hf : Fit64 v) : Calls Tryd.prog 35 #[.int .i64 3, .int .u64 v.n] w (CapAt 3 v w) := by
  have ct : ∀ W, Calls Tryd.prog 18 #[.int .i64 3] W fun e w' => e = .returned (.int .i64 4) ∧ Below W.heap.size W w' := fun W => rto_any W 3
  have h0 := VBlk.new w v0
  have hB0 : Below w.heap.size w (w.alloc (.cells (vaC v0) 24)) := (Below.refl _ _).alloc (Nat.le_refl _) _
  obtain ⟨f1, f2⟩ := hf
  obtain ⟨m, hm⟩ : ∃ m : Nat, v.n = (m : Int) := Int.eq_ofNat_of_zero_le f1
  rw [hm] at f1 f2 ⊢
  have hd : m < 18446744073709551616 := by omega
  have HC := Lib.hid (show cap 3 v = (0, ⟨4, 0, tx (dg m)⟩) by rw [cap3, hm, Int.toNat_natCast])
  clear hm
  go_enter Tryd.func35, Tryd.ntmps35
  go_wp2_with (first
    | (go_at_call 18; refine (ct _).mono ?_; rintro e w1 ⟨rfl, hb⟩; have h1 := h0.below hb; have hB1 := hB0.trans (hb.mono hB0.size))
    | (go_at_call 59; refine (rdigits_any _ m hd).mono ?_; rintro e w3 ⟨rfl, hb3⟩; have h3 := (h1.new_ _).below hb3; have hB3 := (hB1.alloc hB1.size _).trans (hb3.mono (by have := hB1.size; simp; omega)))
    | (refine wpList_store_val rfl (.tmp 4) (.tmp 27) rfl w.heap.size v0 ⟨4, 0, tx (dg m)⟩ rfl rfl h3 ?_; intro w2 h2 t2))
  exact bodyPost_ret (v := .tuple #[.agg (vaC ⟨4, 0, tx (dg m)⟩), .int .i64 0]) (results_val rfl _ _ _ _ _ rfl rfl h2) rfl (cap_at HC.out (hB3.trans (t2.below (Nat.le_refl _))))

set_option maxRecDepth 100000 in
set_option maxHeartbeats 1000000 in
theorem rnum4 (hf : Fit64 v) : Calls Tryd.prog 35 #[.int .i64 4, .int .u64 v.n] w (CapAt 4 v w) := by
  have ct : ∀ W, Calls Tryd.prog 18 #[.int .i64 4] W fun e w' => e = .returned (.int .i64 4) ∧ Below W.heap.size W w' := fun W => rto_any W 4
  have h0 := VBlk.new w v0
  have hB0 : Below w.heap.size w (w.alloc (.cells (vaC v0) 24)) := (Below.refl _ _).alloc (Nat.le_refl _) _
  obtain ⟨f1, f2⟩ := hf
  obtain ⟨m, hm⟩ : ∃ m : Nat, v.n = (m : Int) := Int.eq_ofNat_of_zero_le f1
  rw [hm] at f1 f2 ⊢
  by_cases g : 9223372036854775808 ≤ m
  · have gz : (9223372036854775808 : Int) ≤ (m : Int) := by omega
    obtain ⟨K, hK⟩ : ∃ K : Nat, (18446744073709551616 : Int) - (m : Int) = (K : Int) := ⟨18446744073709551616 - m, by omega⟩
    have hKn : 18446744073709551616 - m = K := by omega
    have hd : K < 18446744073709551616 := by omega
    have hwr : IntKind.u64.wrap (-(m : Int)) = (K : Int) := by rw [IntKind.wrap_u64]; omega
    obtain ⟨S, hS⟩ : ∃ S, tx (dg K) = S := ⟨_, rfl⟩
    have hno : ¬ 9223372036854775807 < 1 + S.size := by rw [← hS]; have := size_dg hd; omega
    have cdg : ∀ W, Calls Tryd.prog 59 #[.int .u64 (K : Int)] W fun e w' => e = .returned (.string S) ∧ Below W.heap.size W w' := fun W => by rw [← hS]; exact rdigits_any W K hd
    have HC := Lib.hid (show cap 4 v = (0, ⟨4, 0, ⟨#[45]⟩ ++ S⟩) by rw [cap4, hm, Int.toNat_natCast, ditx, if_pos g, hKn, ← hS]; exact congrArg _ (congrArg _ (ls_inj (by rw [ls_app, ls_tx, ls_tx]; rfl))))
    clear hm hK hKn hS
    go_enter Tryd.func35, Tryd.ntmps35
    go_wp2_with (first
      | (go_at_call 18; refine (ct _).mono ?_; rintro e w1 ⟨rfl, hb⟩; have h1 := h0.below hb; have hB1 := hB0.trans (hb.mono hB0.size))
      | (go_at_call 59; refine (cdg _).mono ?_; rintro e w3 ⟨rfl, hb3⟩; have h3 := (h1.new_ _).below hb3; have hB3 := (hB1.alloc hB1.size _).trans (hb3.mono (by have := hB1.size; simp; omega)))
      | (refine wpList_store_val rfl (.tmp 4) (.tmp 36) rfl w.heap.size v0 ⟨4, 0, ⟨#[45]⟩ ++ S⟩ rfl rfl h3 ?_; intro w2 h2 t2))
    exact bodyPost_ret (v := .tuple #[.agg (vaC ⟨4, 0, ⟨#[45]⟩ ++ S⟩), .int .i64 0]) (results_val rfl _ _ _ _ _ rfl rfl h2) rfl (cap_at HC.out (hB3.trans (t2.below (Nat.le_refl _))))
  · have gz0 : ¬ (9223372036854775808 : Int) ≤ (m : Int) := by omega
    have hd : m < 18446744073709551616 := by omega
    obtain ⟨S, hS⟩ : ∃ S, tx (dg m) = S := ⟨_, rfl⟩
    have hcap : cap 4 v = (0, ⟨4, 0, S⟩) := by rw [cap4, hm, Int.toNat_natCast, ditx, if_neg g, hS]
    have cdg0 : ∀ W, Calls Tryd.prog 59 #[.int .u64 (m : Int)] W fun e w' => e = .returned (.string S) ∧ Below W.heap.size W w' := fun W => by rw [← hS]; exact rdigits_any W m hd
    obtain ⟨z, hz⟩ : ∃ z : Int, (m : Int) = z := ⟨_, rfl⟩
    have gz : ¬ (9223372036854775808 : Int) ≤ z := by omega
    rw [hz] at f1 f2 ⊢
    have cdg : ∀ W, Calls Tryd.prog 59 #[.int .u64 z] W fun e w' => e = .returned (.string S) ∧ Below W.heap.size W w' := fun W => by rw [← hz]; exact cdg0 W
    have HC := Lib.hid (show cap 4 v = (0, ⟨4, 0, S⟩) by exact hcap)
    clear hm hS hz hcap cdg0 gz0 g hd
    go_enter Tryd.func35, Tryd.ntmps35
    go_wp2_with (first
      | (go_at_call 18; refine (ct _).mono ?_; rintro e w1 ⟨rfl, hb⟩; have h1 := h0.below hb; have hB1 := hB0.trans (hb.mono hB0.size))
      | (go_at_call 59; refine (cdg _).mono ?_; rintro e w3 ⟨rfl, hb3⟩; have h3 := (h1.new_ _).below hb3; have hB3 := (hB1.alloc hB1.size _).trans (hb3.mono (by have := hB1.size; simp; omega)))
      | (refine wpList_store_val rfl (.tmp 4) (.tmp 39) rfl w.heap.size v0 ⟨4, 0, S⟩ rfl rfl h3 ?_; intro w2 h2 t2))
    exact bodyPost_ret (v := .tuple #[.agg (vaC ⟨4, 0, S⟩), .int .i64 0]) (results_val rfl _ _ _ _ _ rfl rfl h2) rfl (cap_at HC.out (hB3.trans (t2.below (Nat.le_refl _))))

end
end Go.Proofs.YtijgcfnjbfaelaaDoor
