/- The walk of the reference's text. -/
import Derived.Test.YtijgcfnjbfaelaaDoorConvNum
namespace Go.Proofs.YtijgcfnjbfaelaaDoor
open Go.RowKit

section
variable (w : World) (s : ByteArray)
set_option maxRecDepth 100000 in
set_option maxHeartbeats 1000000 in
theorem rtext5 (hs : s.size ≤ 140737488355328) : Calls Tryd.prog 33 #[.int .i64 5, .string s] w (CapAt 5 ⟨4, 0, s⟩ w) := by
  have ct : ∀ W, Calls Tryd.prog 18 #[.int .i64 5] W fun e w' => e = .returned (.int .i64 1) ∧ Below W.heap.size W w' := fun W => rto_any W 5
  have h0 := VBlk.new w v0
  have hB0 : Below w.heap.size w (w.alloc (.cells (vaC v0) 24)) := (Below.refl _ _).alloc (Nat.le_refl _) _
  obtain ⟨N, hN⟩ : ∃ N, rdN 18446744073709551615 (ls s) = N := ⟨_, rfl⟩
  obtain ⟨E, hE⟩ : ∃ E, rdE 18446744073709551615 (ls s) = E := ⟨_, rfl⟩
  have cr : ∀ W, Calls Tryd.prog 57 #[.string s, .int .u64 18446744073709551615] W fun e w' => e = .returned (.tuple #[.int .u64 (N : Nat), .int .i64 E]) ∧ Below W.heap.size W w' := fun W => by rw [← hN, ← hE]; exact rread_any W s 18446744073709551615 (by omega) (by decide) (by decide)
  have hc5 := cap5 ⟨4, 0, s⟩
  dsimp only at hc5
  rw [hE, hN] at hc5
  by_cases g : E = 0
  · subst g
    have HC : Hid (cap 5 ⟨4, 0, s⟩ = (0, ⟨1, (N : Int), ⟨#[]⟩⟩)) := hc5
    clear hc5 hN hE
    go_enter Tryd.func33, Tryd.ntmps33
    go_wp2_with (first
      | (go_at_call 18; refine (ct _).mono ?_; rintro e w1 ⟨rfl, hb⟩; have h1 := (h0.below hb).new_ (.cells (vaC ⟨1, 0, ⟨#[]⟩⟩) 24); have hv1 := VBlk.new w1 ⟨1, 0, ⟨#[]⟩⟩; have hlt : w.heap.size < w1.heap.size := (by have := hb.size; simp at this; omega); have hne : w.heap.size ≠ w1.heap.size := (by omega); have hB1 := (hB0.trans (hb.mono hB0.size)).alloc (Nat.le_of_lt hlt) (.cells (vaC ⟨1, 0, ⟨#[]⟩⟩) 24))
      | (go_at_call 57; refine (cr _).mono ?_; rintro e w3 ⟨rfl, hb3⟩; have h3 := h1.below hb3; have hv3 := hv1.below hb3; have hB3 := hB1.trans (hb3.mono hB1.size))
      | (refine wpList_store_valN rfl (.tmp 21) (.tmp 19) rfl w1.heap.size ⟨1, 0, ⟨#[]⟩⟩ (N : Int) rfl rfl hv3 ?_; intro w4 hv4 t4; have h4 := h3.keep (t4.others _ hne); have hB4 := hB3.trans (t4.below (Nat.le_of_lt hlt)))
      | (refine wpList_load_val rfl (.tmp 6) rfl w1.heap.size ⟨1, (N : Int), ⟨#[]⟩⟩ rfl hv4 ?_)
      | (refine wpList_store_val rfl (.tmp 4) (.tmp 59) rfl w.heap.size v0 ⟨1, (N : Int), ⟨#[]⟩⟩ rfl rfl h4 ?_; intro w9 h9 t9))
    exact bodyPost_ret (v := .tuple #[.agg (vaC ⟨1, (N : Int), ⟨#[]⟩⟩), .int .i64 0]) (results_val rfl _ _ _ _ _ rfl rfl h9) rfl (cap_at HC.out (hB4.trans (t9.below (Nat.le_refl _))))
  · have HC : Hid (cap 5 ⟨4, 0, s⟩ = (E, v0)) := by rw [if_neg g] at hc5; exact hc5
    have gb : (E != 0) = true := by simpa using g
    clear hc5 hN hE g
    go_enter Tryd.func33, Tryd.ntmps33
    go_wp2_with (first
      | (go_at_call 18; refine (ct _).mono ?_; rintro e w1 ⟨rfl, hb⟩; have h1 := (h0.below hb).new_ (.cells (vaC ⟨1, 0, ⟨#[]⟩⟩) 24); have hv1 := VBlk.new w1 ⟨1, 0, ⟨#[]⟩⟩; have hlt : w.heap.size < w1.heap.size := (by have := hb.size; simp at this; omega); have hne : w.heap.size ≠ w1.heap.size := (by omega); have hB1 := (hB0.trans (hb.mono hB0.size)).alloc (Nat.le_of_lt hlt) (.cells (vaC ⟨1, 0, ⟨#[]⟩⟩) 24))
      | (go_at_call 57; refine (cr _).mono ?_; rintro e w3 ⟨rfl, hb3⟩; have h3 := h1.below hb3; have hv3 := hv1.below hb3; have hB3 := hB1.trans (hb3.mono hB1.size))
      | (refine wpList_store_valN rfl (.tmp 21) (.tmp 19) rfl w1.heap.size ⟨1, 0, ⟨#[]⟩⟩ (N : Int) rfl rfl hv3 ?_; intro w4 hv4 t4; have h4 := h3.keep (t4.others _ hne); have hB4 := hB3.trans (t4.below (Nat.le_of_lt hlt)))
      | (refine wpList_store_val rfl (.tmp 4) (.tmp 57) rfl w.heap.size v0 v0 rfl rfl h4 ?_; intro w9 h9 t9))
    exact bodyPost_ret (v := .tuple #[.agg (vaC v0), .int .i64 E]) (results_val rfl _ _ _ _ _ rfl rfl h9) rfl (cap_at HC.out (hB4.trans (t9.below (Nat.le_refl _))))

set_option maxRecDepth 100000 in
set_option maxHeartbeats 1000000 in
theorem rtext11 (_hs : s.size ≤ 140737488355328) : Calls Tryd.prog 33 #[.int .i64 11, .string s] w (CapAt 11 ⟨4, 0, s⟩ w) := by
  have ct : ∀ W, Calls Tryd.prog 18 #[.int .i64 11] W fun e w' => e = .returned (.int .i64 5) ∧ Below W.heap.size W w' := fun W => rto_any W 11
  have h0 := VBlk.new w v0
  have hB0 : Below w.heap.size w (w.alloc (.cells (vaC v0) 24)) := (Below.refl _ _).alloc (Nat.le_refl _) _
  have HC := Lib.hid (cap11 ⟨4, 0, s⟩)
  go_enter Tryd.func33, Tryd.ntmps33
  go_wp2_with (first
    | (go_at_call 18; refine (ct _).mono ?_; rintro e w1 ⟨rfl, hb⟩; have h1 := (h0.below hb).new_ (.cells (vaC ⟨5, 0, ⟨#[]⟩⟩) 24); have hv1 := VBlk.new w1 ⟨5, 0, ⟨#[]⟩⟩; have hlt : w.heap.size < w1.heap.size := (by have := hb.size; simp at this; omega); have hne : w.heap.size ≠ w1.heap.size := (by omega); have hB1 := (hB0.trans (hb.mono hB0.size)).alloc (Nat.le_of_lt hlt) (.cells (vaC ⟨5, 0, ⟨#[]⟩⟩) 24))
    | (refine wpList_store_valS rfl (.tmp 13) (.tmp 12) rfl w1.heap.size ⟨5, 0, ⟨#[]⟩⟩ s rfl rfl hv1 ?_; intro w4 hv4 t4; have h4 := h1.keep (t4.others _ hne); have hB4 := hB1.trans (t4.below (Nat.le_of_lt hlt)))
    | (refine wpList_load_val rfl (.tmp 6) rfl w1.heap.size ⟨5, 0, s⟩ rfl hv4 ?_)
    | (refine wpList_store_val rfl (.tmp 4) (.tmp 59) rfl w.heap.size v0 ⟨5, 0, s⟩ rfl rfl h4 ?_; intro w9 h9 t9))
  exact bodyPost_ret (v := .tuple #[.agg (vaC ⟨5, 0, s⟩), .int .i64 0]) (results_val rfl _ _ _ _ _ rfl rfl h9) rfl (cap_at HC.out (hB4.trans (t9.below (Nat.le_refl _))))

set_option maxRecDepth 100000 in
set_option maxHeartbeats 1000000 in
theorem rtext8 (_hs : s.size ≤ 140737488355328) : Calls Tryd.prog 33 #[.int .i64 8, .string s] w (CapAt 8 ⟨4, 0, s⟩ w) := by
  have ct : ∀ W, Calls Tryd.prog 18 #[.int .i64 8] W fun e w' => e = .returned (.int .i64 3) ∧ Below W.heap.size W w' := fun W => rto_any W 8
  have h0 := VBlk.new w v0
  have hB0 : Below w.heap.size w (w.alloc (.cells (vaC v0) 24)) := (Below.refl _ _).alloc (Nat.le_refl _) _
  have hc8 := cap8 ⟨4, 0, s⟩
  dsimp only at hc8
  have hl : s.toList = ls s := Lib.toList_data s
  by_cases g : ls s = bTrue
  · have HC : Hid (cap 8 ⟨4, 0, s⟩ = (0, ⟨3, 1, ⟨#[]⟩⟩)) := by rw [if_pos g] at hc8; exact hc8
    have g1 : (s.toList == [116, 114, 117, 101]) = true := by rw [hl, g]; rfl
    clear hc8 g hl
    go_enter Tryd.func33, Tryd.ntmps33
    go_wp2_with (first
      | (go_at_call 18; refine (ct _).mono ?_; rintro e w1 ⟨rfl, hb⟩; have h1 := (h0.below hb).new_ (.cells (vaC ⟨3, 0, ⟨#[]⟩⟩) 24); have hv1 := VBlk.new w1 ⟨3, 0, ⟨#[]⟩⟩; have hlt : w.heap.size < w1.heap.size := (by have := hb.size; simp at this; omega); have hne : w.heap.size ≠ w1.heap.size := (by omega); have hB1 := (hB0.trans (hb.mono hB0.size)).alloc (Nat.le_of_lt hlt) (.cells (vaC ⟨3, 0, ⟨#[]⟩⟩) 24))
      | (refine wpList_store_valN rfl (.tmp 52) (.const (.int .u64 1)) rfl w1.heap.size ⟨3, 0, ⟨#[]⟩⟩ 1 rfl rfl hv1 ?_; intro w4 hv4 t4; have h4 := h1.keep (t4.others _ hne); have hB4 := hB1.trans (t4.below (Nat.le_of_lt hlt)))
      | (refine wpList_load_val rfl (.tmp 6) rfl w1.heap.size ⟨3, 1, ⟨#[]⟩⟩ rfl hv4 ?_)
      | (refine wpList_store_val rfl (.tmp 4) (.tmp 59) rfl w.heap.size v0 ⟨3, 1, ⟨#[]⟩⟩ rfl rfl h4 ?_; intro w9 h9 t9))
    exact bodyPost_ret (v := .tuple #[.agg (vaC ⟨3, 1, ⟨#[]⟩⟩), .int .i64 0]) (results_val rfl _ _ _ _ _ rfl rfl h9) rfl (cap_at HC.out (hB4.trans (t9.below (Nat.le_refl _))))
  · have g1 : (s.toList == [116, 114, 117, 101]) = false := by rw [hl]; exact beq_eq_false_iff_ne.2 g
    rw [if_neg g] at hc8
    by_cases g' : ls s = bFalse
    · have HC : Hid (cap 8 ⟨4, 0, s⟩ = (0, ⟨3, 0, ⟨#[]⟩⟩)) := by rw [if_pos g'] at hc8; exact hc8
      have g2 : (s.toList == [102, 97, 108, 115, 101]) = true := by rw [hl, g']; rfl
      have g3 : (s.toList != [102, 97, 108, 115, 101]) = false := by rw [bne, g2]; rfl
      clear hc8 g g' hl
      go_enter Tryd.func33, Tryd.ntmps33
      go_wp2_with (first
        | (go_at_call 18; refine (ct _).mono ?_; rintro e w1 ⟨rfl, hb⟩; have h1 := (h0.below hb).new_ (.cells (vaC ⟨3, 0, ⟨#[]⟩⟩) 24); have hv1 := VBlk.new w1 ⟨3, 0, ⟨#[]⟩⟩; have hlt : w.heap.size < w1.heap.size := (by have := hb.size; simp at this; omega); have hne : w.heap.size ≠ w1.heap.size := (by omega); have hB1 := (hB0.trans (hb.mono hB0.size)).alloc (Nat.le_of_lt hlt) (.cells (vaC ⟨3, 0, ⟨#[]⟩⟩) 24))
        | (refine wpList_load_val rfl (.tmp 6) rfl w1.heap.size ⟨3, 0, ⟨#[]⟩⟩ rfl hv1 ?_)
        | (refine wpList_store_val rfl (.tmp 4) (.tmp 59) rfl w.heap.size v0 ⟨3, 0, ⟨#[]⟩⟩ rfl rfl h1 ?_; intro w9 h9 t9))
      exact bodyPost_ret (v := .tuple #[.agg (vaC ⟨3, 0, ⟨#[]⟩⟩), .int .i64 0]) (results_val rfl _ _ _ _ _ rfl rfl h9) rfl (cap_at HC.out (hB1.trans (t9.below (Nat.le_refl _))))
    · have HC : Hid (cap 8 ⟨4, 0, s⟩ = (63, v0)) := by rw [if_neg g'] at hc8; exact hc8
      have g2 : (s.toList == [102, 97, 108, 115, 101]) = false := by rw [hl]; exact beq_eq_false_iff_ne.2 g'
      have g3 : (s.toList != [102, 97, 108, 115, 101]) = true := by rw [bne, g2]; rfl
      clear hc8 g g' hl
      go_enter Tryd.func33, Tryd.ntmps33
      go_wp2_with (first
        | (go_at_call 18; refine (ct _).mono ?_; rintro e w1 ⟨rfl, hb⟩; have h1 := (h0.below hb).new_ (.cells (vaC ⟨3, 0, ⟨#[]⟩⟩) 24); have hv1 := VBlk.new w1 ⟨3, 0, ⟨#[]⟩⟩; have hlt : w.heap.size < w1.heap.size := (by have := hb.size; simp at this; omega); have hne : w.heap.size ≠ w1.heap.size := (by omega); have hB1 := (hB0.trans (hb.mono hB0.size)).alloc (Nat.le_of_lt hlt) (.cells (vaC ⟨3, 0, ⟨#[]⟩⟩) 24))
        | (refine wpList_store_val rfl (.tmp 4) (.tmp 57) rfl w.heap.size v0 v0 rfl rfl h1 ?_; intro w9 h9 t9))
      exact bodyPost_ret (v := .tuple #[.agg (vaC v0), .int .i64 63]) (results_val rfl _ _ _ _ _ rfl rfl h9) rfl (cap_at HC.out (hB1.trans (t9.below (Nat.le_refl _))))

set_option maxRecDepth 100000 in
set_option maxHeartbeats 1000000 in
theorem rtext6 (hs : s.size ≤ 140737488355328) : Calls Tryd.prog 33 #[.int .i64 6, .string s] w (CapAt 6 ⟨4, 0, s⟩ w) := by
  have ct : ∀ W, Calls Tryd.prog 18 #[.int .i64 6] W fun e w' => e = .returned (.int .i64 2) ∧ Below W.heap.size W w' := fun W => rto_any W 6
  have h0 := VBlk.new w v0
  have hB0 : Below w.heap.size w (w.alloc (.cells (vaC v0) 24)) := (Below.refl _ _).alloc (Nat.le_refl _) _
  have hc6 := cap6 ⟨4, 0, s⟩
  dsimp only at hc6
  by_cases hm : ∃ t, ls s = 45 :: t
  · obtain ⟨t, ht⟩ := hm
    have hz : 0 < s.size := by rw [← size_ls, ht]; simp
    have hzz : (0 : Int) < (s.size : Int) := by omega
    have hne1 : s.toList.isEmpty = false := by rw [Lib.toList_data]; show (ls s).isEmpty = false; rw [ht]; rfl
    obtain ⟨x, hx⟩ : ∃ x, s[0]'hz = x := ⟨_, rfl⟩
    have hx45 : x = 45 := by
      have e : (ls s)[0]? = some x := by
        rw [List.getElem?_eq_getElem (by rw [ht]; simp)]
        exact congrArg some hx
      rw [ht] at e
      simpa using e.symm
    subst hx45
    obtain ⟨S, hS⟩ : ∃ S, s.extract 1 s.size = S := ⟨_, rfl⟩
    have hls : ls S = t := by rw [← hS, ls_from, ht]; rfl
    have hsS : S.size ≤ 140737488355328 := by
      have h1 : (ls S).length = S.size := size_ls S
      have h2 : (ls s).length = s.size := size_ls s
      rw [hls] at h1; rw [ht] at h2; simp at h2; omega
    rw [ht, (ri_minus t).1, (ri_minus t).2, ← hls] at hc6
    obtain ⟨N, hN⟩ : ∃ N, rdN 9223372036854775808 (ls S) = N := ⟨_, rfl⟩
    obtain ⟨E, hE⟩ : ∃ E, rdE 9223372036854775808 (ls S) = E := ⟨_, rfl⟩
    have hNle : N ≤ 9223372036854775808 := by rcases rd_three 9223372036854775808 (ls S) with ⟨_, q⟩ | ⟨_, q⟩ | ⟨_, q⟩ <;> omega
    have cr : ∀ W, Calls Tryd.prog 57 #[.string S, .int .u64 9223372036854775808] W fun e w' => e = .returned (.tuple #[.int .u64 (N : Nat), .int .i64 E]) ∧ Below W.heap.size W w' := fun W => by rw [← hN, ← hE]; exact rread_any W S 9223372036854775808 hsS (by decide) (by decide)
    rw [hE, hN] at hc6
    obtain ⟨Z, hZ⟩ : ∃ Z : Nat, (18446744073709551616 - N) % 18446744073709551616 = Z := ⟨_, rfl⟩
    rw [hZ] at hc6
    have hwr : IntKind.u64.wrap (-(N : Int)) = (Z : Int) := by rw [IntKind.wrap_u64]; omega
    by_cases g : E = 0
    · subst g
      have HC : Hid (cap 6 ⟨4, 0, s⟩ = (0, ⟨2, (Z : Int), ⟨#[]⟩⟩)) := hc6
      clear hc6 hN hE hZ ht hls hNle
      go_enter Tryd.func33, Tryd.ntmps33
      go_wp2_with (first
        | (go_at_call 18; refine (ct _).mono ?_; rintro e w1 ⟨rfl, hb⟩; have h1 := (h0.below hb).new_ (.cells (vaC ⟨2, 0, ⟨#[]⟩⟩) 24); have hv1 := VBlk.new w1 ⟨2, 0, ⟨#[]⟩⟩; have hlt : w.heap.size < w1.heap.size := (by have := hb.size; simp at this; omega); have hne : w.heap.size ≠ w1.heap.size := (by omega); have hB1 := (hB0.trans (hb.mono hB0.size)).alloc (Nat.le_of_lt hlt) (.cells (vaC ⟨2, 0, ⟨#[]⟩⟩) 24))
        | (go_at_call 57; refine (cr _).mono ?_; rintro e w3 ⟨rfl, hb3⟩; have h3 := h1.below hb3; have hv3 := hv1.below hb3; have hB3 := hB1.trans (hb3.mono hB1.size))
        | (refine wpList_store_valN rfl (.tmp 37) (.tmp 35) rfl w1.heap.size ⟨2, 0, ⟨#[]⟩⟩ (N : Int) rfl rfl hv3 ?_; intro w4 hv4 t4; have h4 := h3.keep (t4.others _ hne); have hB4 := hB3.trans (t4.below (Nat.le_of_lt hlt)); obtain ⟨_, a1, _⟩ := hv4.cells)
        | (refine wpList_store_valN rfl (.tmp 41) (.tmp 40) rfl w1.heap.size ⟨2, (N : Int), ⟨#[]⟩⟩ (Z : Int) rfl rfl hv4 ?_; intro w5 hv5 t5; have h5 := h4.keep (t5.others _ hne); have hB5 := hB4.trans (t5.below (Nat.le_of_lt hlt)))
        | (refine wpList_load_val rfl (.tmp 6) rfl w1.heap.size ⟨2, (Z : Int), ⟨#[]⟩⟩ rfl hv5 ?_)
        | (refine wpList_store_val rfl (.tmp 4) (.tmp 59) rfl w.heap.size v0 ⟨2, (Z : Int), ⟨#[]⟩⟩ rfl rfl h5 ?_; intro w9 h9 t9))
      exact bodyPost_ret (v := .tuple #[.agg (vaC ⟨2, (Z : Int), ⟨#[]⟩⟩), .int .i64 0]) (results_val rfl _ _ _ _ _ rfl rfl h9) rfl (cap_at HC.out (hB5.trans (t9.below (Nat.le_refl _))))
    · have HC : Hid (cap 6 ⟨4, 0, s⟩ = (E, v0)) := by rw [if_neg g] at hc6; exact hc6
      have gb : (E != 0) = true := by simpa using g
      clear hc6 hN hE hZ ht hls hNle g
      go_enter Tryd.func33, Tryd.ntmps33
      go_wp2_with (first
        | (go_at_call 18; refine (ct _).mono ?_; rintro e w1 ⟨rfl, hb⟩; have h1 := (h0.below hb).new_ (.cells (vaC ⟨2, 0, ⟨#[]⟩⟩) 24); have hv1 := VBlk.new w1 ⟨2, 0, ⟨#[]⟩⟩; have hlt : w.heap.size < w1.heap.size := (by have := hb.size; simp at this; omega); have hne : w.heap.size ≠ w1.heap.size := (by omega); have hB1 := (hB0.trans (hb.mono hB0.size)).alloc (Nat.le_of_lt hlt) (.cells (vaC ⟨2, 0, ⟨#[]⟩⟩) 24))
        | (go_at_call 57; refine (cr _).mono ?_; rintro e w3 ⟨rfl, hb3⟩; have h3 := h1.below hb3; have hv3 := hv1.below hb3; have hB3 := hB1.trans (hb3.mono hB1.size))
        | (refine wpList_store_valN rfl (.tmp 37) (.tmp 35) rfl w1.heap.size ⟨2, 0, ⟨#[]⟩⟩ (N : Int) rfl rfl hv3 ?_; intro w4 hv4 t4; have h4 := h3.keep (t4.others _ hne); have hB4 := hB3.trans (t4.below (Nat.le_of_lt hlt)); obtain ⟨_, a1, _⟩ := hv4.cells)
        | (refine wpList_store_valN rfl (.tmp 41) (.tmp 40) rfl w1.heap.size ⟨2, (N : Int), ⟨#[]⟩⟩ (Z : Int) rfl rfl hv4 ?_; intro w5 hv5 t5; have h5 := h4.keep (t5.others _ hne); have hB5 := hB4.trans (t5.below (Nat.le_of_lt hlt)))
        | (refine wpList_store_val rfl (.tmp 4) (.tmp 57) rfl w.heap.size v0 v0 rfl rfl h5 ?_; intro w9 h9 t9))
      exact bodyPost_ret (v := .tuple #[.agg (vaC v0), .int .i64 E]) (results_val rfl _ _ _ _ _ rfl rfl h9) rfl (cap_at HC.out (hB5.trans (t9.below (Nat.le_refl _))))
  · have hpl := ri_plain (l := ls s) fun t e => hm ⟨t, e⟩
    rw [hpl.1, hpl.2] at hc6
    obtain ⟨N, hN⟩ : ∃ N, rdN 9223372036854775807 (ls s) = N := ⟨_, rfl⟩
    obtain ⟨E, hE⟩ : ∃ E, rdE 9223372036854775807 (ls s) = E := ⟨_, rfl⟩
    have cr : ∀ W, Calls Tryd.prog 57 #[.string s, .int .u64 9223372036854775807] W fun e w' => e = .returned (.tuple #[.int .u64 (N : Nat), .int .i64 E]) ∧ Below W.heap.size W w' := fun W => by rw [← hN, ← hE]; exact rread_any W s 9223372036854775807 (by omega) (by decide) (by decide)
    rw [hE, hN] at hc6
    have hq : s.toList.isEmpty = true ∨ (s.toList.isEmpty = false ∧ ∃ hz : 0 < s.size, (s[0]'hz) ≠ 45) := by
      by_cases hz : 0 < s.size
      · refine .inr ⟨?_, hz, fun e => ?_⟩
        · rw [Lib.toList_data, List.isEmpty_eq_false_iff]
          intro q
          have : (ls s).length = s.size := size_ls s
          rw [show ls s = [] from q] at this
          simp at this; omega
        · refine hm ⟨(ls s).tail, ?_⟩
          have hl : 0 < (ls s).length := by rw [size_ls]; exact hz
          have e2 : (ls s)[0] = 45 := e
          cases hc : ls s with
          | nil => rw [hc] at hl; simp at hl
          | cons y r => simp only [hc, List.getElem_cons_zero] at e2; rw [e2]; rfl
      · refine .inl ?_
        rw [Lib.toList_data, List.isEmpty_iff]
        exact List.eq_nil_of_length_eq_zero (by have : (ls s).length = s.size := size_ls s; show (ls s).length = 0; omega)
    clear hpl hm
    rcases hq with hq | ⟨hq, hz, hxn⟩
    · skip
      by_cases g : E = 0
      · subst g
        have HC : Hid (cap 6 ⟨4, 0, s⟩ = (0, ⟨2, (N : Int), ⟨#[]⟩⟩)) := hc6
        clear hc6 hN hE
        go_enter Tryd.func33, Tryd.ntmps33
        go_wp2_with (first
          | (go_at_call 18; refine (ct _).mono ?_; rintro e w1 ⟨rfl, hb⟩; have h1 := (h0.below hb).new_ (.cells (vaC ⟨2, 0, ⟨#[]⟩⟩) 24); have hv1 := VBlk.new w1 ⟨2, 0, ⟨#[]⟩⟩; have hlt : w.heap.size < w1.heap.size := (by have := hb.size; simp at this; omega); have hne : w.heap.size ≠ w1.heap.size := (by omega); have hB1 := (hB0.trans (hb.mono hB0.size)).alloc (Nat.le_of_lt hlt) (.cells (vaC ⟨2, 0, ⟨#[]⟩⟩) 24))
          | (go_at_call 57; refine (cr _).mono ?_; rintro e w3 ⟨rfl, hb3⟩; have h3 := h1.below hb3; have hv3 := hv1.below hb3; have hB3 := hB1.trans (hb3.mono hB1.size))
          | (refine wpList_store_valN rfl (.tmp 47) (.tmp 45) rfl w1.heap.size ⟨2, 0, ⟨#[]⟩⟩ (N : Int) rfl rfl hv3 ?_; intro w4 hv4 t4; have h4 := h3.keep (t4.others _ hne); have hB4 := hB3.trans (t4.below (Nat.le_of_lt hlt)))
          | (refine wpList_load_val rfl (.tmp 6) rfl w1.heap.size ⟨2, (N : Int), ⟨#[]⟩⟩ rfl hv4 ?_)
          | (refine wpList_store_val rfl (.tmp 4) (.tmp 59) rfl w.heap.size v0 ⟨2, (N : Int), ⟨#[]⟩⟩ rfl rfl h4 ?_; intro w9 h9 t9))
        exact bodyPost_ret (v := .tuple #[.agg (vaC ⟨2, (N : Int), ⟨#[]⟩⟩), .int .i64 0]) (results_val rfl _ _ _ _ _ rfl rfl h9) rfl (cap_at HC.out (hB4.trans (t9.below (Nat.le_refl _))))
      · have HC : Hid (cap 6 ⟨4, 0, s⟩ = (E, v0)) := by rw [if_neg g] at hc6; exact hc6
        have gb : (E != 0) = true := by simpa using g
        clear hc6 hN hE g
        go_enter Tryd.func33, Tryd.ntmps33
        go_wp2_with (first
          | (go_at_call 18; refine (ct _).mono ?_; rintro e w1 ⟨rfl, hb⟩; have h1 := (h0.below hb).new_ (.cells (vaC ⟨2, 0, ⟨#[]⟩⟩) 24); have hv1 := VBlk.new w1 ⟨2, 0, ⟨#[]⟩⟩; have hlt : w.heap.size < w1.heap.size := (by have := hb.size; simp at this; omega); have hne : w.heap.size ≠ w1.heap.size := (by omega); have hB1 := (hB0.trans (hb.mono hB0.size)).alloc (Nat.le_of_lt hlt) (.cells (vaC ⟨2, 0, ⟨#[]⟩⟩) 24))
          | (go_at_call 57; refine (cr _).mono ?_; rintro e w3 ⟨rfl, hb3⟩; have h3 := h1.below hb3; have hv3 := hv1.below hb3; have hB3 := hB1.trans (hb3.mono hB1.size))
          | (refine wpList_store_valN rfl (.tmp 47) (.tmp 45) rfl w1.heap.size ⟨2, 0, ⟨#[]⟩⟩ (N : Int) rfl rfl hv3 ?_; intro w4 hv4 t4; have h4 := h3.keep (t4.others _ hne); have hB4 := hB3.trans (t4.below (Nat.le_of_lt hlt)))
          | (refine wpList_store_val rfl (.tmp 4) (.tmp 57) rfl w.heap.size v0 v0 rfl rfl h4 ?_; intro w9 h9 t9))
        exact bodyPost_ret (v := .tuple #[.agg (vaC v0), .int .i64 E]) (results_val rfl _ _ _ _ _ rfl rfl h9) rfl (cap_at HC.out (hB4.trans (t9.below (Nat.le_refl _))))
    · skip
      obtain ⟨x, hx⟩ : ∃ x, s[0]'hz = x := ⟨_, rfl⟩
      have hzz : (0 : Int) < (s.size : Int) := by omega
      have hxi : ((x.toNat : Int) == 45) = false := by
        rw [beq_eq_false_iff_ne]
        intro q
        rw [hx] at hxn
        exact hxn (UInt8.toNat_inj.1 (by have : x.toNat = 45 := by omega
                                         rw [this]; rfl))
      by_cases g : E = 0
      · subst g
        have HC : Hid (cap 6 ⟨4, 0, s⟩ = (0, ⟨2, (N : Int), ⟨#[]⟩⟩)) := hc6
        clear hc6 hN hE
        go_enter Tryd.func33, Tryd.ntmps33
        go_wp2_with (first
          | (go_at_call 18; refine (ct _).mono ?_; rintro e w1 ⟨rfl, hb⟩; have h1 := (h0.below hb).new_ (.cells (vaC ⟨2, 0, ⟨#[]⟩⟩) 24); have hv1 := VBlk.new w1 ⟨2, 0, ⟨#[]⟩⟩; have hlt : w.heap.size < w1.heap.size := (by have := hb.size; simp at this; omega); have hne : w.heap.size ≠ w1.heap.size := (by omega); have hB1 := (hB0.trans (hb.mono hB0.size)).alloc (Nat.le_of_lt hlt) (.cells (vaC ⟨2, 0, ⟨#[]⟩⟩) 24))
          | (go_at_call 57; refine (cr _).mono ?_; rintro e w3 ⟨rfl, hb3⟩; have h3 := h1.below hb3; have hv3 := hv1.below hb3; have hB3 := hB1.trans (hb3.mono hB1.size))
          | (refine wpList_store_valN rfl (.tmp 47) (.tmp 45) rfl w1.heap.size ⟨2, 0, ⟨#[]⟩⟩ (N : Int) rfl rfl hv3 ?_; intro w4 hv4 t4; have h4 := h3.keep (t4.others _ hne); have hB4 := hB3.trans (t4.below (Nat.le_of_lt hlt)))
          | (refine wpList_load_val rfl (.tmp 6) rfl w1.heap.size ⟨2, (N : Int), ⟨#[]⟩⟩ rfl hv4 ?_)
          | (refine wpList_store_val rfl (.tmp 4) (.tmp 59) rfl w.heap.size v0 ⟨2, (N : Int), ⟨#[]⟩⟩ rfl rfl h4 ?_; intro w9 h9 t9))
        exact bodyPost_ret (v := .tuple #[.agg (vaC ⟨2, (N : Int), ⟨#[]⟩⟩), .int .i64 0]) (results_val rfl _ _ _ _ _ rfl rfl h9) rfl (cap_at HC.out (hB4.trans (t9.below (Nat.le_refl _))))
      · have HC : Hid (cap 6 ⟨4, 0, s⟩ = (E, v0)) := by rw [if_neg g] at hc6; exact hc6
        have gb : (E != 0) = true := by simpa using g
        clear hc6 hN hE g
        go_enter Tryd.func33, Tryd.ntmps33
        go_wp2_with (first
          | (go_at_call 18; refine (ct _).mono ?_; rintro e w1 ⟨rfl, hb⟩; have h1 := (h0.below hb).new_ (.cells (vaC ⟨2, 0, ⟨#[]⟩⟩) 24); have hv1 := VBlk.new w1 ⟨2, 0, ⟨#[]⟩⟩; have hlt : w.heap.size < w1.heap.size := (by have := hb.size; simp at this; omega); have hne : w.heap.size ≠ w1.heap.size := (by omega); have hB1 := (hB0.trans (hb.mono hB0.size)).alloc (Nat.le_of_lt hlt) (.cells (vaC ⟨2, 0, ⟨#[]⟩⟩) 24))
          | (go_at_call 57; refine (cr _).mono ?_; rintro e w3 ⟨rfl, hb3⟩; have h3 := h1.below hb3; have hv3 := hv1.below hb3; have hB3 := hB1.trans (hb3.mono hB1.size))
          | (refine wpList_store_valN rfl (.tmp 47) (.tmp 45) rfl w1.heap.size ⟨2, 0, ⟨#[]⟩⟩ (N : Int) rfl rfl hv3 ?_; intro w4 hv4 t4; have h4 := h3.keep (t4.others _ hne); have hB4 := hB3.trans (t4.below (Nat.le_of_lt hlt)))
          | (refine wpList_store_val rfl (.tmp 4) (.tmp 57) rfl w.heap.size v0 v0 rfl rfl h4 ?_; intro w9 h9 t9))
        exact bodyPost_ret (v := .tuple #[.agg (vaC v0), .int .i64 E]) (results_val rfl _ _ _ _ _ rfl rfl h9) rfl (cap_at HC.out (hB4.trans (t9.below (Nat.le_refl _))))

end
end Go.Proofs.YtijgcfnjbfaelaaDoor
