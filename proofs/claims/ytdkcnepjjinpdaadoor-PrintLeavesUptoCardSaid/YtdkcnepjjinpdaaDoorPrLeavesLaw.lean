/- The walk of PrintLeaves. -/
import Derived.Test.YtdkcnepjjinpdaaDoorPrAw
import Derived.Test.YtdkcnepjjinpdaaDoorPrLx
import Derived.Test.YtdkcnepjjinpdaaDoorParGd
namespace Go.Proofs.YtdkcnepjjinpdaaDoor
open Go.RowKit

theorem val_num (x : Nat) (a : Int) (h : x < 18446744073709551616) : valP [⟨1, 0, x, [], a⟩] = (Lib.decDigits x, 0) := by
  have hl := dec_len h
  have e : exprP [⟨1, 0, x, [], a⟩] = some ⟨0, 0, 1, Lib.decDigits x⟩ := by
    simp [exprP, pileP, pushP, arity, overP, bottom, deepest, aheadL, behL, inter]
  unfold valP
  rw [e]
  dsimp only
  rw [if_neg (by decide), if_neg (by omega)]
theorem val_text (t : List UInt8) (a : Int) : valP [⟨2, 0, 0, t, a⟩] = if 1048576 < (quoteL t).length then ([], 2) else (quoteL t, 0) := by
  have e : exprP [⟨2, 0, 0, t, a⟩] = some ⟨0, 0, 1, quoteL t⟩ := by
    simp [exprP, pileP, pushP, arity, overP, bottom, deepest, aheadL, behL, inter]
  unfold valP
  rw [e]
  dsimp only
  rw [if_neg (by decide)]
/-- no zero ahead of other digits -/
theorem dec_lead (u : Nat) : u ≠ 0 → ∃ c r, Lib.decDigits u = c :: r ∧ c.toNat ≠ 48 := by
  induction u using Nat.strongRecOn with
  | _ u ih =>
    intro h0
    by_cases h : u < 10
    · rw [Lib.decDigits_one h]
      refine ⟨_, _, rfl, ?_⟩
      simp only [UInt8.toNat_ofNat']
      omega
    · obtain ⟨c, r, e, hc⟩ := ih (u / 10) (by omega) (by omega)
      rw [Lib.decDigits, dif_neg h, e]
      exact ⟨c, _, rfl, hc⟩
theorem lex_num {x : Nat} (h : x < 18446744073709551616) : lexS (str (Lib.decDigits x)) = .ok [⟨2, [], x, 0, (Lib.decDigits x).length⟩, endTk (Lib.decDigits x).length] := by
  have hl := dec_len h
  have := lex_alone (tok_num h)
  rw [List.take_length] at this
  unfold lexS
  rw [str_size, if_neg (by omega), ls_str, this]
set_option maxRecDepth 100000 in
set_option maxHeartbeats 8000000 in
theorem leaves_any (W : World) (hEV : EV W) (hT : Ten W W.heap.size) (x : Nat) (hx : x < 18446744073709551616) (s : ByteArray) (hs : s.size ≤ 1048576) :
    Calls Tryd.prog 6 #[.int .u64 (x : Nat), .string s] W fun e w' => e = .returned (.bool true) ∧ Below W.heap.size W w' := by
  have ca := pawake_any W hT
  obtain ⟨a, ha⟩ : ∃ a, str (Lib.decDigits x) = a := ⟨_, rfl⟩
  have hal : a.size ≤ 20 := by rw [← ha, str_size]; exact dec_len hx
  obtain ⟨Q, hQ⟩ : ∃ Q, str (quoteL (ls s)) = Q := ⟨_, rfl⟩
  have hQs : Q.size = (quoteL (ls s)).length := by rw [← hQ, str_size]
  have hQm : Q.size ≤ 4194306 := by
    rw [hQs]
    have := (qbs_len (ls s)).2
    rw [ls_size] at this
    unfold quoteL
    simp only [List.length_cons, List.length_append, List.length_nil]
    omega
  have CV : Hid (∀ w1, Below W.heap.size W w1 → Calls Tryd.prog 9 #[.slice (some ⟨w1.heap.size, 0, none⟩) 1 1] (w1.alloc (.cells #[.int .i64 1, .int .i64 0, .int .u64 (x : Nat), .string ⟨#[]⟩, .int .i64 (-5)] 38)) fun e w2 => e = .returned (.tuple #[.string a, .int .i64 0]) ∧ Hid (Below W.heap.size W w2)) := by
    intro w1 hb
    have hr := rows_new (f := rnC) (s := 5) (fun _ => rfl) w1 #[.int .i64 1, .int .i64 0, .int .u64 (x : Nat), .string ⟨#[]⟩, .int .i64 (-5)] 38 [⟨1, 0, x, [], -5⟩] rfl
    have hb1 : Below W.heap.size W (w1.alloc (.cells #[.int .i64 1, .int .i64 0, .int .u64 (x : Nat), .string ⟨#[]⟩, .int .i64 (-5)] 38)) := hb.trans (((Below.refl _ w1).alloc (Nat.le_refl _) _).mono hb.size)
    refine (pvalue_any (c := 1) (hr.more (by simp)) ((hT.below hb1).more hb1.size) ⟨by show 1 ≤ 2932031007402; decide, fun y hy => ?_, fun y hy => ?_⟩).mono ?_
    · rw [List.mem_singleton] at hy; subst hy; show (0 : Int) ≤ 9223372036854775807; decide
    · rw [List.mem_singleton] at hy; subst hy; exact ⟨hx, by show 0 ≤ 9223372036854775807; decide⟩
    rintro e w2 ⟨rfl, hb2⟩
    rw [val_num x (-5) hx, ← ha]
    exact ⟨rfl, hb1.trans (hb2.mono hb1.size)⟩
  have CL : Hid (∀ w2, Below W.heap.size W w2 → Calls Tryd.prog 13 #[.string a] w2 fun e w3 => ∃ g o c, e = .returned (.tuple #[.slice (some ⟨g, o, none⟩) 2 c, .int .i64 0, .int .i64 0]) ∧ w3.cell? ⟨g, o, none⟩ = some (.int .i64 2) ∧ w3.cell? ⟨g, o + 2, none⟩ = some (.int .u64 (x : Nat)) ∧ Hid (Below W.heap.size W w3)) := by
    intro w2 hb
    have hE : EV w2 := hEV.below hb
    have := lex_any w2 a hE
    rw [← ha, lex_num hx] at this
    rw [← ha]
    refine this.mono ?_
    rintro e w3 ⟨hb3, A, c, rfl, ht⟩
    obtain ⟨g, o, rfl, _, c0, _, c2, _, _⟩ := ht.at_ (i := 0) rfl
    exact ⟨g, o, c, rfl, by simpa using c0, by simpa using c2, hb.trans (hb3.mono hb.size)⟩
  have CT : Hid (∀ w1, Below W.heap.size W w1 → Calls Tryd.prog 9 #[.slice (some ⟨w1.heap.size, 0, none⟩) 1 1] (w1.alloc (.cells #[.int .i64 2, .int .i64 0, .int .u64 0, .string s, .int .i64 0] 38)) fun e w2 => e = .returned (.tuple #[.string (if 1048576 < Q.size then ⟨#[]⟩ else Q), .int .i64 (if 1048576 < Q.size then 2 else 0)]) ∧ Hid (Below W.heap.size W w2)) := by
    intro w1 hb
    have hr := rows_new (f := rnC) (s := 5) (fun _ => rfl) w1 #[.int .i64 2, .int .i64 0, .int .u64 0, .string s, .int .i64 0] 38 [⟨2, 0, 0, ls s, 0⟩] (by simp [flatR, rnC, str_ls])
    have hb1 : Below W.heap.size W (w1.alloc (.cells #[.int .i64 2, .int .i64 0, .int .u64 0, .string s, .int .i64 0] 38)) := hb.trans (((Below.refl _ w1).alloc (Nat.le_refl _) _).mono hb.size)
    refine (pvalue_any (c := 1) (hr.more (by simp)) ((hT.below hb1).more hb1.size) ⟨by show 1 ≤ 2932031007402; decide, fun y hy => ?_, fun y hy => ?_⟩).mono ?_
    · rw [List.mem_singleton] at hy; subst hy; show (0 : Int) ≤ 9223372036854775807; decide
    · rw [List.mem_singleton] at hy; subst hy
      refine ⟨by show 0 < 18446744073709551616; decide, ?_⟩
      show (ls s).length ≤ _
      rw [ls_size]
      omega
    rintro e w2 ⟨rfl, hb2⟩
    rw [val_text, hQs, ← hQ]
    refine ⟨?_, hb1.trans (hb2.mono hb1.size)⟩
    by_cases hc : 1048576 < (quoteL (ls s)).length
    · simp only [if_pos hc]
      rfl
    · simp only [if_neg hc]
      rfl
  have CQ : Hid (∀ w1, Below W.heap.size W w1 → Calls Tryd.prog 14 #[.string s] w1 fun e w2 => e = .returned (.string Q) ∧ Hid (Below W.heap.size W w2)) := by
    intro w1 hb
    refine (quote_any w1 s (by omega)).mono ?_
    rintro e w2 ⟨rfl, hb2⟩
    rw [hQ]
    exact ⟨rfl, hb.trans (hb2.mono hb.size)⟩
  have LEAD : Hid (∀ (h1 : 1 < a.size), (a[0]'(by omega)).toNat ≠ 48) := by
    intro h1
    subst ha
    have hx0 : x ≠ 0 := by
      intro e
      subst e
      rw [Lib.decDigits_one (by decide)] at h1
      exact absurd h1 (by decide)
    obtain ⟨c, r, e, hc⟩ := dec_lead x hx0
    have hg : (str (Lib.decDigits x))[0]'(by omega) = c := by
      show (Lib.decDigits x).toArray[0]'_ = c
      simp [e]
    rw [hg]
    exact hc
  have hb0 := Lib.hid (Below.refl W.heap.size W)
  clear hT hEV hQs hQ ha
  by_cases h1 : 1 < a.size
  · have h1z : (1 : Int) < (a.size : Int) := by omega
    obtain ⟨c, hc⟩ : ∃ c, a[0]'(by omega) = c := ⟨_, rfl⟩
    have hne := LEAD.out h1
    rw [hc] at hne
    have hnez : ((c.toNat : Int) == 48) = false := by rw [beq_eq_false_iff_ne]; omega
    clear LEAD hne
    by_cases hq : 1048576 < Q.size
    · have hqz : (1048576 : Int) < (Q.size : Int) := by omega
      simp only [if_pos hq] at CT
      clear hq
      go_enter Tryd.func6, Tryd.ntmps6
      go_wp2_with (first
        | (go_at_call 8; refine ca.mono ?_; rintro e w1 ⟨rfl, hb1⟩; have cv := CV.out w1 hb1)
        | (go_at_call 9; (with_reducible refine cv.mono ?_); rintro e w2 ⟨rfl, H2⟩; have cl := CL.out w2 H2.out; clear cv)
        | (go_at_call 13; (with_reducible refine cl.mono ?_); rintro e w3 ⟨g, o, c, rfl, d0, d2, H3⟩; have ct := CT.out w3 H3.out)
        | (go_at_call 9; (with_reducible refine ct.mono ?_); rintro e w4 ⟨rfl, H4⟩; have cq := CQ.out w4 H4.out)
        | (go_at_call 14; (with_reducible refine cq.mono ?_); rintro e w5 ⟨rfl, H5⟩))
      go_ret
      exact ⟨rfl, H5.out⟩
    · have hqz : ¬ (1048576 : Int) < (Q.size : Int) := by omega
      simp only [if_neg hq] at CT
      clear hq
      go_enter Tryd.func6, Tryd.ntmps6
      go_wp2_with (first
        | (go_at_call 8; refine ca.mono ?_; rintro e w1 ⟨rfl, hb1⟩; have cv := CV.out w1 hb1)
        | (go_at_call 9; (with_reducible refine cv.mono ?_); rintro e w2 ⟨rfl, H2⟩; have cl := CL.out w2 H2.out; clear cv)
        | (go_at_call 13; (with_reducible refine cl.mono ?_); rintro e w3 ⟨g, o, c, rfl, d0, d2, H3⟩; have ct := CT.out w3 H3.out)
        | (go_at_call 9; (with_reducible refine ct.mono ?_); rintro e w4 ⟨rfl, H4⟩; have cq := CQ.out w4 H4.out)
        | (go_at_call 14; (with_reducible refine cq.mono ?_); rintro e w5 ⟨rfl, H5⟩; have cp := CQ.out w5 H5.out; clear cq)
        | (go_at_call 14; (with_reducible refine cp.mono ?_); rintro e w6 ⟨rfl, H6⟩))
      go_ret
      exact ⟨rfl, H6.out⟩
  · have h1z : ¬ (1 : Int) < (a.size : Int) := by omega
    clear LEAD
    by_cases hq : 1048576 < Q.size
    · have hqz : (1048576 : Int) < (Q.size : Int) := by omega
      simp only [if_pos hq] at CT
      clear hq
      go_enter Tryd.func6, Tryd.ntmps6
      go_wp2_with (first
        | (go_at_call 8; refine ca.mono ?_; rintro e w1 ⟨rfl, hb1⟩; have cv := CV.out w1 hb1)
        | (go_at_call 9; (with_reducible refine cv.mono ?_); rintro e w2 ⟨rfl, H2⟩; have cl := CL.out w2 H2.out; clear cv)
        | (go_at_call 13; (with_reducible refine cl.mono ?_); rintro e w3 ⟨g, o, c, rfl, d0, d2, H3⟩; have ct := CT.out w3 H3.out)
        | (go_at_call 9; (with_reducible refine ct.mono ?_); rintro e w4 ⟨rfl, H4⟩; have cq := CQ.out w4 H4.out)
        | (go_at_call 14; (with_reducible refine cq.mono ?_); rintro e w5 ⟨rfl, H5⟩))
      go_ret
      exact ⟨rfl, H5.out⟩
    · have hqz : ¬ (1048576 : Int) < (Q.size : Int) := by omega
      simp only [if_neg hq] at CT
      clear hq
      go_enter Tryd.func6, Tryd.ntmps6
      go_wp2_with (first
        | (go_at_call 8; refine ca.mono ?_; rintro e w1 ⟨rfl, hb1⟩; have cv := CV.out w1 hb1)
        | (go_at_call 9; (with_reducible refine cv.mono ?_); rintro e w2 ⟨rfl, H2⟩; have cl := CL.out w2 H2.out; clear cv)
        | (go_at_call 13; (with_reducible refine cl.mono ?_); rintro e w3 ⟨g, o, c, rfl, d0, d2, H3⟩; have ct := CT.out w3 H3.out)
        | (go_at_call 9; (with_reducible refine ct.mono ?_); rintro e w4 ⟨rfl, H4⟩; have cq := CQ.out w4 H4.out)
        | (go_at_call 14; (with_reducible refine cq.mono ?_); rintro e w5 ⟨rfl, H5⟩; have cp := CQ.out w5 H5.out; clear cq)
        | (go_at_call 14; (with_reducible refine cp.mono ?_); rintro e w6 ⟨rfl, H6⟩))
      go_ret
      exact ⟨rfl, H6.out⟩
end Go.Proofs.YtdkcnepjjinpdaaDoor
