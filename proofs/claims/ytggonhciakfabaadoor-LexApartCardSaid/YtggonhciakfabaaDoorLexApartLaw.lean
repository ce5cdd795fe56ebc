/- The walk of LexApart. -/
import Derived.Test.YtggonhciakfabaaDoorLexSide
namespace Go.Proofs.YtggonhciakfabaaDoor
open Go.RowKit

theorem apart_step {s : ByteArray} {ts : List Tk} {i E : Nat} (h : lexL ((ls s).drop E) E = .ok (ts.drop i)) (hE : E ≤ s.size) :
    ∃ x, ts[i]? = some x ∧ i < ts.length ∧ E ≤ x.a ∧ x.a ≤ x.e ∧ x.e ≤ s.size ∧ skipS false (ls (s.extract E x.a)) = (s.extract E x.a).size ∧
      ((i + 1 = ts.length ∧ x = endTk s.size) ∨
        (i + 1 < ts.length ∧ x.k ≠ 0 ∧ lexL (ls (s.extract x.a x.e)) 0 = .ok [⟨x.k, x.t, x.n, 0, x.e - x.a⟩, endTk (x.e - x.a)] ∧ lexL ((ls s).drop x.e) x.e = .ok (ts.drop (i + 1)))) := by
  have hln : ((ls s).drop E).length = s.size - E := by rw [List.length_drop, ls_size]
  rcases lex_cases ((ls s).drop E) E with ⟨h1, h2⟩ | ⟨k, o, e, h1, h2, h3, h4⟩ | ⟨k, q, t, n, len, h1, h2, h3, h4, h5⟩
  · rw [h2] at h
    injection h with h
    obtain ⟨e1, e2, e3⟩ := drop_cons h.symm
    rw [hln, show E + (s.size - E) = s.size by omega] at e1
    refine ⟨_, e1, e3, hE, Nat.le_refl _, Nat.le_refl _, ?_, .inl ⟨?_, rfl⟩⟩
    · show skipS false (ls (s.extract E s.size)) = (s.extract E s.size).size
      rw [← ls_size (s.extract E s.size), ls_extract, List.take_of_length_le (by omega)]
      exact h1
    · have := congrArg List.length e2
      rw [List.length_drop] at this
      simp only [List.length_nil] at this
      omega
  · rw [h4] at h
    cases h
  · rw [h5] at h
    obtain ⟨ts', g1, g2⟩ := LR.push_ok h
    obtain ⟨e1, e2, e3⟩ := drop_cons g2
    obtain ⟨ts2, g3⟩ := lex_last _ _ _ (Nat.le_refl _) g1
    have hlen2 : 1 ≤ ts'.length := by rw [g3, List.length_append]; show 1 ≤ _ + 1; omega
    have hd := congrArg List.length e2
    rw [List.length_drop] at hd
    rw [List.drop_drop] at h4 g1
    rw [hln] at h2
    have hal := lex_alone h4
    refine ⟨_, e1, e3, ?_, ?_, ?_, ?_, .inr ⟨by omega, (tok_skip h4).2, ?_, ?_⟩⟩
    · show E ≤ E + k; omega
    · show E + k ≤ E + k + len; omega
    · show E + k + len ≤ s.size; omega
    · show skipS false (ls (s.extract E (E + k))) = (s.extract E (E + k)).size
      rw [← ls_size (s.extract E (E + k)), ls_extract, show E + k - E = k by omega, ← h1, skip_take, List.length_take]
      have := skipS_le false ((ls s).drop E)
      omega
    · show lexL (ls (s.extract (E + k) (E + k + len))) 0 = .ok [⟨q, t, n, 0, E + k + len - (E + k)⟩, endTk (E + k + len - (E + k))]
      rw [ls_extract, show E + k + len - (E + k) = len by omega]
      exact hal
    · show lexL ((ls s).drop (E + k + len)) (E + k + len) = .ok (ts.drop (i + 1))
      rw [e2, show E + k + len = E + (k + len) by omega]
      rw [show E + k + len = E + (k + len) by omega] at g1
      exact g1
set_option maxRecDepth 100000 in
set_option maxHeartbeats 8000000 in
theorem apart_any (C : LexSide) (w : World) (hEV : EV w) (s : ByteArray) : Calls Tryd.prog 6 #[.string s] w (YesX w) := by
  have cv := fun W h => llives_any C W h
  cases hR : lexS s with
  | bad p x =>
    have hp : p < s.size ∧ x ≠ 0 := by
      unfold lexS at hR
      split at hR
      · cases hR; omega
      · have := lex_err _ _ _ (Nat.le_refl _) hR
        rw [ls_size] at this
        omega
    have cl' : ∀ W : World, EV W → Calls Tryd.prog 12 #[.string s] W fun e w' => Below W.heap.size W w' ∧ e = .returned (.tuple #[.slice none 0 0, .int .i64 (p : Nat), .int .i64 (x : Nat)]) := fun W hW => (C.lex W s hW).mono fun e w' h => by
      rw [hR] at h
      exact h
    have hx : ((x : Int) != 0) = true := by simp; omega
    have h1 : (p : Int) < (s.size : Int) := by omega
    have h2 : (p : Int) ≤ (s.size : Int) := by omega
    have h3 : (0 : Int) ≤ (p : Int) := by omega
    clear C hR hp
    go_enter Tryd.func6, Tryd.ntmps6
    go_wp2_with (first
      | (go_at_call 10; refine (cv _ hEV).mono ?_; rintro e w1 ⟨rfl, hb1⟩)
      | (go_at_call 12; refine (cl' _ (hEV.below hb1)).mono ?_; rintro e w2 ⟨hb2, rfl⟩))
    go_ret
    exact ⟨rfl, Below.both hb1 hb2⟩
  | ok l =>
    obtain ⟨hlen, hs, hL⟩ := lexS_len hR
    have cl' : ∀ W : World, EV W → Calls Tryd.prog 12 #[.string s] W fun e w' => Below W.heap.size W w' ∧ ∃ A c, e = .returned (.tuple #[.slice A l.length c, .int .i64 0, .int .i64 0]) ∧ TRow w' w'.heap.size A l := fun W hW => (C.lex W s hW).mono fun e w' h => by
      rw [hR] at h
      exact h
    have HI : Hid (lexL ((ls s).drop 0) 0 = .ok (l.drop 0)) := by unfold Hid; rw [List.drop_zero, List.drop_zero]; exact hL
    have HC := Lib.hid (fun (W : World) (t : ByteArray) (h : EV W) => C.lex W t h)
    clear C hR hL
    go_enter Tryd.func6, Tryd.ntmps6
    go_wp2_with (first
      | (go_at_call 10; refine (cv _ hEV).mono ?_; rintro e w1 ⟨rfl, hb1⟩)
      | (go_at_call 12; refine (cl' _ (hEV.below hb1)).mono ?_; rintro e w2 ⟨hb2, A, c, rfl, ht⟩; have HT := Lib.hid ht; clear ht))
    go_loopw [6, 7] (fun v u wr => ∃ (i E : Nat), v = .int .i64 E ∧ u = .int .i64 i ∧ E ≤ s.size ∧ i ≤ l.length ∧ Hid (lexL ((ls s).drop E) E = .ok (l.drop i)) ∧ Below w2.heap.size w2 wr) (fun _ u _ => l.length - (intOf u).toNat)
    case atStart => exact ⟨0, 0, rfl, rfl, Nat.zero_le _, Nat.zero_le _, HI, Below.refl _ _⟩
    case round =>
      obtain ⟨i, E, rfl, rfl, hE, hi, HI, hbr⟩ := hrel
      obtain ⟨x, hx, hlt, hEa, hae, hes, hgap, hwhat⟩ := apart_step HI.out hE
      have hltz : (i : Int) < (l.length : Int) := by omega
      have i0 : (0 : Int) ≤ (i : Int) := by omega
      have htr := HT.out.below hbr
      obtain ⟨g, o, rfl, hg, a0, a1, a2, a3, a4⟩ := htr.at_ hx
      have n1 : ¬ (x.a : Int) < (E : Int) := by omega
      have n2 : ¬ (x.e : Int) < (x.a : Int) := by omega
      have n3 : ¬ (s.size : Int) < (x.e : Int) := by omega
      have n4 : (E : Int) ≤ (x.a : Int) := by omega
      have n5 : (x.a : Int) ≤ (s.size : Int) := by omega
      have n6 : (x.a : Int) ≤ (x.e : Int) := by omega
      have n7 : (x.e : Int) ≤ (s.size : Int) := by omega
      have cg := fun W : World => lgap_any W (s.extract E x.a) (by rw [ByteArray.size_extract]; omega)
      rw [hgap] at cg
      have cg' : ∀ W : World, Calls Tryd.prog 18 #[.string (s.extract E x.a)] W fun e w' => e = .returned (.bool true) ∧ W = w' := fun W => by simpa using cg W
      clear cg hgap
      obtain ⟨k, t, n, a, e⟩ := x
      dsimp only at *
      rcases hwhat with ⟨hlast, hend⟩ | ⟨hmore, hk0, halone, hnext⟩
      · simp only [endTk, Tk.mk.injEq] at hend
        obtain ⟨rfl, rfl, rfl, rfl, rfl⟩ := hend
        have hzl : ((i : Int) == (l.length : Int) - 1) = true := by simp; omega
        have hst : (str []).toList = [] := str_list []
        clear hlast HI HC
        go_wp2_with (first
          | (refine wpList_store_tok rfl (.tmp 8) (.tmp 55) rfl wr.heap.size tk0 ⟨0, [], 0, s.size, s.size⟩ rfl rfl (tkz wr) ?_; intro w9 h9 t9; obtain ⟨b0, b1, b2, b3, b4⟩ := h9.cells)
          | (go_at_call 18; refine (cg' _).mono ?_; rintro e w3 ⟨rfl, rfl⟩))
        go_ret
        exact ⟨rfl, (Below.both (Below.both hb1 hb2) hbr).trans ((below_alloc t9).mono (Nat.le_trans (Nat.le_trans hb1.size hb2.size) hbr.size))⟩
      · have hzl : ((i : Int) == (l.length : Int) - 1) = false := beq_eq_false_iff_ne.2 (by omega)
        have hkz : ((k : Int) == 0) = false := beq_eq_false_iff_ne.2 (by omega)
        have HI2 := Lib.hid hnext
        clear hnext HI
        by_cases h1000 : 1000 ≤ i
        · have hz1000 : (1000 : Int) ≤ (i : Int) := by omega
          clear HC halone
          go_wp2_with (first
            | (refine wpList_store_tok rfl (.tmp 8) (.tmp 55) rfl wr.heap.size tk0 ⟨k, t, n, a, e⟩ rfl rfl (tkz wr) ?_; intro w9 h9 t9; obtain ⟨b0, b1, b2, b3, b4⟩ := h9.cells)
            | (go_at_call 18; refine (cg' _).mono ?_; rintro e w3 ⟨rfl, rfl⟩))
          go_roundw
          case rel => exact ⟨i + 1, e, rfl, by go_num, hes, by omega, HI2, hbr.trans ((below_alloc t9).mono hbr.size)⟩
          case measure => simp [intOf]; omega
        · have hz1000 : ¬ (1000 : Int) ≤ (i : Int) := by omega
          have hae2 : lexS (s.extract a e) = .ok [⟨k, t, n, 0, e - a⟩, endTk (e - a)] := by
            unfold lexS
            rw [if_neg (by rw [ByteArray.size_extract]; omega)]
            exact halone
          have cO : ∀ W : World, EV W → Calls Tryd.prog 12 #[.string (s.extract a e)] W fun e w' => Below W.heap.size W w' ∧ ∃ g o c, e = .returned (.tuple #[.slice (some ⟨g, o, none⟩) 2 c, .int .i64 0, .int .i64 0]) ∧ w'.cell? ⟨g, o, none⟩ = some (.int .i64 (k : Nat)) ∧ w'.cell? ⟨g, o + 1, none⟩ = some (.string (str t)) ∧ w'.cell? ⟨g, o + 2, none⟩ = some (.int .u64 (n : Nat)) := fun W hW => (HC.out W _ hW).mono fun _ w' h => by
            rw [hae2] at h
            obtain ⟨hb, A, c, h, ht⟩ := h
            obtain ⟨g, o, rfl, hg, a0, a1, a2, a3, a4⟩ := ht.at_ (i := 0) (x := ⟨k, t, n, 0, e - a⟩) rfl
            rw [Nat.zero_mul, Nat.add_zero] at a0 a1 a2
            exact ⟨hb, g, o, c, h, a0, a1, a2⟩
          clear HC halone hae2
          go_wp2_with (first
            | (refine wpList_store_tok rfl (.tmp 8) (.tmp 55) rfl wr.heap.size tk0 ⟨k, t, n, a, e⟩ rfl rfl (tkz wr) ?_; intro w9 h9 t9; obtain ⟨b0, b1, b2, b3, b4⟩ := h9.cells)
            | (go_at_call 18; refine (cg' _).mono ?_; rintro e w3 ⟨rfl, rfl⟩)
            | (go_at_call 12; refine (cO _ ((((hEV.below hb1).below hb2).below hbr).below (below_alloc t9))).mono ?_; rintro _ w4 ⟨hb4, g', o', c', rfl, d0, d1, d2⟩; obtain ⟨f0, f1, f2, f3, f4⟩ := (h9.below hb4).cells))
          go_quiet (fail)
          go_wp2
          go_roundw
          case rel => exact ⟨i + 1, e, rfl, by go_num, hes, by omega, HI2, Below.thenN ((hbr.trans ((below_alloc t9).mono hbr.size)).trans (hb4.mono (Nat.le_trans hbr.size (below_alloc t9).size))) _⟩
          case measure => simp [intOf]; omega
end Go.Proofs.YtggonhciakfabaaDoor
