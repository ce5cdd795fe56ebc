/- The walks of LexWords and of LexNames. -/
import Derived.Test.YtggonhciakfabaaDoorLexSide
import Derived.Test.YtggonhciakfabaaDoorLexRefM
import Derived.Test.YtggonhciakfabaaDoorLexRefQ
namespace Go.Proofs.YtggonhciakfabaaDoor
open Go.RowKit

set_option maxRecDepth 100000 in
set_option maxHeartbeats 2000000 in
theorem words_any (C : LexSide) (w : World) (hEV : EV w) (s : ByteArray) (hs0 : s.size ≤ 140737488351232) : Calls Tryd.prog 4 #[.string s] w (YesX w) := by
  have cv := fun W h => llives_any C W h
  have cn := fun W => C.name W s hs0
  have rn := fun W => rname_any W s
  obtain ⟨b, hb⟩ : ∃ b, nameL (ls s) = b := ⟨_, rfl⟩
  rw [hb] at cn rn
  by_cases hs : 4194304 < s.size
  · have hz : (4194304 : Int) < (s.size : Int) := by omega
    clear C hb
    go_enter Tryd.func4, Tryd.ntmps4
    go_wp2_with (first
      | (go_at_call 10; refine (cv _ hEV).mono ?_; rintro e w1 ⟨rfl, hb1⟩)
      | (go_at_call 14; refine (cn _).mono ?_; rintro e w2 ⟨rfl, hb2⟩)
      | (go_at_call 15; refine (rn _).mono ?_; rintro e w3 ⟨rfl, rfl⟩))
    go_ret
    exact ⟨rfl, Below.both hb1 hb2⟩
  · have hz : ¬ (4194304 : Int) < (s.size : Int) := by omega
    have cq := fun W => C.quote W s (by omega)
    have rq := fun W => rquote_any W s (by omega)
    obtain ⟨q, hq⟩ : ∃ q, str (quoteL (ls s)) = q := ⟨_, rfl⟩
    simp only [hq] at cq rq
    clear C hb hq
    go_enter Tryd.func4, Tryd.ntmps4
    go_wp2_with (first
      | (go_at_call 10; refine (cv _ hEV).mono ?_; rintro e w1 ⟨rfl, hb1⟩)
      | (go_at_call 14; refine (cn _).mono ?_; rintro e w2 ⟨rfl, hb2⟩)
      | (go_at_call 15; refine (rn _).mono ?_; rintro e w3 ⟨rfl, rfl⟩)
      | (go_at_call 16; refine (cq _).mono ?_; rintro e w4 ⟨rfl, hb4⟩)
      | (go_at_call 17; refine (rq _).mono ?_; rintro e w5 ⟨rfl, hb5⟩))
    go_ret
    exact ⟨rfl, Below.both (Below.both (Below.both hb1 hb2) hb4) hb5⟩

theorem name_lex {l : List UInt8} (h : nameL l = true) : lexL l 0 = .ok [⟨1, l, 0, 0, l.length⟩, endTk l.length] ∧ l.length ≤ 64 := by
  cases l with
  | nil => cases h
  | cons c r =>
    unfold nameL at h
    simp only [Bool.and_eq_true, decide_eq_true_eq] at h
    obtain ⟨⟨h1, h2⟩, h3⟩ := h
    have hw : (c :: r).takeWhile isW = c :: r := by
      have := tw_join (p := isW) (x := c :: r) (fun d hd => List.all_eq_true.1 h3 d hd) (Bd.nil _)
      rwa [List.append_nil] at this
    have hn : wordN (c :: r) = (c :: r).length := by unfold wordN; rw [hw]
    have hs := not_skip r (letter_skip h2).1 (letter_skip h2).2
    have ht : tokL (c :: r) = .tok 1 (c :: r) 0 (c :: r).length := by
      simp only [tokL]
      rw [if_pos h2, hn, if_neg (by omega), List.take_length]
    refine ⟨?_, h1⟩
    rw [lexL_tok (k := 1) (t := c :: r) (n := 0) (len := (c :: r).length) (by rw [hs]; simp) (by rw [hs]; exact ht), hs, Nat.zero_add, Nat.zero_add, List.drop_length, lexL_done rfl]
    rfl

/-- a text whose bytes are no name: what is read of it is not one name -/
theorem name_not {s : ByteArray} (h : nameL (ls s) = false) {l : List Tk} (hl : lexS s = .ok l) {x : Tk} (h0 : l[0]? = some x) (h2 : l.length = 2) (hk : x.k = 1) (ha : x.a = 0) (he : x.e = s.size) : False := by
  have hL := (lexS_len hl).2.2
  obtain ⟨ts, rfl⟩ := lex_last _ _ _ (Nat.le_refl _) hL
  rw [ls_size, Nat.zero_add] at hL h2 h0
  obtain ⟨y, rfl⟩ := List.length_eq_one_iff.1 (show ts.length = 1 by simpa using h2)
  obtain rfl : y = x := by simpa using h0
  obtain ⟨k, t, n, a, e⟩ := y
  dsimp only at hk ha he
  subst hk ha he
  have := (lex_name (ls s)).2 ⟨t, n, by rw [ls_size]; exact hL⟩
  rw [this] at h
  cases h

set_option maxRecDepth 100000 in
set_option maxHeartbeats 2000000 in
theorem names_any (C : LexSide) (w : World) (hEV : EV w) (s : ByteArray) (hs0 : s.size ≤ 140737488351232) : Calls Tryd.prog 8 #[.string s] w (YesX w) := by
  have cv := fun W h => llives_any C W h
  have cn := fun W => C.name W s hs0
  have cl := fun W hW => (C.lex W s hW).mono fun e w' h => LexAt.row h
  clear C
  by_cases hN : nameL (ls s) = true
  · obtain ⟨h1, h64⟩ := name_lex hN
    rw [ls_size] at h64
    have hS : lexS s = .ok [⟨1, ls s, 0, 0, s.size⟩, endTk s.size] := by
      unfold lexS
      rw [if_neg (by omega), h1, ls_size]
    simp only [hN] at cn
    rw [hS] at cl
    have hz : (s.size : Int) ≤ 64 := by omega
    have cl' : ∀ W : World, EV W → Calls Tryd.prog 12 #[.string s] W fun e w' => Below W.heap.size W w' ∧ ∃ g o c, e = .returned (.tuple #[.slice (some ⟨g, o, none⟩) 2 c, .int .i64 0, .int .i64 0]) ∧ w'.cell? ⟨g, o, none⟩ = some (.int .i64 1) ∧ w'.cell? ⟨g, o + 1, none⟩ = some (.string s) ∧ w'.cell? ⟨g, o + 3, none⟩ = some (.int .i64 0) ∧ w'.cell? ⟨g, o + 4, none⟩ = some (.int .i64 (s.size : Nat)) ∧ g < w'.heap.size := fun W hW => (cl W hW).mono fun e w' ⟨hb, A, c, h, ht⟩ => by
      obtain ⟨g, o, rfl, hg, a0, a1, a2, a3, a4⟩ := ht.at_ (i := 0) (x := ⟨1, ls s, 0, 0, s.size⟩) rfl
      rw [Nat.zero_mul, Nat.add_zero] at a0 a1 a3 a4
      exact ⟨hb, g, o, c, h, a0, by rw [a1, str_ls], a3, a4, hg⟩
    clear cl h1 h64 hS hN
    go_enter Tryd.func8, Tryd.ntmps8
    go_wp2_with (first
      | (go_at_call 10; refine (cv _ hEV).mono ?_; rintro e w1 ⟨rfl, hb1⟩)
      | (go_at_call 12; refine (cl' _ (hEV.below hb1)).mono ?_; rintro e w2 ⟨hb2, g, o, c, rfl, a0, a1, a3, a4, hg⟩)
      | (go_at_call 14; refine (cn _).mono ?_; rintro e w3 ⟨rfl, hb3⟩; have d1 := (hb3.cell (p := ⟨g, o + 1, none⟩) hg).trans a1))
    go_ret
    exact ⟨rfl, Below.both (Below.both hb1 hb2) hb3⟩
  · have hN : nameL (ls s) = false := by simpa using hN
    simp only [hN] at cn
    cases hR : lexS s with
    | bad p x =>
      rw [hR] at cl
      have hx : ((x : Int) == 0) = false := by
        refine beq_eq_false_iff_ne.2 ?_
        have : x ≠ 0 := by
          unfold lexS at hR
          split at hR
          · cases hR; decide
          · exact (lex_err _ _ _ (Nat.le_refl _) hR).1
        omega
      have cl' : ∀ W : World, EV W → Calls Tryd.prog 12 #[.string s] W fun e w' => Below W.heap.size W w' ∧ ∃ A c, e = .returned (.tuple #[.slice A 0 c, .int .i64 (p : Nat), .int .i64 (x : Nat)]) := fun W hW => (cl W hW).mono fun e w' ⟨hb, A, c, h, _⟩ => ⟨hb, A, c, h⟩
      clear cl hR hN
      go_enter Tryd.func8, Tryd.ntmps8
      go_wp2_with (first
        | (go_at_call 10; refine (cv _ hEV).mono ?_; rintro e w1 ⟨rfl, hb1⟩)
        | (go_at_call 12; refine (cl' _ (hEV.below hb1)).mono ?_; rintro e w2 ⟨hb2, A, c, rfl⟩)
        | (go_at_call 14; refine (cn _).mono ?_; rintro e w3 ⟨rfl, hb3⟩))
      go_ret
      exact ⟨rfl, Below.both (Below.both hb1 hb2) hb3⟩
    | ok l =>
      rw [hR] at cl
      change ∀ W, EV W → Calls _ _ _ _ fun e w' => _ ∧ ∃ A c, e = .returned (.tuple #[.slice A l.length c, .int .i64 0, .int .i64 0]) ∧ TRow _ _ A l at cl
      by_cases h2 : l.length = 2
      · obtain ⟨x, h0⟩ : ∃ x, l[0]? = some x := ⟨l[0], List.getElem?_eq_getElem (by omega)⟩
        have no := name_not hN hR h0 h2
        have cl' : ∀ W : World, EV W → Calls Tryd.prog 12 #[.string s] W fun e w' => Below W.heap.size W w' ∧ ∃ g o c, e = .returned (.tuple #[.slice (some ⟨g, o, none⟩) 2 c, .int .i64 0, .int .i64 0]) ∧ w'.cell? ⟨g, o, none⟩ = some (.int .i64 (x.k : Nat)) ∧ w'.cell? ⟨g, o + 3, none⟩ = some (.int .i64 (x.a : Nat)) ∧ w'.cell? ⟨g, o + 4, none⟩ = some (.int .i64 (x.e : Nat)) := fun W hW => (cl W hW).mono fun e w' ⟨hb, A, c, h, ht⟩ => by
          obtain ⟨g, o, rfl, hg, a0, a1, a2, a3, a4⟩ := ht.at_ h0
          rw [Nat.zero_mul, Nat.add_zero] at a0 a3 a4
          rw [h2] at h
          exact ⟨hb, g, o, c, h, a0, a3, a4⟩
        obtain ⟨k, t, n, a, e⟩ := x
        dsimp only at no cl'
        have cs : ((k : Int) == 1) = false ∨ ((k : Int) == 1) = true ∧ ((a : Int) == 0) = false ∨ ((k : Int) == 1) = true ∧ ((a : Int) == 0) = true ∧ ((e : Int) == (s.size : Int)) = false := by
          by_cases g1 : k = 1
          · by_cases g2 : a = 0
            · by_cases g3 : e = s.size
              · exact (no g1 g2 g3).elim
              · exact .inr (.inr ⟨by rw [g1]; rfl, by rw [g2]; rfl, beq_eq_false_iff_ne.2 (by omega)⟩)
            · exact .inr (.inl ⟨by rw [g1]; rfl, beq_eq_false_iff_ne.2 (by omega)⟩)
          · exact .inl (beq_eq_false_iff_ne.2 (by omega))
        clear cl hR hN no h0 h2
        rcases cs with b1 | ⟨b1, b2⟩ | ⟨b1, b2, b3⟩
        all_goals
          go_enter Tryd.func8, Tryd.ntmps8
          go_wp2_with (first
            | (go_at_call 10; refine (cv _ hEV).mono ?_; rintro e w1 ⟨rfl, hb1⟩)
            | (go_at_call 12; refine (cl' _ (hEV.below hb1)).mono ?_; rintro e w2 ⟨hb2, g, o, c, rfl, a0, a3, a4⟩)
            | (go_at_call 14; refine (cn _).mono ?_; rintro e w3 ⟨rfl, hb3⟩))
          go_ret
          exact ⟨rfl, Below.both (Below.both hb1 hb2) hb3⟩
      · have hz : ((l.length : Int) == 2) = false := beq_eq_false_iff_ne.2 (by omega)
        have cl' : ∀ W : World, EV W → Calls Tryd.prog 12 #[.string s] W fun e w' => Below W.heap.size W w' ∧ ∃ A c, e = .returned (.tuple #[.slice A l.length c, .int .i64 0, .int .i64 0]) := fun W hW => (cl W hW).mono fun e w' ⟨hb, A, c, h, _⟩ => ⟨hb, A, c, h⟩
        clear cl hR hN h2
        go_enter Tryd.func8, Tryd.ntmps8
        go_wp2_with (first
          | (go_at_call 10; refine (cv _ hEV).mono ?_; rintro e w1 ⟨rfl, hb1⟩)
          | (go_at_call 12; refine (cl' _ (hEV.below hb1)).mono ?_; rintro e w2 ⟨hb2, A, c, rfl⟩)
          | (go_at_call 14; refine (cn _).mono ?_; rintro e w3 ⟨rfl, hb3⟩))
        go_ret
        exact ⟨rfl, Below.both (Below.both hb1 hb2) hb3⟩
end Go.Proofs.YtggonhciakfabaaDoor
