/- Laws of a text's tokens: faults, names, a text written as one. No walk here. -/
import Derived.Test.YtggonhciakfabaaDoorLexMore
namespace Go.Proofs.YtggonhciakfabaaDoor
open Go.RowKit

theorem skip_sub {l : List UInt8} {s : Nat} (h : skipS false l = s) (h2 : s < l.length) (y : List UInt8) : skipS false (l ++ y) = s := by
  rw [skip_part y (by omega), h]

/-- what is faulty stays so, whatever lines stand behind -/
theorem lex_bad_more (m : List UInt8) {n : UInt8} (hn : n.toNat = 10) (N : Nat) : ∀ (l : List UInt8) (off : Nat) {a e : Nat}, l.length ≤ N → lexL l off = .bad a e → lexL (l ++ n :: m) off = .bad a e := by
  induction N with
  | zero =>
    intro l off a e h hl
    obtain rfl := List.eq_nil_of_length_eq_zero (by omega : l.length = 0)
    rw [lexL_done rfl] at hl; cases hl
  | succ N ih =>
    intro l off a e h hl
    rcases lex_cases l off with ⟨h1, h2⟩ | ⟨s, o, e', h1, h2, h3, h4⟩ | ⟨s, k, t, n', len, h1, h2, h3, h4, h5⟩
    · rw [h2] at hl; cases hl
    · rw [h4] at hl
      have hsk := skip_sub h1 h2 (n :: m)
      have ht := (tok_bad h3 (by intro e0; have := congrArg List.length e0; rw [List.length_drop] at this; simp at this; omega) m hn).1
      rw [lexL_bad (o := o) (e := e') (by rw [hsk, List.length_append]; omega) (by rw [hsk, List.drop_append_of_le_length (by omega)]; exact ht), hsk]
      exact hl
    · rw [h5] at hl
      have g1 := LR.push_bad hl
      have hrest := tok_rest h4
      rw [List.drop_drop] at hrest
      have bn : Bd isW (n :: m) := Bd.cons m (nl_word hn)
      have e : l ++ n :: m = l.take (s + len) ++ (l.drop (s + len) ++ n :: m) := by rw [← List.append_assoc, List.take_append_drop]
      rw [e, lex_first h1 h2 h3 h4 (fun q => (hrest.1 q).app bn) (fun q => (hrest.2 q).app bn.digit), ih (l.drop (s + len)) _ (by rw [List.length_drop]; omega) g1]
      rfl

/-- ahead of a fault there are tokens, or a text that isn't ended -/
theorem lex_bad_front (N : Nat) : ∀ (l : List UInt8) (off : Nat) {a e : Nat}, l.length ≤ N → lexL l off = .bad a e →
    off ≤ a ∧ a < off + l.length ∧ (e = 82 → ∃ j, j < a ∧ lexL (l.take (a - off)) off = .bad j 81) ∧ (e ≠ 82 → ∃ ts, lexL (l.take (a - off)) off = .ok ts) := by
  induction N with
  | zero =>
    intro l off a e h hl
    obtain rfl := List.eq_nil_of_length_eq_zero (by omega : l.length = 0)
    rw [lexL_done rfl] at hl; cases hl
  | succ N ih =>
    intro l off a e h hl
    rcases lex_cases l off with ⟨h1, h2⟩ | ⟨s, o, e', h1, h2, h3, h4⟩ | ⟨s, k, t, n', len, h1, h2, h3, h4, h5⟩
    · rw [h2] at hl; cases hl
    · rw [h4] at hl
      simp only [LR.bad.injEq] at hl
      obtain ⟨rfl, rfl⟩ := hl
      have hd : (l.drop s).length = l.length - s := List.length_drop
      rcases (tok_bad h3 (by intro e0; rw [e0] at hd; simp at hd; omega) [] (n := 10) rfl).2 with ⟨rfl, q1, q2, q3⟩ | ⟨q1, rfl⟩
      · refine ⟨by omega, by omega, fun _ => ⟨off + s, by omega, ?_⟩, fun hne => absurd rfl hne⟩
        have hsk : skipS false (l.take (s + o)) = s := by
          have := skip_cut (m := false) (l := l) (j := s + o) [] (by omega) (by omega)
          rw [List.append_nil, h1] at this
          exact this
        rw [show off + s + o - off = s + o by omega, lexL_bad (o := 0) (e := 81) (by rw [hsk, List.length_take]; omega) (by rw [hsk, List.drop_take, Nat.add_sub_cancel_left]; exact q3), hsk, Nat.add_zero]
      · refine ⟨by omega, by omega, fun he => absurd he q1, fun _ => ⟨[endTk (off + (l.take s).length)], ?_⟩⟩
        rw [show off + s + 0 - off = s by omega]
        refine lexL_done ?_
        have := skip_take false l
        rw [h1] at this
        rw [this, List.length_take]; omega
    · rw [h5] at hl
      have g1 := LR.push_bad hl
      have hrest := tok_rest h4
      rw [List.drop_drop] at hrest
      have hll : (l.drop (s + len)).length = l.length - (s + len) := List.length_drop
      obtain ⟨j1, j2, j3, j4⟩ := ih (l.drop (s + len)) (off + s + len) (by omega) g1
      have hq : a - off = (s + len) + (a - (off + s + len)) := by clear j3 j4; omega
      have hx : ∀ x, lexL ((l.drop (s + len)).take (a - (off + s + len))) (off + s + len) = x → lexL (l.take (a - off)) off = x.push ⟨k, t, n', off + s, off + s + len⟩ := fun x hx => by
        rw [hq, List.take_add, lex_first h1 h2 h3 h4 (fun q => (hrest.1 q).take _) (fun q => (hrest.2 q).take _), hx]
      have b1 : off ≤ a := by clear j3 j4 hx; omega
      have b2 : a < off + l.length := by clear j3 j4 hx; omega
      refine ⟨b1, b2, fun he => ?_, fun he => ?_⟩
      · obtain ⟨j, g2, g3⟩ := j3 he
        exact ⟨j, g2, hx _ g3⟩
      · obtain ⟨ts, g2⟩ := j4 he
        exact ⟨_, hx _ g2⟩

/-- whether the bytes are a name -/
def nameL (l : List UInt8) : Bool := match l with
  | [] => false
  | c :: r => decide ((c :: r).length ≤ 64) && isL c && (c :: r).all isW

theorem not_skip {c : UInt8} (r : List UInt8) (h1 : isBl c = false) (h2 : c.toNat ≠ 35) : skipS false (c :: r) = 0 := by
  rw [skip_cons, if_neg (by simp), if_neg (by simp [h1]), if_neg h2]
theorem letter_skip {c : UInt8} (h : isL c = true) : isBl c = false ∧ c.toNat ≠ 35 := by
  unfold isL at h
  have h := of_decide_eq_true h
  exact ⟨by unfold isBl; rw [decide_eq_false]; omega, by omega⟩

/-- a name is read as one, and what is read as one is a name -/
theorem lex_name (l : List UInt8) : nameL l = true ↔ ∃ t n, lexL l 0 = .ok [⟨1, t, n, 0, l.length⟩, endTk l.length] := by
  constructor
  · intro h
    cases l with
    | nil => cases h
    | cons c r =>
      unfold nameL at h
      simp only [Bool.and_eq_true, decide_eq_true_eq] at h
      obtain ⟨⟨h1, h2⟩, h3⟩ := h
      have hw : (c :: r).takeWhile isW = c :: r := by
        have := tw_join (p := isW) (x := c :: r) (fun d hd => List.all_eq_true.1 h3 d hd) (Bd.nil _)
        rwa [List.append_nil] at this
      have hn : wordN (c :: r) = (c :: r).length := by unfold wordN; rw [hw]
      have hs := not_skip r (letter_skip h2).1 (letter_skip h2).2
      have ht : tokL (c :: r) = .tok 1 (c :: r) 0 (c :: r).length := by
        simp only [tokL]
        rw [if_pos h2, hn, if_neg (by omega), List.take_length]
      refine ⟨c :: r, 0, ?_⟩
      rw [lexL_tok (k := 1) (t := c :: r) (n := 0) (len := (c :: r).length) (by rw [hs]; simp) (by rw [hs]; exact ht), hs, Nat.zero_add, Nat.zero_add, List.drop_length, lexL_done rfl]
      rfl
  · rintro ⟨t, n, h⟩
    rcases lex_cases l 0 with ⟨h1, h2⟩ | ⟨s, o, e', h1, h2, h3, h4⟩ | ⟨s, k, t', n', len, h1, h2, h3, h4, h5⟩
    · rw [h2] at h; simp at h
    · rw [h4] at h; cases h
    · rw [h5] at h
      obtain ⟨ts', g1, g2⟩ := LR.push_ok h
      simp only [List.cons.injEq, Tk.mk.injEq] at g2
      obtain ⟨⟨rfl, rfl, rfl, g3, g4⟩, rfl⟩ := g2
      obtain rfl : s = 0 := by omega
      obtain rfl : len = l.length := by omega
      rw [List.drop_zero] at h4
      cases l with
      | nil => simp at h3
      | cons c r =>
        simp only [tokL] at h4
        split at h4
        · rename_i qL
          split at h4
          · cases h4
          · rename_i q64
            simp only [TR.tok.injEq] at h4
            obtain ⟨_, _, _, hn⟩ := h4
            have hall : (c :: r).takeWhile isW = c :: r := by
              have := tw_take isW (c :: r)
              rw [show ((c :: r).takeWhile isW).length = (c :: r).length from hn, List.take_length] at this
              exact this.symm
            unfold nameL
            simp only [Bool.and_eq_true, decide_eq_true_eq]
            refine ⟨⟨by omega, qL⟩, List.all_eq_true.2 fun d hd => tw_mem isW (c :: r) d (by rw [hall]; exact hd)⟩
        · split at h4
          · split at h4
            · cases h4
            · simp at h4
          · split at h4
            · split at h4 <;> simp at h4
            · split at h4
              · simp at h4
              · cases h4

/-- a byte as it stands in a quoted text -/
def qb (c : UInt8) : List UInt8 :=
  if c.toNat = 92 ∨ c.toNat = 34 then [92, c]
  else if c.toNat = 10 then [92, 110]
  else if c.toNat = 9 then [92, 116]
  else if 32 ≤ c.toNat ∧ c.toNat ≤ 126 then [c]
  else [92, 120, hexD (c.toNat / 16), hexD (c.toNat % 16)]
where hexD (p : Nat) : UInt8 := if p < 10 then UInt8.ofNat (48 + p) else UInt8.ofNat (87 + p)
def qbs (l : List UInt8) : List UInt8 := l.flatMap qb
def quoteL (l : List UInt8) : List UInt8 := 34 :: (qbs l ++ [34])

theorem dv_hexD {p : Nat} (h : p < 16) : dv (qb.hexD p).toNat = p := by
  have : ∀ p : Fin 16, dv (qb.hexD p).toNat = p := by decide
  exact this ⟨p, h⟩
theorem tx_qb (c : UInt8) (y : List UInt8) : txS (qb c ++ y) = (txS y).push c (qb c).length := by
  have hc := c.toNat_lt
  unfold qb
  split
  · rename_i q
    show txS (92 :: c :: y) = _
    rw [tx_esc _ rfl]
    show (match escD c y with | none => _ | some (x, k) => _) = _
    unfold escD
    rw [if_pos q]
    rfl
  · rename_i q
    split
    · rename_i q2
      obtain rfl : c = 10 := UInt8.toNat_inj.1 q2
      show txS (92 :: 110 :: y) = _
      rw [tx_esc _ rfl]
      rfl
    · rename_i q2
      split
      · rename_i q3
        obtain rfl : c = 9 := UInt8.toNat_inj.1 q3
        show txS (92 :: 116 :: y) = _
        rw [tx_esc _ rfl]
        rfl
      · rename_i q3
        split
        · rename_i q4
          show txS (c :: y) = _
          rw [tx_plain _ q2 (by omega) (by omega)]
          rfl
        · show txS (92 :: 120 :: qb.hexD (c.toNat / 16) :: qb.hexD (c.toNat % 16) :: y) = _
          rw [tx_esc _ rfl]
          show (match escD 120 (qb.hexD (c.toNat / 16) :: qb.hexD (c.toNat % 16) :: y) with | none => _ | some (x, k) => _) = _
          unfold escD
          have h1 := dv_hexD (p := c.toNat / 16) (by omega)
          have h2 := dv_hexD (p := c.toNat % 16) (by omega)
          rw [if_neg (by decide), if_neg (by decide), if_neg (by decide), if_pos (by decide)]
          dsimp only
          rw [h1, h2, if_neg (by omega)]
          dsimp only
          rw [show 16 * (c.toNat / 16) + c.toNat % 16 = c.toNat by omega]
          simp
theorem tx_qbs (l : List UInt8) : txS (qbs l ++ [34]) = .done l ((qbs l).length + 1) := by
  induction l with
  | nil => rfl
  | cons c r ih =>
    have e : qbs (c :: r) = qb c ++ qbs r := rfl
    rw [e, List.append_assoc, tx_qb, ih, List.length_append]
    show Tx.done (c :: r) _ = _
    congr 1
    omega
theorem quote_len (l : List UInt8) : (quoteL l).length = (qbs l).length + 2 := by unfold quoteL; simp
/-- what is quoted is read back -/
theorem lex_quote (l : List UInt8) : lexL (quoteL l) 0 = .ok [⟨3, l, 0, 0, (quoteL l).length⟩, endTk (quoteL l).length] := by
  have hs : skipS false (quoteL l) = 0 := not_skip _ (by decide) (by decide)
  have ht : tokL (quoteL l) = .tok 3 l 0 (quoteL l).length := by
    rw [quote_len]
    unfold quoteL
    simp only [tokL]
    rw [if_neg (by decide), if_neg (by decide), if_pos (by decide), tx_qbs]
  rw [lexL_tok (k := 3) (t := l) (n := 0) (len := (quoteL l).length) (by rw [hs, quote_len]; omega) (by rw [hs]; exact ht), hs, Nat.zero_add, Nat.zero_add, List.drop_length, lexL_done rfl]
  rfl
/-- a quoted text has bytes of 20 to 7e alone -/
theorem qb_plain (c : UInt8) : ∀ d ∈ qb c, 32 ≤ d.toNat ∧ d.toNat ≤ 126 := by
  have hc := c.toNat_lt
  have h16 : ∀ p : Fin 16, 32 ≤ (qb.hexD p).toNat ∧ (qb.hexD p).toNat ≤ 126 := by decide
  intro d hd
  unfold qb at hd
  split at hd
  · simp only [List.mem_cons, List.not_mem_nil, or_false] at hd
    rcases hd with rfl | rfl
    · decide
    · omega
  · split at hd
    · simp only [List.mem_cons, List.not_mem_nil, or_false] at hd
      rcases hd with rfl | rfl <;> decide
    · split at hd
      · simp only [List.mem_cons, List.not_mem_nil, or_false] at hd
        rcases hd with rfl | rfl <;> decide
      · split at hd
        · rename_i q
          simp only [List.mem_cons, List.not_mem_nil, or_false] at hd
          subst hd
          exact q
        · simp only [List.mem_cons, List.not_mem_nil, or_false] at hd
          rcases hd with rfl | rfl | rfl | rfl
          · decide
          · decide
          · exact h16 ⟨c.toNat / 16, by omega⟩
          · exact h16 ⟨c.toNat % 16, by omega⟩
theorem quote_plain (l : List UInt8) : ∀ d ∈ quoteL l, 32 ≤ d.toNat ∧ d.toNat ≤ 126 := by
  intro d hd
  unfold quoteL qbs at hd
  rcases List.mem_cons.1 hd with rfl | hd
  · decide
  · rcases List.mem_append.1 hd with hd | hd
    · obtain ⟨c, _, hc⟩ := List.mem_flatMap.1 hd
      exact qb_plain c d hc
    · rw [List.mem_singleton] at hd
      subst hd
      decide
theorem qb_len (c : UInt8) : 1 ≤ (qb c).length ∧ (qb c).length ≤ 4 := by
  unfold qb
  split
  · simp
  · split
    · simp
    · split
      · simp
      · split <;> simp
theorem qbs_len (l : List UInt8) : l.length ≤ (qbs l).length ∧ (qbs l).length ≤ 4 * l.length := by
  induction l with
  | nil => exact ⟨Nat.le_refl _, Nat.le_refl _⟩
  | cons c r ih =>
    have := qb_len c
    show _ ≤ (qb c ++ qbs r).length ∧ (qb c ++ qbs r).length ≤ _
    rw [List.length_append, List.length_cons]
    omega
end Go.Proofs.YtggonhciakfabaaDoor
