/- Laws of a text's tokens: put behind blanks, ahead of more, cut. No walk here. -/
import Derived.Test.YtggonhciakfabaaDoorLexFacts
namespace Go.Proofs.YtggonhciakfabaaDoor
open Go.RowKit

theorem nl_word {n : UInt8} (hn : n.toNat = 10) : isW n = false := by
  unfold isW isL isD
  rw [hn]
  decide

/-! ### faults, and a newline behind -/
theorem tx_wide_more (r : List UInt8) (h : txS r = .wide) (m : List UInt8) {n : UInt8} (hn : n.toNat = 10) : txS (r ++ n :: m) = .wide := by
  match r, h with
  | [], _ => rw [List.nil_append, tx_line m hn]
  | c :: r, h =>
    rw [List.cons_append]
    by_cases h1 : c.toNat = 10
    · rw [tx_line _ h1]
    · by_cases h2 : c.toNat = 34
      · rw [tx_close r h2] at h; cases h
      · by_cases h3 : c.toNat = 92
        · rw [tx_esc r h3] at h
          split at h
          · cases h
          · rename_i x k he
            have hk := escX_len he
            have hr : r = r.take k ++ r.drop k := (List.take_append_drop k r).symm
            have ih := tx_wide_more (r.drop k) (Tx.push_wide h) m hn
            rw [tx_esc _ h3]
            have he2 := escX_join he (r.drop k ++ n :: m)
            rw [← List.append_assoc, List.take_append_drop] at he2
            rw [he2]
            dsimp only
            rw [List.drop_append_of_le_length (by omega), ih]
            rfl
        · rw [tx_plain r h1 h2 h3] at h
          rw [tx_plain _ h1 h2 h3, tx_wide_more r (Tx.push_wide h) m hn]
          rfl
termination_by r.length
decreasing_by
  all_goals (simp only [List.length_cons, List.length_drop]; omega)

theorem tx_esc_more (r : List UInt8) {o : Nat} (h : txS r = .esc o) (m : List UInt8) {n : UInt8} (hn : n.toNat = 10) : txS (r ++ n :: m) = .esc o := by
  match r, h with
  | [], h => cases h
  | c :: r, h =>
    rw [List.cons_append]
    by_cases h1 : c.toNat = 10
    · rw [tx_line _ h1] at h; cases h
    · by_cases h2 : c.toNat = 34
      · rw [tx_close r h2] at h; cases h
      · by_cases h3 : c.toNat = 92
        · rw [tx_esc r h3] at h
          split at h
          · rename_i he
            rw [tx_esc _ h3, escX_none he m hn]
            exact h
          · rename_i x k he
            have hk := escX_len he
            obtain ⟨o', e1, rfl⟩ := Tx.push_esc h
            have ih := tx_esc_more (r.drop k) e1 m hn
            rw [tx_esc _ h3]
            have he2 := escX_join he (r.drop k ++ n :: m)
            rw [← List.append_assoc, List.take_append_drop] at he2
            rw [he2]
            dsimp only
            rw [List.drop_append_of_le_length (by omega), ih]
            rfl
        · rw [tx_plain r h1 h2 h3] at h
          obtain ⟨o', e1, rfl⟩ := Tx.push_esc h
          rw [tx_plain _ h1 h2 h3, tx_esc_more r e1 m hn]
          rfl
termination_by r.length
decreasing_by
  all_goals (simp only [List.length_cons, List.length_drop]; omega)

/-- up to a wrong escape a text has no end -/
theorem tx_esc_take (r : List UInt8) {o : Nat} (h : txS r = .esc o) : o < r.length ∧ txS (r.take o) = .wide := by
  match r, h with
  | [], h => cases h
  | c :: r, h =>
    by_cases h1 : c.toNat = 10
    · rw [tx_line _ h1] at h; cases h
    · by_cases h2 : c.toNat = 34
      · rw [tx_close r h2] at h; cases h
      · by_cases h3 : c.toNat = 92
        · rw [tx_esc r h3] at h
          split at h
          · simp only [Tx.esc.injEq] at h
            subst h
            exact ⟨by simp, by rw [List.take_zero, tx_nil]⟩
          · rename_i x k he
            have hk := escX_len he
            obtain ⟨o', e1, rfl⟩ := Tx.push_esc h
            obtain ⟨i1, i2⟩ := tx_esc_take (r.drop k) e1
            rw [List.length_drop] at i1
            have hs : r.take (o' + k) = r.take k ++ (r.drop k).take o' := by rw [Nat.add_comm, List.take_add]
            refine ⟨by simp only [List.length_cons]; omega, ?_⟩
            rw [show o' + (k + 1) = (o' + k) + 1 by omega, List.take_succ_cons, tx_esc _ h3, hs, escX_join he]
            dsimp only
            rw [List.drop_left' (by rw [List.length_take]; omega), i2]
            rfl
        · rw [tx_plain r h1 h2 h3] at h
          obtain ⟨o', e1, rfl⟩ := Tx.push_esc h
          obtain ⟨i1, i2⟩ := tx_esc_take r e1
          refine ⟨by simp only [List.length_cons]; omega, ?_⟩
          rw [List.take_succ_cons, tx_plain _ h1 h2 h3, i2]
          rfl
termination_by r.length
decreasing_by
  all_goals (simp only [List.length_cons, List.length_drop]; omega)

/-- the fault of a token: with a newline behind it, and what stands ahead of it -/
theorem tok_bad {l : List UInt8} {o e : Nat} (h : tokL l = .bad o e) (h0 : l ≠ []) (m : List UInt8) {n : UInt8} (hn : n.toNat = 10) :
    tokL (l ++ n :: m) = .bad o e ∧ ((e = 82 ∧ 1 ≤ o ∧ o < l.length ∧ tokL (l.take o) = .bad 0 81) ∨ (e ≠ 82 ∧ o = 0)) := by
  cases l with
  | nil => exact absurd rfl h0
  | cons c r =>
    have bw : Bd isW (n :: m) := Bd.cons m (nl_word hn)
    have hwn : wordN (c :: (r ++ n :: m)) = wordN (c :: r) := by
      unfold wordN
      rw [← List.cons_append, tw_more _ bw]
    have hnn : numN (c :: (r ++ n :: m)) = numN (c :: r) := by
      unfold numN
      rw [← List.cons_append, tw_more _ bw.digit]
    have htk : (c :: (r ++ n :: m)).take (numN (c :: r)) = (c :: r).take (numN (c :: r)) := by
      rw [← List.cons_append, List.take_append_of_le_length (numN_le _)]
    rw [List.cons_append]
    simp only [tokL] at h ⊢
    split at h
    · rename_i q
      rw [if_pos q]
      split at h
      · rename_i q2
        simp only [TR.bad.injEq] at h
        obtain ⟨rfl, rfl⟩ := h
        rw [hwn, if_pos q2]
        exact ⟨rfl, .inr ⟨by omega, rfl⟩⟩
      · cases h
    · rename_i q
      rw [if_neg q]
      split at h
      · rename_i qd
        rw [if_pos qd]
        split at h
        · rename_i q2
          simp only [TR.bad.injEq] at h
          obtain ⟨rfl, rfl⟩ := h
          rw [hnn, htk, if_pos q2]
          exact ⟨rfl, .inr ⟨by omega, rfl⟩⟩
        · cases h
      · rename_i qd
        rw [if_neg qd]
        split at h
        · rename_i q34
          rw [if_pos q34]
          split at h
          · cases h
          · rename_i o' ht
            simp only [TR.bad.injEq] at h
            obtain ⟨rfl, rfl⟩ := h
            obtain ⟨i1, i2⟩ := tx_esc_take r ht
            rw [tx_esc_more r ht m hn]
            refine ⟨rfl, .inl ⟨rfl, by omega, by simp only [List.length_cons]; omega, ?_⟩⟩
            rw [List.take_succ_cons]
            show (if isL c then _ else _) = _
            rw [if_neg q, if_neg qd, if_pos q34, i2]
          · rename_i ht
            simp only [TR.bad.injEq] at h
            obtain ⟨rfl, rfl⟩ := h
            rw [tx_wide_more r ht m hn]
            exact ⟨rfl, .inr ⟨by omega, rfl⟩⟩
        · rename_i q34
          rw [if_neg q34]
          split at h
          · cases h
          · rename_i qm
            rw [if_neg qm]
            simp only [TR.bad.injEq] at h
            obtain ⟨rfl, rfl⟩ := h
            exact ⟨rfl, .inr ⟨by omega, rfl⟩⟩

/-! ### a text's tokens -/
/-- a text's first token, or its fault, or its end -/
theorem lex_cases (l : List UInt8) (off : Nat) :
    (skipS false l = l.length ∧ lexL l off = .ok [endTk (off + l.length)]) ∨
    (∃ s o e, skipS false l = s ∧ s < l.length ∧ tokL (l.drop s) = .bad o e ∧ lexL l off = .bad (off + s + o) e) ∨
    (∃ s k t n len, skipS false l = s ∧ s + len ≤ l.length ∧ 1 ≤ len ∧ tokL (l.drop s) = .tok k t n len ∧ lexL l off = (lexL (l.drop (s + len)) (off + s + len)).push ⟨k, t, n, off + s, off + s + len⟩) := by
  have hs := skipS_le false l
  by_cases h : skipS false l = l.length
  · exact .inl ⟨h, lexL_done h⟩
  · cases ht : tokL (l.drop (skipS false l)) with
    | bad o e => exact .inr (.inl ⟨_, o, e, rfl, by omega, ht, lexL_bad h ht⟩)
    | tok k t n len =>
      have hl := tokL_len ht
      rw [List.length_drop] at hl
      exact .inr (.inr ⟨_, k, t, n, len, rfl, by omega, hl.1, ht, lexL_tok h ht⟩)

theorem LR.push_ok {x : Tk} {r : LR} {ts : List Tk} (h : r.push x = .ok ts) : ∃ ts', r = .ok ts' ∧ ts = x :: ts' := by
  cases r <;> simp [LR.push] at h
  exact ⟨_, rfl, h.symm⟩
theorem LR.push_bad {x : Tk} {r : LR} {a e : Nat} (h : r.push x = .bad a e) : r = .bad a e := by
  cases r <;> simp [LR.push] at h
  simp [h.1, h.2]

/-- blanks ahead change the places alone -/
theorem lex_gap {b : List UInt8} (h : skipS false b = b.length) (he : endS false b = false) (l : List UInt8) (off : Nat) : lexL (b ++ l) off = lexL l (off + b.length) := by
  have hsk : skipS false (b ++ l) = b.length + skipS false l := by rw [skip_append l h, he]
  have hdr : ∀ j, (b ++ l).drop (b.length + j) = l.drop j := fun j => by rw [← List.drop_drop, List.drop_left]
  rcases lex_cases l (off + b.length) with ⟨h1, h2⟩ | ⟨s, o, e, h1, h2, h3, h4⟩ | ⟨s, k, t, n, len, h1, h2, h3, h4, h5⟩
  · rw [h2, lexL_done (by rw [hsk, h1, List.length_append]), List.length_append, Nat.add_assoc]
  · rw [h4, lexL_bad (o := o) (e := e) (by rw [hsk, h1, List.length_append]; omega) (by rw [hsk, h1, hdr]; exact h3), hsk, h1]
    congr 1
    omega
  · rw [h5, lexL_tok (k := k) (t := t) (n := n) (len := len) (by rw [hsk, h1, List.length_append]; omega) (by rw [hsk, h1, hdr]; exact h4), hsk, h1, Nat.add_assoc b.length, hdr]
    simp only [Nat.add_assoc]

/-- a token without its place -/
def core (x : Tk) : Nat × List UInt8 × Nat × Nat := (x.k, x.t, x.n, x.e - x.a)
def cores : LR → Option (List (Nat × List UInt8 × Nat × Nat))
  | .ok l => some (l.map core)
  | .bad _ _ => none
theorem cores_push (x : Tk) (r : LR) : cores (r.push x) = (cores r).map (core x :: ·) := by cases r <;> rfl

/-- tokens hang on the place in no other way -/
theorem lex_core (N : Nat) : ∀ (l : List UInt8) (off off' : Nat), l.length ≤ N → cores (lexL l off) = cores (lexL l off') := by
  induction N with
  | zero =>
    intro l off off' h
    obtain rfl := List.eq_nil_of_length_eq_zero (by omega : l.length = 0)
    rw [lexL_done rfl, lexL_done rfl]
    simp [cores, core, endTk]
  | succ N ih =>
    intro l off off' h
    rcases lex_cases l off with ⟨h1, h2⟩ | ⟨s, o, e, h1, h2, h3, h4⟩ | ⟨s, k, t, n, len, h1, h2, h3, h4, h5⟩
    · rw [h2, lexL_done h1]
      simp [cores, core, endTk]
    · rw [h4, lexL_bad (o := o) (e := e) (by omega) (by rw [h1]; exact h3)]
      rfl
    · rw [h5, lexL_tok (off := off') (k := k) (t := t) (n := n) (len := len) (by omega) (by rw [h1]; exact h4), h1, cores_push, cores_push,
        ih (l.drop (s + len)) (off + s + len) (off' + s + len) (by rw [List.length_drop]; omega)]
      have e : core ⟨k, t, n, off + s, off + s + len⟩ = core ⟨k, t, n, off' + s, off' + s + len⟩ := by
        simp only [core]
        rw [show off + s + len - (off + s) = len by omega, show off' + s + len - (off' + s) = len by omega]
      rw [e]

/-- how the tokens of a text begin, with something else behind its first token -/
theorem lex_first {l : List UInt8} {s k n len : Nat} {t : List UInt8} (h1 : skipS false l = s) (h2 : s + len ≤ l.length) (h3 : 1 ≤ len) (h4 : tokL (l.drop s) = .tok k t n len) {y : List UInt8} (hw : k = 1 → Bd isW y) (hd : k = 2 → Bd isD y) (off : Nat) :
    lexL (l.take (s + len) ++ y) off = (lexL y (off + s + len)).push ⟨k, t, n, off + s, off + s + len⟩ := by
  have hsk : skipS false (l.take (s + len) ++ y) = s := by rw [skip_cut y (by omega) h2, h1]
  have hl : (l.take (s + len)).length = s + len := by rw [List.length_take]; omega
  have hdr : (l.take (s + len) ++ y).drop s = (l.drop s).take len ++ y := by
    rw [List.drop_append_of_le_length (by omega), List.drop_take, Nat.add_sub_cancel_left]
  have htk := tok_join h4 hw hd
  rw [lexL_tok (k := k) (t := t) (n := n) (len := len) (by rw [hsk, List.length_append]; omega) (by rw [hsk, hdr]; exact htk), hsk, List.drop_left' hl]

/-- a gap behind changes no token -/
theorem lex_tail {z : List UInt8} (hz : ∀ m, skipS m z = z.length) (hb : Bd isW z) (N : Nat) : ∀ (l : List UInt8) (off : Nat) {ts : List Tk}, l.length ≤ N → lexL l off = .ok ts → cores (lexL (l ++ z) off) = some (ts.map core) := by
  induction N with
  | zero =>
    intro l off ts h hl
    obtain rfl := List.eq_nil_of_length_eq_zero (by omega : l.length = 0)
    rw [lexL_done rfl] at hl
    obtain rfl := LR.ok.inj hl
    rw [List.nil_append, lexL_done (hz false)]
    simp [cores, core, endTk]
  | succ N ih =>
    intro l off ts h hl
    rcases lex_cases l off with ⟨h1, h2⟩ | ⟨s, o, e, h1, h2, h3, h4⟩ | ⟨s, k, t, n, len, h1, h2, h3, h4, h5⟩
    · rw [h2] at hl
      obtain rfl := LR.ok.inj hl
      rw [lexL_done (by rw [skip_append z h1, hz, List.length_append])]
      simp [cores, core, endTk]
    · rw [h4] at hl; cases hl
    · rw [h5] at hl
      obtain ⟨ts', g1, rfl⟩ := LR.push_ok hl
      have hrest := tok_rest h4
      rw [List.drop_drop] at hrest
      have e : l ++ z = l.take (s + len) ++ (l.drop (s + len) ++ z) := by rw [← List.append_assoc, List.take_append_drop]
      rw [e, lex_first h1 h2 h3 h4 (fun q => (hrest.1 q).app hb) (fun q => (hrest.2 q).app hb.digit), cores_push, ih (l.drop (s + len)) _ (by rw [List.length_drop]; omega) g1]
      rfl

/-- it begins with a byte that no word goes on with -/
def Sep (b : List UInt8) : Prop := ∃ d r, b = d :: r ∧ isW d = false
theorem Sep.bd {b : List UInt8} (h : Sep b) (y : List UInt8) : Bd isW (b ++ y) := by
  obtain ⟨d, r, rfl, hd⟩ := h
  exact Bd.cons _ hd

/-- blanks put behind a token change no token -/
theorem lex_cut {b : List UInt8} (h0 : skipS false b = b.length) (he : endS false b = false) (hb : Sep b) (N : Nat) : ∀ (l : List UInt8) (off : Nat) {ts : List Tk} (i : Nat) (x : Tk), l.length ≤ N → lexL l off = .ok ts → i + 1 < ts.length → ts[i]? = some x →
    off ≤ x.e ∧ x.e ≤ off + l.length ∧ cores (lexL (l.take (x.e - off) ++ (b ++ l.drop (x.e - off))) off) = some (ts.map core) := by
  induction N with
  | zero =>
    intro l off ts i x h hl hi
    obtain rfl := List.eq_nil_of_length_eq_zero (by omega : l.length = 0)
    rw [lexL_done rfl] at hl
    obtain rfl := LR.ok.inj hl
    simp at hi
  | succ N ih =>
    intro l off ts i x h hl hi hx
    rcases lex_cases l off with ⟨h1, h2⟩ | ⟨s, o, e, h1, h2, h3, h4⟩ | ⟨s, k, t, n, len, h1, h2, h3, h4, h5⟩
    · rw [h2] at hl
      obtain rfl := LR.ok.inj hl
      simp at hi
    · rw [h4] at hl; cases hl
    · rw [h5] at hl
      obtain ⟨ts', g1, rfl⟩ := LR.push_ok hl
      have hrest := tok_rest h4
      rw [List.drop_drop] at hrest
      have hll : (l.drop (s + len)).length = l.length - (s + len) := List.length_drop
      cases i with
      | zero =>
        simp only [List.getElem?_cons_zero, Option.some.injEq] at hx
        subst hx
        refine ⟨by show off ≤ off + s + len; omega, by show off + s + len ≤ _; omega, ?_⟩
        rw [show off + s + len - off = s + len by omega, lex_first h1 h2 h3 h4 (fun _ => hb.bd _) (fun _ => (hb.bd _).digit), cores_push, lex_gap h0 he, lex_core _ _ _ (off + s + len) (Nat.le_refl _), g1]
        rfl
      | succ i =>
        simp only [List.getElem?_cons_succ] at hx
        simp only [List.length_cons] at hi
        obtain ⟨j1, j2, j3⟩ := ih (l.drop (s + len)) (off + s + len) i x (by omega) g1 (by omega) hx
        refine ⟨by omega, by omega, ?_⟩
        have hq : x.e - off = (s + len) + (x.e - (off + s + len)) := by omega
        have hdd : l.drop (s + len + (x.e - (off + s + len))) = (l.drop (s + len)).drop (x.e - (off + s + len)) := List.drop_drop.symm
        rw [hq, List.take_add, List.append_assoc, hdd, lex_first h1 h2 h3 h4 (fun q => ((hrest.1 q).take _).app (hb.bd _)) (fun q => ((hrest.2 q).take _).app (hb.bd _).digit), cores_push, j3]
        rfl
end Go.Proofs.YtggonhciakfabaaDoor
