/- Plain: the tokens of what is printed, whatever stands ahead and behind. No walk here. -/
import Derived.Test.YtdkcnepjjinpdaaDoorPrPure
namespace Go.Proofs.YtdkcnepjjinpdaaDoor
open Go.RowKit

/-- a token but for its place -/
abbrev Kn := Nat × List UInt8 × Nat
def kern (x : Tk) : Kn := (x.k, x.t, x.n)
theorem LR.pre_pre (l m : List Tk) (x : LR) : (x.pre m).pre l = x.pre (l ++ m) := by cases x <;> simp [LR.pre]
theorem LR.push_pre (x : Tk) (r : LR) : r.push x = r.pre [x] := by cases r <;> rfl
/-- a text's tokens, where no word's byte stands right behind it -/
def Lx (s : List UInt8) (ts : List Kn) : Prop := ∀ (y : List UInt8) (off : Nat), Bd isW y → ∃ l : List Tk, l.map kern = ts ∧ lexL (s ++ y) off = (lexL y (off + s.length)).pre l
/-- a text's tokens, whatever stands behind it -/
def Lf (s : List UInt8) (ts : List Kn) : Prop := ∀ (y : List UInt8) (off : Nat), ∃ l : List Tk, l.map kern = ts ∧ lexL (s ++ y) off = (lexL y (off + s.length)).pre l
section
variable {s s' : List UInt8} {ts ts' : List Kn}
theorem Lf.lx (h : Lf s ts) : Lx s ts := fun y off _ => h y off
theorem Lf.nil : Lf [] [] := fun y off => ⟨[], rfl, by rw [LR.pre_nil]; rfl⟩
theorem Lx.app (h : Lx s ts) (k : Lx s' ts') (hb : ∀ y, Bd isW y → Bd isW (s' ++ y)) : Lx (s ++ s') (ts ++ ts') := by
  intro y off hy
  obtain ⟨l', h1, h2⟩ := k y (off + s.length) hy
  obtain ⟨l, h3, h4⟩ := h (s' ++ y) off (hb y hy)
  exact ⟨l ++ l', by rw [List.map_append, h3, h1], by rw [List.append_assoc, h4, h2, LR.pre_pre, List.length_append, Nat.add_assoc]⟩
theorem Lf.app (h : Lf s ts) (k : Lx s' ts') : Lx (s ++ s') (ts ++ ts') := by
  intro y off hy
  obtain ⟨l', h1, h2⟩ := k y (off + s.length) hy
  obtain ⟨l, h3, h4⟩ := h (s' ++ y) off
  exact ⟨l ++ l', by rw [List.map_append, h3, h1], by rw [List.append_assoc, h4, h2, LR.pre_pre, List.length_append, Nat.add_assoc]⟩
theorem Lf.free (h : Lf s ts) (k : Lf s' ts') : Lf (s ++ s') (ts ++ ts') := by
  intro y off
  obtain ⟨l', h1, h2⟩ := k y (off + s.length)
  obtain ⟨l, h3, h4⟩ := h (s' ++ y) off
  exact ⟨l ++ l', by rw [List.map_append, h3, h1], by rw [List.append_assoc, h4, h2, LR.pre_pre, List.length_append, Nat.add_assoc]⟩
theorem Lx.free (h : Lx s ts) (k : Lf s' ts') (hs : Sep s') : Lf (s ++ s') (ts ++ ts') := by
  intro y off
  obtain ⟨l', h1, h2⟩ := k y (off + s.length)
  obtain ⟨l, h3, h4⟩ := h (s' ++ y) off (hs.bd y)
  exact ⟨l ++ l', by rw [List.map_append, h3, h1], by rw [List.append_assoc, h4, h2, LR.pre_pre, List.length_append, Nat.add_assoc]⟩
theorem Lx.sep (h : Lx s ts) (k : Lx s' ts') (hs : Sep s') : Lx (s ++ s') (ts ++ ts') := h.app k fun y _ => hs.bd y
end
theorem lf_gap {b : List UInt8} (h : skipS false b = b.length) (he : endS false b = false) : Lf b [] := fun y off => ⟨[], rfl, by rw [lex_gap h he, LR.pre_nil]⟩
theorem lx_tok {l t : List UInt8} {k n : Nat} (h : tokL l = .tok k t n l.length) : Lx l [(k, t, n)] := by
  intro y off hy
  have := lex_first (l := l) (s := 0) (tok_skip h).1 (by omega) (tokL_len h).1 (by simpa using h) (fun _ => hy) (fun _ => hy.digit) off
  rw [Nat.zero_add, List.take_length, LR.push_pre] at this
  exact ⟨_, rfl, this⟩
theorem lf_tok {l t : List UInt8} {k n : Nat} (h : tokL l = .tok k t n l.length) (h1 : k ≠ 1) (h2 : k ≠ 2) : Lf l [(k, t, n)] := by
  intro y off
  have := lex_first (l := l) (s := 0) (tok_skip h).1 (by omega) (tokL_len h).1 (by simpa using h) (y := y) (fun e => absurd e h1) (fun e => absurd e h2) off
  rw [Nat.zero_add, List.take_length, LR.push_pre] at this
  exact ⟨_, rfl, this⟩
theorem lf_mark {c : UInt8} (h : tokL [c] = .tok 4 [c] 0 1) : Lf [c] [(4, [c], 0)] := lf_tok h (by decide) (by decide)
theorem lf_quote (t : List UInt8) : Lf (quoteL t) [(3, t, 0)] := by
  refine lf_tok (l := quoteL t) ?_ (by decide) (by decide)
  unfold quoteL
  simp only [tokL]
  rw [if_neg (by decide), if_neg (by decide), if_pos (by decide), tx_qbs]
  simp
theorem tok_word {l : List UInt8} (h : nameL l = true) : tokL l = .tok 1 l 0 l.length := by
  cases l with
  | nil => cases h
  | cons c r =>
    unfold nameL at h
    simp only [Bool.and_eq_true, decide_eq_true_eq] at h
    obtain ⟨⟨h1, h2⟩, h3⟩ := h
    have hw : wordN (c :: r) = (c :: r).length := by
      unfold wordN
      have := tw_join (p := isW) (x := c :: r) (fun x hx => List.all_eq_true.1 h3 x hx) (y := []) (Bd.nil _)
      rw [List.append_nil] at this
      rw [this]
    simp only [tokL]
    rw [if_pos h2, hw, if_neg (by omega), List.take_length]
theorem lx_word {l : List UInt8} (h : nameL l = true) : Lx l [(1, l, 0)] := lx_tok (tok_word h)
theorem name_head {l : List UInt8} (h : nameL l = true) : ∃ c r, l = c :: r ∧ isL c = true := by
  cases l with
  | nil => cases h
  | cons c r =>
    unfold nameL at h
    simp only [Bool.and_eq_true, decide_eq_true_eq] at h
    exact ⟨c, r, rfl, h.1.2⟩

theorem dg_fin : ∀ d : Fin 10, isD (UInt8.ofNat (48 + d.val)) = true ∧ isL (UInt8.ofNat (48 + d.val)) = false ∧ (UInt8.ofNat (48 + d.val)).toNat - 48 = d.val := by decide +kernel
theorem dec_digits (u : Nat) : (∀ c ∈ Lib.decDigits u, isD c = true ∧ isL c = false) ∧ (Lib.decDigits u).foldl (fun x c => x * 10 + (c.toNat - 48)) 0 = u ∧ Lib.decDigits u ≠ [] := by
  induction u using Nat.strongRecOn with
  | _ u ih =>
    by_cases h : u < 10
    · rw [Lib.decDigits_one h]
      have := dg_fin ⟨u, h⟩
      refine ⟨fun c hc => ?_, ?_, nofun⟩
      · rw [List.mem_singleton] at hc
        subst hc
        exact ⟨this.1, this.2.1⟩
      · simp only [List.foldl_cons, List.foldl_nil]
        have h3 : (UInt8.ofNat (48 + u)).toNat - 48 = u := this.2.2
        omega
    · obtain ⟨i1, i2, i3⟩ := ih (u / 10) (by omega)
      have := dg_fin ⟨u % 10, by omega⟩
      rw [Lib.decDigits, dif_neg h]
      refine ⟨fun c hc => ?_, ?_, by simp⟩
      · rcases List.mem_append.1 hc with hc | hc
        · exact i1 c hc
        · rw [List.mem_singleton] at hc
          subst hc
          exact ⟨this.1, this.2.1⟩
      · rw [List.foldl_append, i2]
        simp only [List.foldl_cons, List.foldl_nil]
        have h3 : (UInt8.ofNat (48 + u % 10)).toNat - 48 = u % 10 := this.2.2
        omega
theorem tok_num {u : Nat} (h : u < 18446744073709551616) : tokL (Lib.decDigits u) = .tok 2 [] u (Lib.decDigits u).length := by
  obtain ⟨h1, h2, h3⟩ := dec_digits u
  generalize Lib.decDigits u = l at h1 h2 h3
  cases l with
  | nil => exact absurd rfl h3
  | cons c r =>
    have hn : numN (c :: r) = (c :: r).length := by
      unfold numN
      have := tw_join (p := isD) (x := c :: r) (fun x hx => (h1 x hx).1) (y := []) (Bd.nil _)
      rw [List.append_nil] at this
      rw [this]
    have hc := h1 c (.head _)
    simp only [tokL]
    have hv : numV (c :: r) = u := h2
    rw [hc.2, if_neg (by decide), if_pos hc.1, hn, List.take_length, hv, if_neg (by omega)]
theorem lx_num {u : Nat} (h : u < 18446744073709551616) : Lx (Lib.decDigits u) [(2, [], u)] := lx_tok (tok_num h)
theorem dec_head (u : Nat) : ∃ c r, Lib.decDigits u = c :: r ∧ isD c = true := by
  obtain ⟨h1, _, h3⟩ := dec_digits u
  generalize Lib.decDigits u = l at h1 h3
  cases l with
  | nil => exact absurd rfl h3
  | cons c r => exact ⟨c, r, rfl, (h1 c (.head _)).1⟩
theorem lf_blank : Lf [32] [] := lf_gap (by decide) (by decide)
theorem sep_of {c : UInt8} (r : List UInt8) (h : isW c = false) : Sep (c :: r) := ⟨c, r, rfl, h⟩
/-- the tokens of a whole text -/
theorem Lx.all {s : List UInt8} {ts : List Kn} (h : Lx s ts) (off : Nat) : ∃ l : List Tk, l.map kern = ts ∧ lexL s off = .ok (l ++ [endTk (off + s.length)]) := by
  obtain ⟨l, h1, h2⟩ := h [] off (Bd.nil _)
  refine ⟨l, h1, ?_⟩
  rw [List.append_nil] at h2
  rw [h2, lexL_done rfl]
  simp [LR.pre]
end Go.Proofs.YtdkcnepjjinpdaaDoor
