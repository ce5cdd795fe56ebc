/- Plain: the tokens of what is printed, whatever stands ahead and behind. No walk here. -/
import Derived.Test.YtipcgmaobiobbaaGreatDoorPrPure
import Derived.Test.YtipcgmaobiobbaaGreatDoorParGa
import Derived.Test.YtipcgmaobiobbaaGreatDoorPrRaw
import Derived.Test.YtipcgmaobiobbaaGreatDoorParGb
namespace Go.Proofs.YtipcgmaobiobbaaGreatDoor
open Go.RowKit

/-- a token but for its place -/
abbrev Kn := Nat × List UInt8 × Nat
def kern (x : Tk) : Kn := (x.k, x.t, x.n)
theorem LR.pre_pre (l m : List Tk) (x : LR) : (x.pre m).pre l = x.pre (l ++ m) := by cases x <;> simp [LR.pre]
theorem LR.push_pre (x : Tk) (r : LR) : r.push x = r.pre [x] := by cases r <;> rfl
/-- a text's tokens, where no word's byte stands right behind it -/
def Lx (s : List UInt8) (ts : List Kn) : Prop := ∀ (y : List UInt8) (off : Nat), Bd isW y → ∃ l : List Tk, l.map kern = ts ∧ lexL (s ++ y) off = (lexL y (off + s.length)).pre l
/-- a text's tokens, whatever stands behind it -/
def Lf (s : List UInt8) (ts : List Kn) : Prop := ∀ (y : List UInt8) (off : Nat), ∃ l : List Tk, l.map kern = ts ∧ lexL (s ++ y) off = (lexL y (off + s.length)).pre l
section
variable {s s' : List UInt8} {ts ts' : List Kn}
theorem Lf.lx (h : Lf s ts) : Lx s ts := fun y off _ => h y off
theorem Lf.nil : Lf [] [] := fun y off => ⟨[], rfl, by rw [LR.pre_nil]; rfl⟩
theorem Lx.app (h : Lx s ts) (k : Lx s' ts') (hb : ∀ y, Bd isW y → Bd isW (s' ++ y)) : Lx (s ++ s') (ts ++ ts') := by
  intro y off hy
  obtain ⟨l', h1, h2⟩ := k y (off + s.length) hy
  obtain ⟨l, h3, h4⟩ := h (s' ++ y) off (hb y hy)
  exact ⟨l ++ l', by rw [List.map_append, h3, h1], by rw [List.append_assoc, h4, h2, LR.pre_pre, List.length_append, Nat.add_assoc]⟩
theorem Lf.app (h : Lf s ts) (k : Lx s' ts') : Lx (s ++ s') (ts ++ ts') := by
  intro y off hy
  obtain ⟨l', h1, h2⟩ := k y (off + s.length) hy
  obtain ⟨l, h3, h4⟩ := h (s' ++ y) off
  exact ⟨l ++ l', by rw [List.map_append, h3, h1], by rw [List.append_assoc, h4, h2, LR.pre_pre, List.length_append, Nat.add_assoc]⟩
theorem Lf.free (h : Lf s ts) (k : Lf s' ts') : Lf (s ++ s') (ts ++ ts') := by
  intro y off
  obtain ⟨l', h1, h2⟩ := k y (off + s.length)
  obtain ⟨l, h3, h4⟩ := h (s' ++ y) off
  exact ⟨l ++ l', by rw [List.map_append, h3, h1], by rw [List.append_assoc, h4, h2, LR.pre_pre, List.length_append, Nat.add_assoc]⟩
theorem Lx.free (h : Lx s ts) (k : Lf s' ts') (hs : Sep s') : Lf (s ++ s') (ts ++ ts') := by
  intro y off
  obtain ⟨l', h1, h2⟩ := k y (off + s.length)
  obtain ⟨l, h3, h4⟩ := h (s' ++ y) off (hs.bd y)
  exact ⟨l ++ l', by rw [List.map_append, h3, h1], by rw [List.append_assoc, h4, h2, LR.pre_pre, List.length_append, Nat.add_assoc]⟩
theorem Lx.sep (h : Lx s ts) (k : Lx s' ts') (hs : Sep s') : Lx (s ++ s') (ts ++ ts') := h.app k fun y _ => hs.bd y
end
theorem lf_gap {b : List UInt8} (h : skipS false b = b.length) (he : endS false b = false) : Lf b [] := fun y off => ⟨[], rfl, by rw [lex_gap h he, LR.pre_nil]⟩
theorem lx_tok {l t : List UInt8} {k n : Nat} (h : tokL l = .tok k t n l.length) : Lx l [(k, t, n)] := by
  intro y off hy
  have := lex_first (l := l) (s := 0) (tok_skip h).1 (by omega) (tokL_len h).1 (by simpa using h) (fun _ => hy) (fun _ => hy.digit) off
  rw [Nat.zero_add, List.take_length, LR.push_pre] at this
  exact ⟨_, rfl, this⟩
theorem lf_tok {l t : List UInt8} {k n : Nat} (h : tokL l = .tok k t n l.length) (h1 : k ≠ 1) (h2 : k ≠ 2) : Lf l [(k, t, n)] := by
  intro y off
  have := lex_first (l := l) (s := 0) (tok_skip h).1 (by omega) (tokL_len h).1 (by simpa using h) (y := y) (fun e => absurd e h1) (fun e => absurd e h2) off
  rw [Nat.zero_add, List.take_length, LR.push_pre] at this
  exact ⟨_, rfl, this⟩
theorem lf_mark {c : UInt8} (h : tokL [c] = .tok 4 [c] 0 1) : Lf [c] [(4, [c], 0)] := lf_tok h (by decide) (by decide)
theorem lf_quote (t : List UInt8) : Lf (quoteL t) [(3, t, 0)] := by
  refine lf_tok (l := quoteL t) ?_ (by decide) (by decide)
  unfold quoteL
  simp only [tokL]
  rw [if_neg (by decide), if_neg (by decide), if_pos (by decide), tx_qbs]
  simp
theorem tok_word {l : List UInt8} (h : nameL l = true) : tokL l = .tok 1 l 0 l.length := by
  cases l with
  | nil => cases h
  | cons c r =>
    unfold nameL at h
    simp only [Bool.and_eq_true, decide_eq_true_eq] at h
    obtain ⟨⟨h1, h2⟩, h3⟩ := h
    have hw : wordN (c :: r) = (c :: r).length := by
      unfold wordN
      have := tw_join (p := isW) (x := c :: r) (fun x hx => List.all_eq_true.1 h3 x hx) (y := []) (Bd.nil _)
      rw [List.append_nil] at this
      rw [this]
    simp only [tokL]
    rw [if_pos h2, hw, if_neg (by omega), List.take_length]
theorem lx_word {l : List UInt8} (h : nameL l = true) : Lx l [(1, l, 0)] := lx_tok (tok_word h)
theorem name_head {l : List UInt8} (h : nameL l = true) : ∃ c r, l = c :: r ∧ isL c = true := by
  cases l with
  | nil => cases h
  | cons c r =>
    unfold nameL at h
    simp only [Bool.and_eq_true, decide_eq_true_eq] at h
    exact ⟨c, r, rfl, h.1.2⟩

theorem dg_fin : ∀ d : Fin 10, isD (UInt8.ofNat (48 + d.val)) = true ∧ isL (UInt8.ofNat (48 + d.val)) = false ∧ (UInt8.ofNat (48 + d.val)).toNat - 48 = d.val := by decide +kernel
theorem dec_digits (u : Nat) : (∀ c ∈ Lib.decDigits u, isD c = true ∧ isL c = false) ∧ (Lib.decDigits u).foldl (fun x c => x * 10 + (c.toNat - 48)) 0 = u ∧ Lib.decDigits u ≠ [] := by
  induction u using Nat.strongRecOn with
  | _ u ih =>
    by_cases h : u < 10
    · rw [Lib.decDigits_one h]
      have := dg_fin ⟨u, h⟩
      refine ⟨fun c hc => ?_, ?_, nofun⟩
      · rw [List.mem_singleton] at hc
        subst hc
        exact ⟨this.1, this.2.1⟩
      · simp only [List.foldl_cons, List.foldl_nil]
        have h3 : (UInt8.ofNat (48 + u)).toNat - 48 = u := this.2.2
        omega
    · obtain ⟨i1, i2, i3⟩ := ih (u / 10) (by omega)
      have := dg_fin ⟨u % 10, by omega⟩
      rw [Lib.decDigits, dif_neg h]
      refine ⟨fun c hc => ?_, ?_, by simp⟩
      · rcases List.mem_append.1 hc with hc | hc
        · exact i1 c hc
        · rw [List.mem_singleton] at hc
          subst hc
          exact ⟨this.1, this.2.1⟩
      · rw [List.foldl_append, i2]
        simp only [List.foldl_cons, List.foldl_nil]
        have h3 : (UInt8.ofNat (48 + u % 10)).toNat - 48 = u % 10 := this.2.2
        omega
theorem tok_num {u : Nat} (h : u < 18446744073709551616) : tokL (Lib.decDigits u) = .tok 2 [] u (Lib.decDigits u).length := by
  obtain ⟨h1, h2, h3⟩ := dec_digits u
  generalize Lib.decDigits u = l at h1 h2 h3
  cases l with
  | nil => exact absurd rfl h3
  | cons c r =>
    have hn : numN (c :: r) = (c :: r).length := by
      unfold numN
      have := tw_join (p := isD) (x := c :: r) (fun x hx => (h1 x hx).1) (y := []) (Bd.nil _)
      rw [List.append_nil] at this
      rw [this]
    have hc := h1 c (.head _)
    simp only [tokL]
    have hv : numV (c :: r) = u := h2
    rw [hc.2, if_neg (by decide), if_pos hc.1, hn, List.take_length, hv, if_neg (by omega)]
theorem lx_num {u : Nat} (h : u < 18446744073709551616) : Lx (Lib.decDigits u) [(2, [], u)] := lx_tok (tok_num h)
theorem dec_head (u : Nat) : ∃ c r, Lib.decDigits u = c :: r ∧ isD c = true := by
  obtain ⟨h1, _, h3⟩ := dec_digits u
  generalize Lib.decDigits u = l at h1 h3
  cases l with
  | nil => exact absurd rfl h3
  | cons c r => exact ⟨c, r, rfl, (h1 c (.head _)).1⟩
theorem lf_blank : Lf [32] [] := lf_gap (by decide) (by decide)
theorem sep_of {c : UInt8} (r : List UInt8) (h : isW c = false) : Sep (c :: r) := ⟨c, r, rfl, h⟩
/-- the tokens of a whole text -/
theorem Lx.all {s : List UInt8} {ts : List Kn} (h : Lx s ts) (off : Nat) : ∃ l : List Tk, l.map kern = ts ∧ lexL s off = .ok (l ++ [endTk (off + s.length)]) := by
  obtain ⟨l, h1, h2⟩ := h [] off (Bd.nil _)
  refine ⟨l, h1, ?_⟩
  rw [List.append_nil] at h2
  rw [h2, lexL_done rfl]
  simp [LR.pre]
end Go.Proofs.YtipcgmaobiobbaaGreatDoor
/- Plain: the reader over the tokens of a printed expression. No walk here. -/
namespace Go.Proofs.YtipcgmaobiobbaaGreatDoor
open Go.RowKit

def Atk (T : List Tk) (i : Nat) (c : Kn) : Prop := ∃ x, T[i]? = some x ∧ kern x = c
def Toks (T : List Tk) (i : Nat) : List Kn → Prop
  | [] => True
  | c :: r => Atk T i c ∧ Toks T (i + 1) r
theorem toks_app {T : List Tk} : ∀ {a b : List Kn} {i : Nat}, Toks T i (a ++ b) ↔ Toks T i a ∧ Toks T (i + a.length) b
  | [], b, i => by simp [Toks]
  | c :: a, b, i => by
    show Atk T i c ∧ Toks T (i + 1) (a ++ b) ↔ (Atk T i c ∧ Toks T (i + 1) a) ∧ _
    rw [toks_app, List.length_cons, show i + 1 + a.length = i + (a.length + 1) by omega, and_assoc]
theorem Atk.lt {T : List Tk} {i : Nat} {c : Kn} (h : Atk T i c) : i < T.length := by
  obtain ⟨x, h, _⟩ := h
  exact (List.getElem?_eq_some_iff.1 h).1
theorem Toks.le {T : List Tk} : ∀ {a : List Kn} {i : Nat}, Toks T i a → a ≠ [] → i + a.length ≤ T.length
  | [], i, _, h => absurd rfl h
  | [c], i, h, _ => h.1.lt
  | c :: d :: a, i, h, _ => by
    have := Toks.le (a := d :: a) h.2 (by simp)
    simp only [List.length_cons] at this ⊢
    omega
theorem Toks.map {T : List Tk} {l : List Tk} {i : Nat} (h : ∀ j x, l[j]? = some x → T[i + j]? = some x) : Toks T i (l.map kern) := by
  induction l generalizing i with
  | nil => trivial
  | cons x l ih => exact ⟨⟨x, h 0 x rfl, rfl⟩, ih fun j y hy => by have := h (j + 1) y hy; rwa [show i + 1 + j = i + (j + 1) by omega]⟩

def PS.adv (p : PS) (n : Nat) (l : List Nd) (d : List Nat) : PS := ⟨p.i + n, p.plc, p.flt, p.nds ++ l, p.dps ++ d, p.opn⟩
theorem adv_adv (p : PS) (n m : Nat) (l k : List Nd) (d e : List Nat) : (p.adv n l d).adv m k e = p.adv (n + m) (l ++ k) (d ++ e) := by
  unfold PS.adv
  simp [Nat.add_assoc]
theorem adv_next (p : PS) (n : Nat) (l : List Nd) (d : List Nat) : (p.adv n l d).next = p.adv (n + 1) l d := rfl
theorem adv_zero (p : PS) : p.adv 0 [] [] = p := by unfold PS.adv; simp
theorem next_adv (p : PS) : p.next = p.adv 1 [] [] := by unfold PS.adv PS.next; simp
def PS.lv (p : PS) : PS := ⟨p.i + 1, p.plc, p.flt, p.nds, p.dps, p.opn + 1⟩
theorem lv_shut (p : PS) (n : Nat) (l : List Nd) (d : List Nat) : (p.lv.adv n l d).shut = p.adv (n + 1) l d := by
  unfold PS.lv PS.adv PS.shut
  simp only [PS.mk.injEq, true_and]
  omega
section
variable {T : List Tk} {p : PS}
theorem tok_kern {c : Kn} (h : Atk T p.i c) : kern (p.tok T) = c := by
  obtain ⟨x, h1, h2⟩ := h
  unfold PS.tok
  rw [h1]
  exact h2
theorem tok_k {k : Nat} {t : List UInt8} {n : Nat} (h : Atk T p.i (k, t, n)) : (p.tok T).k = k ∧ (p.tok T).t = t ∧ (p.tok T).n = n := by
  have := tok_kern h
  unfold kern at this
  simpa using this
theorem is_at {k : Nat} {t : List UInt8} {n : Nat} (h : Atk T p.i (k, t, n)) (h0 : p.flt = 0) (j : Nat) (s : List UInt8) : p.is T j s = (k == j && t == s) := by
  obtain ⟨h1, h2, _⟩ := tok_k h
  unfold PS.is
  rw [h0, h1, h2]
  rfl
theorem want_at {k : Nat} {t : List UInt8} {n : Nat} (h : Atk T p.i (k, t, n)) (h0 : p.flt = 0) : p.want T k t = p.next := by
  unfold PS.want
  rw [is_at h h0]
  simp
theorem mark_at {c : UInt8} {n : Nat} (h : Atk T p.i (4, [c], n)) (h0 : p.flt = 0) : p.mark T c = p.next := want_at h h0
theorem level_at (h0 : p.flt = 0) (ho : p.opn ≠ 100) : p.level T = p.lv := by
  unfold PS.level
  rw [if_neg (by omega), if_neg ho]
  rfl
end
def mx (l : List Nat) : Nat := l.foldl max 0
theorem foldl_max_le {l : List Nat} : ∀ {a m : Nat}, l.foldl max a ≤ m ↔ a ≤ m ∧ ∀ x ∈ l, x ≤ m := by
  induction l with
  | nil => simp
  | cons y l ih =>
    intro a m
    rw [List.foldl_cons, ih]
    simp only [List.mem_cons, forall_eq_or_imp]
    constructor
    · intro h; exact ⟨by omega, by omega, h.2⟩
    · intro h; exact ⟨by omega, h.2.2⟩
theorem mx_le {l : List Nat} {m : Nat} : mx l ≤ m ↔ ∀ x ∈ l, x ≤ m := by unfold mx; rw [foldl_max_le]; simp
theorem mx_same {l k : List Nat} (h : ∀ x, x ∈ l ↔ x ∈ k) : mx l = mx k :=
  Nat.le_antisymm (mx_le.2 fun x hx => mx_le.1 (Nat.le_refl _) x ((h x).1 hx)) (mx_le.2 fun x hx => mx_le.1 (Nat.le_refl _) x ((h x).2 hx))
theorem deepest_mx (ks : List Pe) : deepest ks = mx (ks.map (·.dp)) := by unfold deepest mx; rw [List.foldl_map]
theorem emit_adv {p : PS} (h0 : p.flt = 0) (n : Nat) (l : List Nd) (d : List Nat) (x : Nd) (k : Nat) (hk : d.length = k) (hd : mx d + 1 ≤ 100) : (p.adv n l d).emit x k = p.adv n (l ++ [x]) [mx d + 1] := by
  rw [emit_at (show (p.adv n l d).flt = 0 from h0)]
  have e : (p.adv n l d).dps = p.dps ++ d := rfl
  rw [e, List.length_append, show p.dps.length + d.length - k = p.dps.length by omega, List.drop_left, List.take_left]
  have hm : d.foldl max 0 + 1 ≤ 100 := hd
  rw [if_neg (by omega)]
  unfold PS.adv mx
  simp

/-- the same node but for its place -/
structure AlikeN (x : Rn) (y : Nd) : Prop where
  op : x.op = (y.op : Nat)
  n : x.n = (y.n : Nat)
  num : x.num = y.num
  t : x.t = y.t
/-- what a factor's tokens are read to -/
def FacOn (ts : List Kn) (dp : Nat) (L : List Rn) : Prop := ∀ (T : List Tk) (f : Nat) (p : PS), p.flt = 0 → Toks T p.i ts → 0 ≤ p.opn → p.opn + (dp : Nat) ≤ 101 → dp ≤ 100 → T.length < p.i + f →
  ∃ nds, Rel2 AlikeN L nds ∧ factorF T f p = p.adv ts.length nds [dp]
/-- a piece of a printed expression: its text, its tokens, how deep it is, its nodes -/
structure Rx where
  tx : List UInt8
  ts : List Kn
  dp : Nat
  L : List Rn
structure Rx.Ok (x : Rx) : Prop where
  lx : Lx x.tx x.ts
  on : FacOn x.ts x.dp x.L
  ne : x.ts ≠ []
  pos : 1 ≤ x.dp
/-- a token that ends an expression -/
abbrev Stop (c : Kn) : Prop := (c.1 == 4 && c.2.1 == [42]) = false ∧ (c.1 == 4 && c.2.1 == [43]) = false ∧ (c.1 == 4 && c.2.1 == [45]) = false
theorem term_stop {T : List Tk} {p : PS} {c : Kn} (h : Atk T p.i c) (h0 : p.flt = 0) (hc : (c.1 == 4 && c.2.1 == [42]) = false) (fac : PS → PS) : ∀ f, termLoop T fac f p = p
  | 0 => rfl
  | f + 1 => by unfold termLoop; rw [is_at h h0, hc, if_neg (by decide)]
theorem expr_stop {T : List Tk} {p : PS} {c : Kn} (h : Atk T p.i c) (h0 : p.flt = 0) (hc : Stop c) (fac : PS → PS) : ∀ f, exprLoop T fac f p = p
  | 0 => rfl
  | f + 1 => by unfold exprLoop; rw [is_at h h0, is_at h h0, hc.2.1, hc.2.2, if_neg (by decide)]
section
variable {T : List Tk} {f : Nat} {p : PS}
/-- a factor alone, as a term and as an expression -/
theorem term_on {x : Rx} (hx : x.Ok) (h0 : p.flt = 0) (ht : Toks T p.i x.ts) (ho : 0 ≤ p.opn) (hl : p.opn + (x.dp : Nat) ≤ 101) (hd : x.dp ≤ 100) (hf : T.length < p.i + f) {c : Kn} (hc : Atk T (p.i + x.ts.length) c) (hs : (c.1 == 4 && c.2.1 == [42]) = false) :
    ∃ nds, Rel2 AlikeN x.L nds ∧ termW T (factorF T f) p = p.adv x.ts.length nds [x.dp] := by
  obtain ⟨nds, h1, h2⟩ := hx.on T f p h0 ht ho hl hd hf
  refine ⟨nds, h1, ?_⟩
  unfold termW
  rw [h2]
  exact term_stop (p := p.adv x.ts.length nds [x.dp]) hc h0 hs _ _
theorem expr_on {x : Rx} (hx : x.Ok) (h0 : p.flt = 0) (ht : Toks T p.i x.ts) (ho : 0 ≤ p.opn) (hl : p.opn + (x.dp : Nat) ≤ 101) (hd : x.dp ≤ 100) (hf : T.length < p.i + f) {c : Kn} (hc : Atk T (p.i + x.ts.length) c) (hs : Stop c) :
    ∃ nds, Rel2 AlikeN x.L nds ∧ exprW T (factorF T f) p = p.adv x.ts.length nds [x.dp] := by
  obtain ⟨nds, h1, h2⟩ := term_on hx h0 ht ho hl hd hf hc hs.1
  refine ⟨nds, h1, ?_⟩
  unfold exprW
  rw [h2]
  exact expr_stop (p := p.adv x.ts.length nds [x.dp]) hc h0 hs _ _
/-- two with a mark between: + or - -/
theorem expr_two {x y : Rx} (hx : x.Ok) (hy : y.Ok) (h0 : p.flt = 0) {m : UInt8} (hm : m = 43 ∨ m = 45) (ht : Toks T p.i (x.ts ++ ((4, [m], 0) :: y.ts))) (ho : 0 ≤ p.opn) (hl : p.opn + (x.dp : Nat) ≤ 101) (hl' : p.opn + (y.dp : Nat) ≤ 101) (hd : mx [x.dp, y.dp] + 1 ≤ 100) (hf : T.length < p.i + f) {c : Kn} (hc : Atk T (p.i + (x.ts.length + 1 + y.ts.length)) c) (hs : Stop c) :
    ∃ nds a, Rel2 AlikeN (x.L ++ y.L) nds ∧ exprW T (factorF T f) p = p.adv (x.ts.length + 1 + y.ts.length) (nds ++ [⟨if m = 45 then 7 else 6, 0, 0, [], a⟩]) [mx [x.dp, y.dp] + 1] := by
  obtain ⟨t1, t2, t3⟩ := toks_app.1 ht
  have hxd : x.dp ≤ mx [x.dp, y.dp] := mx_le.1 (Nat.le_refl _) _ (by simp)
  have hyd : y.dp ≤ mx [x.dp, y.dp] := mx_le.1 (Nat.le_refl _) _ (by simp)
  obtain ⟨n1, r1, e1⟩ := term_on hx h0 t1 ho hl (by omega) hf t2 (by rcases hm with rfl | rfl <;> decide)
  have hi1 : (p.adv x.ts.length n1 [x.dp]).next.i = p.i + x.ts.length + 1 := rfl
  obtain ⟨n2, r2, e2⟩ := term_on (T := T) (f := f) (p := (p.adv x.ts.length n1 [x.dp]).next) hy h0 (by rw [hi1]; exact t3) ho hl' (by omega) (by rw [hi1]; omega) (c := c) (by rw [hi1, show p.i + x.ts.length + 1 + y.ts.length = p.i + (x.ts.length + 1 + y.ts.length) by omega]; exact hc) hs.1
  refine ⟨n1 ++ n2, ((p.adv x.ts.length n1 [x.dp]).tok T).a, r1.append r2, ?_⟩
  unfold exprW
  rw [e1]
  have hk := tok_k (p := p.adv x.ts.length n1 [x.dp]) t2
  unfold exprLoop
  rw [is_at (p := p.adv x.ts.length n1 [x.dp]) t2 h0, is_at (p := p.adv x.ts.length n1 [x.dp]) t2 h0, if_pos (by rcases hm with rfl | rfl <;> decide), e2, adv_next, adv_adv, hk.2.1, List.singleton_append, emit_adv h0 _ _ _ _ 2 rfl hd]
  have em : (if [m] = [(45 : UInt8)] then 7 else 6) = if m = 45 then 7 else 6 := by rcases hm with rfl | rfl <;> rfl
  rw [em, expr_stop (p := p.adv (x.ts.length + 1 + y.ts.length) (n1 ++ n2 ++ [_]) [_]) hc h0 hs]
theorem expr_mul {x y : Rx} (hx : x.Ok) (hy : y.Ok) (h0 : p.flt = 0) (ht : Toks T p.i (x.ts ++ ((4, [42], 0) :: y.ts))) (ho : 0 ≤ p.opn) (hl : p.opn + (x.dp : Nat) ≤ 101) (hl' : p.opn + (y.dp : Nat) ≤ 101) (hd : mx [x.dp, y.dp] + 1 ≤ 100) (hf : T.length < p.i + f) {c : Kn} (hc : Atk T (p.i + (x.ts.length + 1 + y.ts.length)) c) (hs : Stop c) :
    ∃ nds a, Rel2 AlikeN (x.L ++ y.L) nds ∧ exprW T (factorF T f) p = p.adv (x.ts.length + 1 + y.ts.length) (nds ++ [⟨8, 0, 0, [], a⟩]) [mx [x.dp, y.dp] + 1] := by
  obtain ⟨t1, t2, t3⟩ := toks_app.1 ht
  have hxd : x.dp ≤ mx [x.dp, y.dp] := mx_le.1 (Nat.le_refl _) _ (by simp)
  have hyd : y.dp ≤ mx [x.dp, y.dp] := mx_le.1 (Nat.le_refl _) _ (by simp)
  obtain ⟨n1, r1, e1⟩ := hx.on T f p h0 t1 ho hl (by omega) hf
  have hi1 : (p.adv x.ts.length n1 [x.dp]).next.i = p.i + x.ts.length + 1 := rfl
  obtain ⟨n2, r2, e2⟩ := hy.on T f (p.adv x.ts.length n1 [x.dp]).next h0 (by rw [hi1]; exact t3) ho hl' (by omega) (by rw [hi1]; omega)
  refine ⟨n1 ++ n2, ((p.adv x.ts.length n1 [x.dp]).tok T).a, r1.append r2, ?_⟩
  unfold exprW termW
  rw [e1]
  unfold termLoop
  rw [is_at (p := p.adv x.ts.length n1 [x.dp]) t2 h0, if_pos (by decide), e2, adv_next, adv_adv, List.singleton_append, emit_adv h0 _ _ _ _ 2 rfl hd]
  rw [term_stop (p := p.adv (x.ts.length + 1 + y.ts.length) (n1 ++ n2 ++ [_]) [_]) hc h0 hs.1, expr_stop (p := p.adv (x.ts.length + 1 + y.ts.length) (n1 ++ n2 ++ [_]) [_]) hc h0 hs]
/-- the operands behind the first -/
theorem args_on_ (k : Nat) : ∀ (xs : List Rx) (g n : Nat) (p : PS), (∀ x ∈ xs, x.Ok) → p.flt = 0 → Toks T p.i (xs.flatMap fun x => (4, [44], 0) :: x.ts) → 0 ≤ p.opn → (∀ x ∈ xs, p.opn + (x.dp : Nat) ≤ 101 ∧ x.dp ≤ 100) → T.length < p.i + f → xs.length < g → (k = 0 ∨ n + xs.length ≤ k) →
    Atk T (p.i + (xs.flatMap fun x => (4, [44], 0) :: x.ts).length) (4, [41], 0) →
    ∃ nds, Rel2 AlikeN (xs.flatMap (·.L)) nds ∧ argsLoop T (factorF T f) k g p n = (p.adv (xs.flatMap fun x => (4, [44], 0) :: x.ts).length nds (xs.map (·.dp)), n + xs.length)
  | [], g + 1, n, p, _, h0, _, _, _, _, _, _, hc => by
    refine ⟨[], .nil, ?_⟩
    unfold argsLoop
    rw [is_at (show Atk T p.i (4, [41], 0) from hc) h0, show ((4 : Nat) == 4 && [(41 : UInt8)] == [44]) = false by decide, Bool.false_and, if_neg (by decide)]
    show (p, n) = (p.adv 0 [] [], n + 0)
    rw [adv_zero]
    rfl
  | x :: xs, g + 1, n, p, hok, h0, ht, ho, hl, hf, hg, hk, hc => by
    rw [List.flatMap_cons] at ht hc
    obtain ⟨⟨t1, t2⟩, t3⟩ := toks_app.1 ht
    obtain ⟨hlx, hdx⟩ := hl x (.head _)
    have hend : ∃ c, Atk T (p.next.i + x.ts.length) c ∧ Stop c := by
      cases xs with
      | nil =>
        refine ⟨(4, [41], 0), ?_, by decide⟩
        simp only [List.flatMap_nil, List.append_nil, List.length_cons] at hc
        show Atk T (p.i + 1 + x.ts.length) _
        rwa [show p.i + 1 + x.ts.length = p.i + (x.ts.length + 1) by omega]
      | cons y ys =>
        refine ⟨(4, [44], 0), ?_, by decide⟩
        have := t3.1
        simp only [List.length_cons] at this
        show Atk T (p.i + 1 + x.ts.length) _
        rwa [show p.i + 1 + x.ts.length = p.i + (x.ts.length + 1) by omega]
    obtain ⟨c, hca, hcs⟩ := hend
    obtain ⟨n1, r1, e1⟩ := expr_on (T := T) (f := f) (p := p.next) (hok x (.head _)) h0 t2 ho hlx hdx (by show T.length < p.i + 1 + f; omega) hca hcs
    have hi : (p.next.adv x.ts.length n1 [x.dp]).i = p.i + (x.ts.length + 1) := by show p.i + 1 + x.ts.length = _; omega
    obtain ⟨n2, r2, e2⟩ := args_on_ k xs g (n + 1) (p.next.adv x.ts.length n1 [x.dp]) (fun y hy => hok y (.tail _ hy)) h0 (by rw [hi]; simpa using t3) ho (fun y hy => hl y (.tail _ hy)) (by rw [hi]; omega) (by simp only [List.length_cons] at hg; omega) (by simp only [List.length_cons] at hk; omega)
      (by rw [hi]; rw [List.length_append, List.length_cons] at hc; rwa [show p.i + (x.ts.length + 1) + (xs.flatMap fun x => ((4, [44], 0) : Kn) :: x.ts).length = p.i + (x.ts.length + 1 + (xs.flatMap fun x => ((4, [44], 0) : Kn) :: x.ts).length) by omega])
    refine ⟨n1 ++ n2, by rw [List.flatMap_cons]; exact r1.append r2, ?_⟩
    unfold argsLoop
    have hkk : (k == 0 || decide (n < k)) = true := by
      rcases hk with rfl | hk
      · rfl
      · rw [decide_eq_true (by simp only [List.length_cons] at hk; omega), Bool.or_true]
    rw [is_at t1 h0, show ((4 : Nat) == 4 && [(44 : UInt8)] == [44]) = true by decide, Bool.true_and, if_pos hkk, e1, e2, next_adv, adv_adv, adv_adv]
    rw [List.flatMap_cons, List.length_append, List.length_cons, List.map_cons, List.length_cons]
    rw [show 1 + (x.ts.length + (xs.flatMap fun x => ((4, [44], 0) : Kn) :: x.ts).length) = x.ts.length + 1 + (xs.flatMap fun x => ((4, [44], 0) : Kn) :: x.ts).length by omega, show n + 1 + xs.length = n + (xs.length + 1) by omega]
    rfl
end
end Go.Proofs.YtipcgmaobiobbaaGreatDoor
/- Plain: every printed expression is read back to its nodes, but for places. No walk here. -/
namespace Go.Proofs.YtipcgmaobiobbaaGreatDoor
open Go.RowKit

section
variable {T : List Tk} {p : PS} {fac : PS → PS} {n : Nat}
theorem fac_num {t : List UInt8} (h : Atk T p.i (2, t, n)) (h0 : p.flt = 0) : factorW T fac p = p.next.emit ⟨1, 0, n, [], (p.tok T).a⟩ 0 := by
  obtain ⟨hk, ht, hn⟩ := tok_k h
  unfold factorW
  dsimp only
  rw [if_neg (show ¬ p.flt ≠ 0 by omega), if_pos hk, hn]
theorem fac_text {t : List UInt8} (h : Atk T p.i (3, t, n)) (h0 : p.flt = 0) : factorW T fac p = p.next.emit ⟨2, 0, 0, t, (p.tok T).a⟩ 0 := by
  obtain ⟨hk, ht, hn⟩ := tok_k h
  unfold factorW
  dsimp only
  rw [if_neg (show ¬ p.flt ≠ 0 by omega), if_neg (by omega), if_pos hk, ht]
theorem fac_true (h : Atk T p.i (1, sTrue, n)) (h0 : p.flt = 0) : factorW T fac p = p.next.emit ⟨3, 0, 0, [], (p.tok T).a⟩ 0 := by
  obtain ⟨hk, ht, hn⟩ := tok_k h
  unfold factorW
  dsimp only
  rw [if_neg (show ¬ p.flt ≠ 0 by omega), if_neg (by omega), if_neg (by omega), is_at h h0, if_pos (by decide +kernel)]
theorem fac_false (h : Atk T p.i (1, sFalse, n)) (h0 : p.flt = 0) : factorW T fac p = p.next.emit ⟨4, 0, 0, [], (p.tok T).a⟩ 0 := by
  obtain ⟨hk, ht, hn⟩ := tok_k h
  unfold factorW
  dsimp only
  rw [if_neg (show ¬ p.flt ≠ 0 by omega), if_neg (by omega), if_neg (by omega), is_at h h0, if_neg (by decide +kernel), is_at h h0, if_pos (by decide +kernel)]
theorem fac_neg (h : Atk T p.i (4, [45], n)) (h0 : p.flt = 0) : factorW T fac p = ((fac (p.level T)).emit ⟨5, 0, 0, [], (p.tok T).a⟩ 1).shut := by
  obtain ⟨hk, ht, hn⟩ := tok_k h
  unfold factorW
  dsimp only
  rw [if_neg (show ¬ p.flt ≠ 0 by omega), if_neg (by omega), if_neg (by omega), is_at h h0, if_neg (by decide +kernel), is_at h h0, if_neg (by decide +kernel), is_at h h0, if_pos (by decide +kernel)]
theorem fac_open (h : Atk T p.i (4, [40], n)) (h0 : p.flt = 0) : factorW T fac p = ((exprW T fac (p.level T)).mark T 41).shut := by
  obtain ⟨hk, ht, hn⟩ := tok_k h
  unfold factorW
  dsimp only
  rw [if_neg (show ¬ p.flt ≠ 0 by omega), if_neg (by omega), if_neg (by omega), is_at h h0, if_neg (by decide +kernel), is_at h h0, if_neg (by decide +kernel), is_at h h0, if_neg (by decide +kernel), is_at h h0, if_pos (by decide +kernel)]
def wCat : List UInt8 := [99, 97, 116]
def wRep : List UInt8 := [114, 101, 112]
def wLen : List UInt8 := [108, 101, 110]
def wHex : List UInt8 := [104, 101, 120]
/-- the four calls: a word, its Op, how many operands (0: any) -/
def isCall (s : List UInt8) (op k : Nat) : Prop := (s = wCat ∧ op = 9 ∧ k = 0) ∨ (s = wRep ∧ op = 10 ∧ k = 2) ∨ (s = wLen ∧ op = 11 ∧ k = 1) ∨ (s = wHex ∧ op = 12 ∧ k = 1)
theorem fac_call {s : List UInt8} {op k : Nat} (hs : isCall s op k) (h : Atk T p.i (1, s, n)) (h0 : p.flt = 0) : factorW T fac p = callW T fac op k p := by
  obtain ⟨hk, ht, hn⟩ := tok_k h
  unfold factorW
  dsimp only
  rcases hs with ⟨rfl, rfl, rfl⟩ | ⟨rfl, rfl, rfl⟩ | ⟨rfl, rfl, rfl⟩ | ⟨rfl, rfl, rfl⟩
  · rw [if_neg (show ¬ p.flt ≠ 0 by omega), if_neg (by omega), if_neg (by omega), is_at h h0, if_neg (by decide +kernel), is_at h h0, if_neg (by decide +kernel), is_at h h0, if_neg (by decide +kernel), is_at h h0, if_neg (by decide +kernel), is_at h h0, if_pos (by decide +kernel)]
  · rw [if_neg (show ¬ p.flt ≠ 0 by omega), if_neg (by omega), if_neg (by omega), is_at h h0, if_neg (by decide +kernel), is_at h h0, if_neg (by decide +kernel), is_at h h0, if_neg (by decide +kernel), is_at h h0, if_neg (by decide +kernel), is_at h h0, if_neg (by decide +kernel), is_at h h0, if_pos (by decide +kernel)]
  · rw [if_neg (show ¬ p.flt ≠ 0 by omega), if_neg (by omega), if_neg (by omega), is_at h h0, if_neg (by decide +kernel), is_at h h0, if_neg (by decide +kernel), is_at h h0, if_neg (by decide +kernel), is_at h h0, if_neg (by decide +kernel), is_at h h0, if_neg (by decide +kernel), is_at h h0, if_neg (by decide +kernel), is_at h h0, if_pos (by decide +kernel)]
  · rw [if_neg (show ¬ p.flt ≠ 0 by omega), if_neg (by omega), if_neg (by omega), is_at h h0, if_neg (by decide +kernel), is_at h h0, if_neg (by decide +kernel), is_at h h0, if_neg (by decide +kernel), is_at h h0, if_neg (by decide +kernel), is_at h h0, if_neg (by decide +kernel), is_at h h0, if_neg (by decide +kernel), is_at h h0, if_neg (by decide +kernel), is_at h h0, if_pos (by decide +kernel)]
end

/-- the nodes from a place to a place -/
def seg (N : List Rn) (a b : Nat) : List Rn := (N.drop a).take (b - a)
theorem seg_one {N : List Rn} {r : Nat} {y : Rn} (h : N[r]? = some y) : seg N r (r + 1) = [y] := by
  obtain ⟨hl, hy⟩ := List.getElem?_eq_some_iff.1 h
  unfold seg
  rw [show r + 1 - r = 1 by omega, List.drop_eq_getElem_cons hl, hy]
  rfl
theorem seg_app {N : List Rn} {a b c : Nat} (h1 : a ≤ b) (h2 : b ≤ c) : seg N a b ++ seg N b c = seg N a c := by
  unfold seg
  rw [show c - a = (b - a) + (c - b) by omega, List.take_add, List.drop_drop, show a + (b - a) = b by omega]
theorem seg_all (N : List Rn) : seg N 0 N.length = N := by unfold seg; simp
theorem seg_nil (N : List Rn) (a : Nat) : seg N a a = [] := by unfold seg; simp
theorem seg_kids {N : List Rn} : ∀ (P : List Pe) (i k : Nat), Chain P i → (P.take k).reverse.flatMap (fun e => seg N e.fi (e.r + 1)) = seg N (bottom i (P.take k)) i
  | [], i, k, _ => by simp [bottom, seg_nil]
  | e :: P, i, 0, _ => by simp [bottom, seg_nil]
  | e :: P, i, k + 1, h => by
    rw [List.take_succ_cons, List.reverse_cons, List.flatMap_append, seg_kids P e.fi k h.2.2]
    show _ ++ (seg N e.fi (e.r + 1) ++ []) = seg N (bottom e.fi (P.take k)) i
    have h1 := bottom_le P e.fi k h.2.2
    have h2 := h.1
    have h3 := h.2.1
    rw [List.append_nil, h2, seg_app h1 (by omega)]

/-- a leaf -/
theorem leaf_ok {s : List UInt8} {c : Kn} {y : Rn} (hl : Lx s [c]) (h : ∀ (T : List Tk) (fac : PS → PS) (p : PS), p.flt = 0 → Atk T p.i c → ∃ x, AlikeN y x ∧ factorW T fac p = p.next.emit x 0) : Rx.Ok ⟨s, [c], 1, [y]⟩ := by
  refine ⟨hl, ?_, by simp, Nat.le_refl _⟩
  intro T f p h0 ht _ _ _ hf
  have hlt := ht.1.lt
  obtain ⟨g, rfl⟩ : ∃ g, f = g + 1 := ⟨f - 1, by omega⟩
  obtain ⟨x, hx, he⟩ := h T (factorF T g) p h0 ht.1
  refine ⟨[x], Rel2.one hx, ?_⟩
  show factorW T (factorF T g) p = _
  rw [he, next_adv, emit_adv h0 _ _ _ _ 0 rfl (by decide)]
  rfl
theorem lf_plus (m : UInt8) (hm : m = 43 ∨ m = 45 ∨ m = 42) : Lf [32, m, 32] [(4, [m], 0)] := by
  have h : Lf [m] [(4, [m], 0)] := by rcases hm with rfl | rfl | rfl <;> exact lf_mark rfl
  exact lf_blank.free (h.free lf_blank)
theorem two_ok {x z : Rx} (hx : x.Ok) (hz : z.Ok) {m : UInt8} (hm : m = 43 ∨ m = 45 ∨ m = 42) {y : Rn} (hop : y.op = (if m = 42 then 8 else if m = 45 then 7 else 6 : Nat)) (hn : y.n = 0) (hu : y.num = 0) (ht : y.t = []) :
    Rx.Ok ⟨[40] ++ (x.tx ++ ([32, m, 32] ++ z.tx)) ++ [41], (4, [40], 0) :: (x.ts ++ ((4, [m], 0) :: z.ts)) ++ [(4, [41], 0)], mx [x.dp, z.dp] + 1, x.L ++ z.L ++ [y]⟩ := by
  refine ⟨?_, ?_, by simp, Nat.le_add_left 1 _⟩
  · have h1 : Lx (x.tx ++ ([32, m, 32] ++ z.tx)) (x.ts ++ ([(4, [m], 0)] ++ z.ts)) := hx.lx.sep ((lf_plus m hm).app hz.lx) (sep_of _ (by decide))
    exact (((lf_mark (c := 40) rfl).app h1).free (lf_mark (c := 41) rfl) (sep_of _ (by decide))).lx
  · intro T f p h0 htk ho hl hd hf
    obtain ⟨⟨t1, t2⟩, t3⟩ := (toks_app (a := (4, [40], 0) :: (x.ts ++ ((4, [m], 0) :: z.ts)))).1 htk
    have t3 := t3.1
    simp only [List.length_cons, List.length_append] at t3
    have hlt := t1.lt
    obtain ⟨g, rfl⟩ : ∃ g, f = g + 1 := ⟨f - 1, by omega⟩
    have hxd : x.dp ≤ mx [x.dp, z.dp] := mx_le.1 (Nat.le_refl _) _ (by simp)
    have hzd : z.dp ≤ mx [x.dp, z.dp] := mx_le.1 (Nat.le_refl _) _ (by simp)
    have hdz : (((mx [x.dp, z.dp] + 1 : Nat)) : Int) = (mx [x.dp, z.dp] : Nat) + 1 := by omega
    have hl : p.opn + ((mx [x.dp, z.dp] + 1 : Nat) : Int) ≤ 101 := hl
    have hd : mx [x.dp, z.dp] + 1 ≤ 100 := hd
    have hp := hx.pos
    have key : ∃ nds a, Rel2 AlikeN (x.L ++ z.L) nds ∧ exprW T (factorF T g) p.lv = p.lv.adv (x.ts.length + 1 + z.ts.length) (nds ++ [⟨if m = 42 then 8 else if m = 45 then 7 else 6, 0, 0, [], a⟩]) [mx [x.dp, z.dp] + 1] := by
      have e1 : p.lv.opn = p.opn + 1 := rfl
      have e2 : p.lv.i = p.i + 1 := rfl
      have hc : Atk T (p.lv.i + (x.ts.length + 1 + z.ts.length)) (4, [41], 0) := by rw [e2, show p.i + 1 + (x.ts.length + 1 + z.ts.length) = p.i + (x.ts.length + (z.ts.length + 1) + 1) by omega]; exact t3
      by_cases h42 : m = 42
      · subst h42
        exact expr_mul hx hz h0 t2 (by omega) (by omega) (by omega) hd (by omega) hc (by decide)
      · obtain ⟨nds, a, r, e⟩ := expr_two (T := T) (f := g) (p := p.lv) hx hz h0 (m := m) (by rcases hm with h | h | h; exact .inl h; exact .inr h; exact absurd h h42) t2 (by omega) (by omega) (by omega) hd (by omega) hc (by decide)
        exact ⟨nds, a, r, by rw [e, if_neg h42]⟩
    obtain ⟨nds, a, r, e⟩ := key
    refine ⟨nds ++ [⟨if m = 42 then 8 else if m = 45 then 7 else 6, 0, 0, [], a⟩], r.append (Rel2.one ⟨hop, hn, hu, ht⟩), ?_⟩
    show factorW T (factorF T g) p = _
    rw [fac_open t1 h0, level_at h0 (by omega), e, mark_at (p := p.lv.adv _ _ _) (c := 41) (n := 0) (by show Atk T (p.i + 1 + _) _; rw [show p.i + 1 + (x.ts.length + 1 + z.ts.length) = p.i + (x.ts.length + (z.ts.length + 1) + 1) by omega]; exact t3) h0, adv_next, lv_shut]
    have el : x.ts.length + 1 + z.ts.length + 1 + 1 = ((4, [40], 0) :: (x.ts ++ ((4, [m], 0) :: z.ts)) ++ [((4, [41], 0) : Kn)]).length := by
      simp only [List.length_cons, List.length_append, List.length_nil]
      omega
    rw [el]
theorem neg_ok {x : Rx} (hx : x.Ok) {y : Rn} (hop : y.op = 5) (hn : y.n = 0) (hu : y.num = 0) (ht : y.t = []) : Rx.Ok ⟨[45] ++ x.tx, (4, [45], 0) :: x.ts, x.dp + 1, x.L ++ [y]⟩ := by
  refine ⟨(lf_mark (c := 45) rfl).app hx.lx, ?_, by simp, Nat.le_add_left 1 _⟩
  intro T f p h0 htk ho hl hd hf
  obtain ⟨t1, t2⟩ := htk
  have hlt := t1.lt
  obtain ⟨g, rfl⟩ : ∃ g, f = g + 1 := ⟨f - 1, by omega⟩
  have hl : p.opn + ((x.dp + 1 : Nat) : Int) ≤ 101 := hl
  have hd : x.dp + 1 ≤ 100 := hd
  have hp := hx.pos
  have e1 : p.lv.opn = p.opn + 1 := rfl
  have e2 : p.lv.i = p.i + 1 := rfl
  obtain ⟨nds, r, e⟩ := hx.on T g p.lv h0 t2 (by omega) (by omega) (by omega) (by omega)
  refine ⟨nds ++ [⟨5, 0, 0, [], (p.tok T).a⟩], r.append (Rel2.one ⟨hop, hn, hu, ht⟩), ?_⟩
  show factorW T (factorF T g) p = _
  have hm : mx [x.dp] = x.dp := by show max 0 x.dp = _; omega
  rw [fac_neg t1 h0, level_at h0 (by omega), e, emit_adv (p := p.lv) h0 _ _ _ _ 1 rfl (by rw [hm]; omega), lv_shut, hm]
  rfl
theorem args_le : ∀ (xs : List Rx), xs.length ≤ (xs.flatMap fun x => ((4, [44], 0) : Kn) :: x.ts).length
  | [] => Nat.le_refl _
  | z :: zs => by
    have := args_le zs
    rw [List.flatMap_cons, List.length_append, List.length_cons, List.length_cons]
    omega
theorem two_of {α : Type} {l : List α} (h : l.length = 2) : ∃ x y, l = [x, y] := by
  match l, h with
  | [x, y], _ => exact ⟨x, y, rfl⟩
theorem lx_args : ∀ (xs : List Rx), (∀ x ∈ xs, x.Ok) → Lx ((xs.map (·.tx)).flatMap fun x => [44, 32] ++ x) (xs.flatMap fun x => (4, [44], 0) :: x.ts) ∧ ∀ y, Bd isW y → Bd isW (((xs.map (·.tx)).flatMap fun x => [44, 32] ++ x) ++ y)
  | [], _ => ⟨Lf.nil.lx, fun _ h => h⟩
  | x :: xs, h => by
    obtain ⟨h1, h2⟩ := lx_args xs fun y hy => h y (.tail _ hy)
    have hc : Lf [44, 32] [(4, [44], 0)] := (lf_mark (c := 44) rfl).free lf_blank
    refine ⟨?_, fun y _ => ?_⟩
    · have := hc.app ((h x (.head _)).lx.app h1 h2)
      simpa [List.flatMap_cons] using this
    · rw [List.map_cons, List.flatMap_cons]
      exact Bd.cons _ (by decide)
theorem call_ok {x : Rx} {xs : List Rx} (hx : x.Ok) (hxs : ∀ z ∈ xs, z.Ok) {s : List UInt8} {op k : Nat} (hs : isCall s op k) (hk : k = 0 ∨ 1 + xs.length = k) {y : Rn} (hop : y.op = (op : Nat)) (hn : y.n = (if op = 9 then 1 + xs.length else 0 : Nat)) (hu : y.num = 0) (ht : y.t = []) :
    Rx.Ok ⟨(s ++ [40]) ++ inter [44, 32] ((x :: xs).map (·.tx)) ++ [41], (1, s, 0) :: (4, [40], 0) :: (x.ts ++ (xs.flatMap fun x => (4, [44], 0) :: x.ts)) ++ [(4, [41], 0)], mx ((x :: xs).map (·.dp)) + 1, (x :: xs).flatMap (·.L) ++ [y]⟩ := by
  refine ⟨?_, ?_, by simp, Nat.le_add_left 1 _⟩
  · obtain ⟨h1, h2⟩ := lx_args xs hxs
    have hw : Lx s [(1, s, 0)] := lx_word (by rcases hs with ⟨rfl, _⟩ | ⟨rfl, _⟩ | ⟨rfl, _⟩ | ⟨rfl, _⟩ <;> decide)
    have ha : Lf (s ++ [40]) ([(1, s, 0)] ++ [(4, [40], 0)]) := hw.free (lf_mark (c := 40) rfl) (sep_of _ (by decide))
    have hb := (ha.app (hx.lx.app h1 h2)).free (lf_mark (c := 41) rfl) (sep_of _ (by decide))
    exact hb.lx
  · intro T f p h0 htk ho hl hd hf
    obtain ⟨⟨t1, t2, t3⟩, t4⟩ := (toks_app (a := (1, s, 0) :: (4, [40], 0) :: (x.ts ++ (xs.flatMap fun x => (4, [44], 0) :: x.ts)))).1 htk
    obtain ⟨t3, t5⟩ := toks_app.1 t3
    have t4 := t4.1
    simp only [List.length_cons, List.length_append] at t4
    obtain ⟨m, hm⟩ : ∃ m, (xs.flatMap fun x => ((4, [44], 0) : Kn) :: x.ts).length = m := ⟨_, rfl⟩
    have hlt := t1.lt
    have hlt4 := t4.lt
    rw [hm] at t4 hlt4
    obtain ⟨g, rfl⟩ : ∃ g, f = g + 1 := ⟨f - 1, by omega⟩
    have hl : p.opn + ((mx ((x :: xs).map (·.dp)) + 1 : Nat) : Int) ≤ 101 := hl
    have hd : mx ((x :: xs).map (·.dp)) + 1 ≤ 100 := hd
    have hxd : ∀ z ∈ x :: xs, z.dp ≤ mx ((x :: xs).map (·.dp)) := fun z hz => mx_le.1 (Nat.le_refl _) _ (List.mem_map.2 ⟨z, hz, rfl⟩)
    have hx1 := hxd x (.head _)
    have hp := hx.pos
    have e1 : p.lv.next.opn = p.opn + 1 := rfl
    have e2 : p.lv.next.i = p.i + 1 + 1 := rfl
    have hend : ∃ c, Atk T (p.lv.next.i + x.ts.length) c ∧ Stop c := by
      cases xs with
      | nil =>
        refine ⟨(4, [41], 0), ?_, by decide⟩
        obtain rfl : m = 0 := by rw [← hm]; rfl
        rw [e2, show p.i + 1 + 1 + x.ts.length = p.i + (x.ts.length + 0 + 1 + 1) by omega]
        exact t4
      | cons z zs => exact ⟨(4, [44], 0), t5.1, by decide⟩
    obtain ⟨c, hca, hcs⟩ := hend
    obtain ⟨n1, r1, q1⟩ := expr_on (T := T) (f := g) (p := p.lv.next) hx h0 t3 (by omega) (by omega) (by omega) (by omega) hca hcs
    have e3 : (p.lv.next.adv x.ts.length n1 [x.dp]).i = p.i + 1 + 1 + x.ts.length := rfl
    have e4 : (p.lv.next.adv x.ts.length n1 [x.dp]).opn = p.opn + 1 := rfl
    have hxl : xs.length ≤ m := by rw [← hm]; exact args_le xs
    obtain ⟨n2, r2, q2⟩ := args_on_ (T := T) (f := g) k xs (T.length + 1) 1 (p.lv.next.adv x.ts.length n1 [x.dp]) hxs h0 t5 (by omega) (fun z hz => by have := hxd z (.tail _ hz); constructor <;> omega) (by omega) (by omega) (by omega) (by rw [hm, e3, show p.i + 1 + 1 + x.ts.length + m = p.i + (x.ts.length + m + 1 + 1) by omega]; exact t4)
    have ea : p.lv.next.adv x.ts.length n1 [x.dp] = p.lv.adv (1 + x.ts.length) n1 [x.dp] := by rw [next_adv, adv_adv]; rfl
    refine ⟨(n1 ++ n2) ++ [⟨op, if op = 9 then 1 + xs.length else 0, 0, [], (p.tok T).a⟩], Rel2.append (by rw [List.flatMap_cons]; exact r1.append r2) (Rel2.one ⟨hop, hn, hu, ht⟩), ?_⟩
    show factorW T (factorF T g) p = _
    rw [fac_call hs t1 h0]
    unfold callW
    dsimp only
    rw [level_at h0 (by omega), mark_at (p := p.lv) t2 h0, q1, q2]
    dsimp only
    rw [if_neg (by omega), hm, ea, adv_adv, mark_at (p := p.lv.adv _ _ _) (c := 41) (n := 0) (by show Atk T (p.i + 1 + _) _; rw [show p.i + 1 + (1 + x.ts.length + m) = p.i + (x.ts.length + m + 1 + 1) by omega]; exact t4) h0, adv_next, emit_adv (p := p.lv) h0 _ _ _ _ (1 + xs.length) (by simp; omega) (by simpa using hd), lv_shut]
    have el : 1 + x.ts.length + m + 1 + 1 = ((1, s, 0) :: (4, [40], 0) :: (x.ts ++ (xs.flatMap fun x => (4, [44], 0) :: x.ts)) ++ [((4, [41], 0) : Kn)]).length := by
      simp only [List.length_cons, List.length_append, List.length_nil, hm]
      omega
    rw [el]
    rfl

/-- kids, one by one -/
theorem kids_rx {N : List Rn} : ∀ (K : List Pe), (∀ e ∈ K, ∃ x : Rx, x.tx = e.tx ∧ x.dp = e.dp ∧ x.L = seg N e.fi (e.r + 1) ∧ x.Ok) → ∃ xs : List Rx, xs.map (·.tx) = K.map (·.tx) ∧ xs.map (·.dp) = K.map (·.dp) ∧ xs.flatMap (·.L) = K.flatMap (fun e => seg N e.fi (e.r + 1)) ∧ ∀ x ∈ xs, x.Ok
  | [], _ => ⟨[], rfl, rfl, rfl, nofun⟩
  | e :: K, h => by
    obtain ⟨x, h1, h2, h3, h4⟩ := h e (.head _)
    obtain ⟨xs, g1, g2, g3, g4⟩ := kids_rx K fun e he => h e (.tail _ he)
    refine ⟨x :: xs, by rw [List.map_cons, List.map_cons, h1, g1], by rw [List.map_cons, List.map_cons, h2, g2], by rw [List.flatMap_cons, List.flatMap_cons, h3, g3], fun z hz => ?_⟩
    rcases List.mem_cons.1 hz with rfl | hz
    · exact h4
    · exact g4 z hz
theorem arity_rest {y : Rn} {k : Nat} (h : arity y = some k) : (y.op = 1 → y.n = 0 ∧ y.t = []) ∧ (y.op = 2 → y.n = 0 ∧ y.num = 0) ∧ (y.op = 9 → y.n = (k : Nat) ∧ y.num = 0 ∧ y.t = []) ∧ (y.op ≠ 1 → y.op ≠ 2 → y.op ≠ 9 → y.n = 0 ∧ y.num = 0 ∧ y.t = []) := by
  unfold arity at h
  by_cases h1 : y.op = 1
  · rw [if_pos h1] at h
    split at h
    · rename_i q
      exact ⟨fun _ => q, fun e => by omega, fun e => by omega, fun e => absurd h1 e⟩
    · cases h
  · rw [if_neg h1] at h
    by_cases h2 : y.op = 2
    · rw [if_pos h2] at h
      split at h
      · rename_i q
        exact ⟨fun e => absurd e h1, fun _ => q, fun e => by omega, fun _ e => absurd h2 e⟩
      · cases h
    · rw [if_neg h2] at h
      by_cases h9 : y.op = 9
      · rw [if_pos h9] at h
        split at h
        · rename_i q
          have := Option.some.inj h
          exact ⟨fun e => absurd e h1, fun e => absurd e h2, fun _ => ⟨by omega, q.2⟩, fun _ _ e => absurd h9 e⟩
        · cases h
      · rw [if_neg h9] at h
        split at h
        · rename_i q
          exact ⟨fun e => absurd e h1, fun e => absurd e h2, fun e => absurd e h9, fun _ _ _ => q⟩
        · cases h
theorem pe_rx {N : List Rn} (hN : ∀ y ∈ N, y.num < 18446744073709551616) : ∀ (r : Nat) (e : Pe), peAt N r e → ∃ x : Rx, x.tx = e.tx ∧ x.dp = e.dp ∧ x.L = seg N e.fi (r + 1) ∧ x.Ok := by
  intro r
  induction r using Nat.strongRecOn with
  | ind r IH =>
    intro e he
    obtain ⟨Pq, hpile⟩ := he
    obtain ⟨P, y, k, hP, hy, ha, hk, hq⟩ := pile_succ hpile
    injection hq with hq _
    subst hq
    have hc := pile_chain r P hP
    have hb := bottom_le P r k hc
    have hyN := hN y (List.mem_of_getElem? hy)
    obtain ⟨xs, x1, x2, x3, x4⟩ := kids_rx (N := N) (P.take k).reverse fun e he => by
      have hm : e ∈ P := List.mem_of_mem_take (List.mem_reverse.1 he)
      obtain ⟨m1, P', m2⟩ := pile_mem r P hP e hm
      exact IH e.r m1 e ⟨P', m2⟩
    rw [seg_kids P r k hc] at x3
    have hlen : xs.length = k := by
      have := congrArg List.length x1
      rw [List.length_map, List.length_map, List.length_reverse, List.length_take] at this
      omega
    have hL : seg N (bottom r (P.take k)) (r + 1) = xs.flatMap (·.L) ++ [y] := by rw [← seg_app hb (Nat.le_succ r), seg_one hy, x3]
    have hD : deepest (P.take k) = mx (xs.map (·.dp)) := by
      rw [deepest_mx, x2]
      exact mx_same fun z => by simp
    have htx : (overP r y (P.take k)).tx = aheadL y ++ inter (betwL y) (xs.map (·.tx)) ++ behL y := by rw [x1]; rfl
    have hdp : (overP r y (P.take k)).dp = mx (xs.map (·.dp)) + 1 := by rw [← hD]; rfl
    rw [htx, hdp]
    show ∃ x : Rx, _ ∧ _ ∧ x.L = seg N (bottom r (P.take k)) (r + 1) ∧ _
    rw [hL]
    clear x1 x2 x3 hL hD htx hdp
    obtain ⟨a1, a2, a9, a0⟩ := arity_rest ha
    rcases arity_op ha with ⟨ho, hk0⟩ | ⟨ho, hk0⟩ | ⟨ho, hk0⟩ | ⟨ho, hk0⟩ | ⟨ho, hk0⟩ | ⟨ho, hk0⟩ | ⟨ho, hk0⟩ | ⟨ho, hk0⟩ | ⟨ho, hk0⟩ | ⟨ho, hk0⟩ | ⟨ho, hk0⟩ | ⟨ho, hk0⟩
    · obtain rfl : xs = [] := List.length_eq_zero_iff.1 (by omega)
      refine ⟨⟨Lib.decDigits y.num, [(2, [], y.num)], 1, [y]⟩, by simp [aheadL, behL, ho, inter], rfl, by simp, leaf_ok (lx_num hyN) fun T fac p h0 hat => ⟨_, ⟨ho, (a1 ho).1, rfl, (a1 ho).2⟩, fac_num hat h0⟩⟩
    · obtain rfl : xs = [] := List.length_eq_zero_iff.1 (by omega)
      refine ⟨⟨quoteL y.t, [(3, y.t, 0)], 1, [y]⟩, by simp [aheadL, behL, ho, inter], rfl, by simp, leaf_ok (lf_quote y.t).lx fun T fac p h0 hat => ⟨_, ⟨ho, (a2 ho).1, (a2 ho).2, rfl⟩, fac_text hat h0⟩⟩
    · obtain rfl : xs = [] := List.length_eq_zero_iff.1 (by omega)
      obtain ⟨b1, b2, b3⟩ := a0 (by omega) (by omega) (by omega)
      refine ⟨⟨sTrue, [(1, sTrue, 0)], 1, [y]⟩, by simp [aheadL, behL, ho, inter], rfl, by simp, leaf_ok (lx_word (by decide)) fun T fac p h0 hat => ⟨_, ⟨ho, b1, b2, b3⟩, fac_true hat h0⟩⟩
    · obtain rfl : xs = [] := List.length_eq_zero_iff.1 (by omega)
      obtain ⟨b1, b2, b3⟩ := a0 (by omega) (by omega) (by omega)
      refine ⟨⟨sFalse, [(1, sFalse, 0)], 1, [y]⟩, by simp [aheadL, behL, ho, inter], rfl, by simp, leaf_ok (lx_word (by decide)) fun T fac p h0 hat => ⟨_, ⟨ho, b1, b2, b3⟩, fac_false hat h0⟩⟩
    · obtain ⟨x, rfl⟩ := List.length_eq_one_iff.1 (show xs.length = 1 by omega)
      obtain ⟨b1, b2, b3⟩ := a0 (by omega) (by omega) (by omega)
      refine ⟨_, ?_, ?_, ?_, neg_ok (x4 x (.head _)) ho b1 b2 b3⟩
      · simp [aheadL, behL, ho, inter]
      · show x.dp + 1 = max 0 x.dp + 1; omega
      · simp
    · obtain ⟨x, z, rfl⟩ := two_of (show xs.length = 2 by omega)
      obtain ⟨b1, b2, b3⟩ := a0 (by omega) (by omega) (by omega)
      refine ⟨_, ?_, ?_, ?_, two_ok (m := 43) (x4 x (.head _)) (x4 z (.tail _ (.head _))) (.inl rfl) ho b1 b2 b3⟩
      · simp [aheadL, betwL, behL, ho, inter]
      · rfl
      · simp
    · obtain ⟨x, z, rfl⟩ := two_of (show xs.length = 2 by omega)
      obtain ⟨b1, b2, b3⟩ := a0 (by omega) (by omega) (by omega)
      refine ⟨_, ?_, ?_, ?_, two_ok (m := 45) (x4 x (.head _)) (x4 z (.tail _ (.head _))) (.inr (.inl rfl)) ho b1 b2 b3⟩
      · simp [aheadL, betwL, behL, ho, inter]
      · rfl
      · simp
    · obtain ⟨x, z, rfl⟩ := two_of (show xs.length = 2 by omega)
      obtain ⟨b1, b2, b3⟩ := a0 (by omega) (by omega) (by omega)
      refine ⟨_, ?_, ?_, ?_, two_ok (m := 42) (x4 x (.head _)) (x4 z (.tail _ (.head _))) (.inr (.inr rfl)) ho b1 b2 b3⟩
      · simp [aheadL, betwL, behL, ho, inter]
      · rfl
      · simp
    · obtain ⟨b1, b2, b3⟩ := a9 ho
      cases xs with
      | nil => simp at hlen; omega
      | cons x xs =>
        rw [List.length_cons] at hlen
        refine ⟨_, ?_, ?_, ?_, call_ok (s := wCat) (op := 9) (k := 0) (x4 x (.head _)) (fun z hz => x4 z (.tail _ hz)) (.inl ⟨rfl, rfl, rfl⟩) (.inl rfl) ho (by rw [if_pos rfl, b1]; omega) b2 b3⟩
        · simp [aheadL, betwL, behL, ho, sCat, wCat]
        · rfl
        · rfl
    · obtain ⟨b1, b2, b3⟩ := a0 (by omega) (by omega) (by omega)
      cases xs with
      | nil => simp at hlen; omega
      | cons x xs =>
        rw [List.length_cons] at hlen
        refine ⟨_, ?_, ?_, ?_, call_ok (s := wRep) (op := 10) (k := 2) (x4 x (.head _)) (fun z hz => x4 z (.tail _ hz)) (.inr (.inl ⟨rfl, rfl, rfl⟩)) (.inr (by omega)) ho (by rw [if_neg (by decide), b1]; rfl) b2 b3⟩
        · simp [aheadL, betwL, behL, ho, sRep, wRep]
        · rfl
        · rfl
    · obtain ⟨b1, b2, b3⟩ := a0 (by omega) (by omega) (by omega)
      cases xs with
      | nil => simp at hlen; omega
      | cons x xs =>
        rw [List.length_cons] at hlen
        refine ⟨_, ?_, ?_, ?_, call_ok (s := wLen) (op := 11) (k := 1) (x4 x (.head _)) (fun z hz => x4 z (.tail _ hz)) (.inr (.inr (.inl ⟨rfl, rfl, rfl⟩))) (.inr (by omega)) ho (by rw [if_neg (by decide), b1]; rfl) b2 b3⟩
        · simp [aheadL, betwL, behL, ho, sLen, wLen]
        · rfl
        · rfl
    · obtain ⟨b1, b2, b3⟩ := a0 (by omega) (by omega) (by omega)
      cases xs with
      | nil => simp at hlen; omega
      | cons x xs =>
        rw [List.length_cons] at hlen
        refine ⟨_, ?_, ?_, ?_, call_ok (s := wHex) (op := 12) (k := 1) (x4 x (.head _)) (fun z hz => x4 z (.tail _ hz)) (.inr (.inr (.inr ⟨rfl, rfl, rfl⟩))) (.inr (by omega)) ho (by rw [if_neg (by decide), b1]; rfl) b2 b3⟩
        · simp [aheadL, betwL, behL, ho, sHex, wHex]
        · rfl
        · rfl
theorem expr_rx {N : List Rn} (hN : ∀ y ∈ N, y.num < 18446744073709551616) {e : Pe} (h : exprP N = some e) : ∃ x : Rx, x.tx = e.tx ∧ x.dp = e.dp ∧ x.L = N ∧ x.Ok := by
  obtain ⟨h0, h1, h2⟩ := expr_at h
  obtain ⟨x, x1, x2, x3, x4⟩ := pe_rx hN _ _ h1
  refine ⟨x, x1, x2, ?_, x4⟩
  rw [x3, h2, show N.length - 1 + 1 = N.length by omega, seg_all]
end Go.Proofs.YtipcgmaobiobbaaGreatDoor
/- Plain: every printed tree is read back to itself, but for places. No walk here. -/
namespace Go.Proofs.YtipcgmaobiobbaaGreatDoor
open Go.RowKit

structure SAlike (s : Rs) (d : St) : Prop where
  k : s.kind = (d.k : Nat)
  a : s.a = d.a
  b : s.b = d.b
  c : s.c = d.c
  sep : s.sep = d.sep
  ty : s.ty = d.ty
  v : Rel2 AlikeN s.v d.v
structure VAlike (v : Rv) (d : Ve) : Prop where
  num : v.num = d.num
  st : Rel2 SAlike v.st d.st
structure EAlike (e : Re) (d : Ev) : Prop where
  name : e.name = d.name
  vs : Rel2 VAlike e.vs d.vs

abbrev kW (s : List UInt8) : Kn := (1, s, 0)
abbrev kM (c : UInt8) : Kn := (4, [c], 0)
theorem lx_words : ∀ (l : List (List UInt8 × List Kn)), (∀ x ∈ l, Lx x.1 x.2) → Lx ((l.map (·.1)).flatMap fun x => [32] ++ x) (l.flatMap (·.2)) ∧ ∀ y, Bd isW y → Bd isW (((l.map (·.1)).flatMap fun x => [32] ++ x) ++ y)
  | [], _ => ⟨Lf.nil.lx, fun _ h => h⟩
  | x :: l, h => by
    obtain ⟨h1, h2⟩ := lx_words l fun y hy => h y (.tail _ hy)
    refine ⟨?_, fun y _ => ?_⟩
    · have := lf_blank.app ((h x (.head _)).app h1 h2)
      simpa [List.flatMap_cons] using this
    · rw [List.map_cons, List.flatMap_cons]
      exact Bd.cons _ (by decide)
theorem lx_blank (x : List UInt8 × List Kn) (l : List (List UInt8 × List Kn)) (h : ∀ y ∈ x :: l, Lx y.1 y.2) : Lx (blankL ((x :: l).map (·.1))) ((x :: l).flatMap (·.2)) := by
  obtain ⟨h1, h2⟩ := lx_words l fun y hy => h y (.tail _ hy)
  exact (h x (.head _)).app h1 h2

/-- the tokens of a step's text -/
def exK (x : Option Rx) : List Kn := match x with
  | none => []
  | some x => kM 61 :: x.ts
def tkS (s : Rs) (x : Option Rx) : List Kn :=
  (if s.kind = 1 then [kW wAdd, kW s.a, kM 58, kW s.ty] ++ exK x
  else if s.kind = 2 then [kW wRename, kW s.a, kW wTo, kW s.b]
  else if s.kind = 3 then [kW wSplit, kW s.a, kW wAt, (3, s.sep, 0), kW wInto, kW s.b, kM 44, kW s.c]
  else if s.kind = 4 then [kW wJoin, kW s.a, kM 44, kW s.b, kW wWith, (3, s.sep, 0), kW wInto, kW s.c]
  else if s.kind = 5 then [kW wRetype, kW s.a, kW wTo, kW s.ty]
  else [kW wDrop, kW s.a]) ++ [kM 59]
theorem nm_name {t : List UInt8} (h : nmB t = true) : nameL t = true ∧ t ∉ words := by
  unfold nmB at h
  simpa using h
theorem em_nil {t : List UInt8} (h : emB t = true) : t = [] := by unfold emB at h; simpa using h
section
variable {T : List Tk} {p : PS}
theorem name_at {t : List UInt8} (h : Atk T p.i (kW t)) (h0 : p.flt = 0) (hw : t ∉ words) : p.name T = (p.next, t) := by
  obtain ⟨h1, h2, _⟩ := tok_k h
  unfold PS.name
  rw [if_neg, h2]
  rw [h1, h2]
  simp [h0, hw]
theorem text_at {t : List UInt8} (h : Atk T p.i (3, t, 0)) (h0 : p.flt = 0) : p.text T = (p.next, t) := by
  obtain ⟨h1, h2, _⟩ := tok_k h
  unfold PS.text
  rw [if_neg, h2]
  rw [h1]
  simp [h0]
theorem word_at {s t : List UInt8} (hs : s = t) (h : Atk T p.i (kW t)) (h0 : p.flt = 0) : p.word T s = p.next := by
  subst hs
  exact want_at h h0
end
/-- a step's expression: what it is read by -/
def ExOf (s : Rs) (x : Option Rx) : Prop := (s.v = [] ∧ x = none ∧ exT s = []) ∨ ∃ y, x = some y ∧ s.v ≠ [] ∧ exT s = [32, 61, 32] ++ y.tx ∧ y.L = s.v ∧ y.dp ≤ 100 ∧ y.Ok
theorem ex_of {s : Rs} (ho : okS s = true) (hd : deepS s = false) (hN : ∀ y ∈ s.v, y.num < 18446744073709551616) : ∃ x, ExOf s x := by
  by_cases hv : s.v = []
  · refine ⟨none, .inl ⟨hv, rfl, ?_⟩⟩
    unfold exT
    rw [hv, expr_nil rfl]
  · unfold okS at ho
    simp only [Bool.and_eq_true, Bool.or_eq_true, decide_eq_true_eq, hv, false_or] at ho
    obtain ⟨e, he⟩ := Option.isSome_iff_exists.1 ho.1.2
    obtain ⟨x, x1, x2, x3, x4⟩ := expr_rx hN he
    refine ⟨some x, .inr ⟨x, rfl, hv, ?_, x3, ?_, x4⟩⟩
    · unfold exT
      rw [he, x1]
    · unfold deepS at hd
      rw [he] at hd
      simp at hd
      omega
theorem st_word (s : List UInt8) (h : s = wAdd ∨ s = wRename ∨ s = wSplit ∨ s = wJoin ∨ s = wRetype ∨ s = wDrop ∨ s = wTo ∨ s = wAt ∨ s = wInto ∨ s = wWith ∨ s = wEvent ∨ s = wVersion) : Lx s [kW s] := by
  rcases h with rfl | rfl | rfl | rfl | rfl | rfl | rfl | rfl | rfl | rfl | rfl | rfl <;> exact lx_word (by decide)
theorem lx_comma {t : List UInt8} (h : nmB t = true) (c : UInt8) (hc : c = 58 ∨ c = 44) : Lx (t ++ [c]) [kW t, kM c] := by
  have := (lx_word (nm_name h).1).free (lf_mark (c := c) (by rcases hc with rfl | rfl <;> rfl)) (sep_of _ (by rcases hc with rfl | rfl <;> decide))
  exact this.lx
theorem lx_nm {t : List UInt8} (h : nmB t = true) : Lx t [kW t] := lx_word (nm_name h).1
/-- what okS says, kind by kind -/
theorem ok_kinds {s : Rs} (h : okS s = true) : (s.v ≠ [] → s.kind = 1) ∧ ((s.kind = 1 ∧ nmB s.a = true ∧ nmB s.ty = true ∧ s.b = [] ∧ s.c = [] ∧ s.sep = []) ∨ (s.kind = 2 ∧ nmB s.a = true ∧ nmB s.b = true ∧ s.c = [] ∧ s.sep = [] ∧ s.ty = []) ∨
    (s.kind = 3 ∧ nmB s.a = true ∧ nmB s.b = true ∧ nmB s.c = true ∧ s.ty = []) ∨ (s.kind = 4 ∧ nmB s.a = true ∧ nmB s.b = true ∧ nmB s.c = true ∧ s.ty = []) ∨ (s.kind = 5 ∧ nmB s.a = true ∧ nmB s.ty = true ∧ s.b = [] ∧ s.c = [] ∧ s.sep = []) ∨ (s.kind = 6 ∧ nmB s.a = true ∧ s.b = [] ∧ s.c = [] ∧ s.sep = [] ∧ s.ty = [])) := by
  unfold okS at h
  rw [Bool.and_eq_true] at h
  refine ⟨fun hv => ?_, ?_⟩
  · have := h.1
    simp only [decide_eq_false hv, Bool.false_or, Bool.and_eq_true, decide_eq_true_eq] at this
    exact this.1
  · have h := h.2
    by_cases h1 : s.kind = 1
    · rw [if_pos (.inl h1)] at h
      simp only [List.all_cons, List.all_nil, Bool.and_true, Bool.and_eq_true] at h
      exact .inl ⟨h1, h.1.1, h.1.2, em_nil h.2.1, em_nil h.2.2.1, em_nil h.2.2.2⟩
    · by_cases h5 : s.kind = 5
      · rw [if_pos (.inr h5)] at h
        simp only [List.all_cons, List.all_nil, Bool.and_true, Bool.and_eq_true] at h
        exact .inr (.inr (.inr (.inr (.inl ⟨h5, h.1.1, h.1.2, em_nil h.2.1, em_nil h.2.2.1, em_nil h.2.2.2⟩))))
      · rw [if_neg (by omega)] at h
        by_cases h2 : s.kind = 2
        · rw [if_pos h2] at h
          simp only [List.all_cons, List.all_nil, Bool.and_true, Bool.and_eq_true] at h
          exact .inr (.inl ⟨h2, h.1.1, h.1.2, em_nil h.2.1, em_nil h.2.2.1, em_nil h.2.2.2⟩)
        · rw [if_neg h2] at h
          by_cases h34 : s.kind = 3 ∨ s.kind = 4
          · rw [if_pos h34] at h
            simp only [List.all_cons, List.all_nil, Bool.and_true, Bool.and_eq_true] at h
            rcases h34 with h3 | h4
            · exact .inr (.inr (.inl ⟨h3, h.1.1, h.1.2.1, h.1.2.2, em_nil h.2⟩))
            · exact .inr (.inr (.inr (.inl ⟨h4, h.1.1, h.1.2.1, h.1.2.2, em_nil h.2⟩)))
          · rw [if_neg h34] at h
            by_cases h6 : s.kind = 6
            · rw [if_pos h6] at h
              simp only [List.all_cons, List.all_nil, Bool.and_true, Bool.and_eq_true] at h
              exact .inr (.inr (.inr (.inr (.inr ⟨h6, h.1, em_nil h.2.1, em_nil h.2.2.1, em_nil h.2.2.2.1, em_nil h.2.2.2.2⟩))))
            · rw [if_neg h6] at h
              cases h
theorem lx_step {s : Rs} (ho : okS s = true) {x : Option Rx} (hx : ExOf s x) : Lf (plS s) (tkS s x) := by
  have key : ∃ ts, Lx (ptS s) ts ∧ tkS s x = ts ++ [kM 59] := by
    refine ⟨_, ?_, rfl⟩
    unfold ptS
    obtain ⟨-, ⟨hk, h1, h2, -⟩ | ⟨hk, h1, h2, -⟩ | ⟨hk, h1, h2, h3, -⟩ | ⟨hk, h1, h2, h3, -⟩ | ⟨hk, h1, h2, -⟩ | ⟨hk, h1, -⟩⟩ := ok_kinds ho
    · rw [if_pos hk, if_pos hk]
      have hb := lx_blank (wAdd, [kW wAdd]) [(s.a ++ [58], [kW s.a, kM 58]), (s.ty, [kW s.ty])] (by
        intro y hy
        simp only [List.mem_cons, List.not_mem_nil, or_false] at hy
        rcases hy with rfl | rfl | rfl
        · exact st_word wAdd (.inl rfl)
        · exact lx_comma h1 58 (.inl rfl)
        · exact lx_nm h2)
      rcases hx with ⟨-, rfl, he⟩ | ⟨y, rfl, -, he, -, -, hok⟩
      · rw [he, List.append_nil]
        simpa [exK] using hb
      · rw [he]
        have hq : Lf [32, 61, 32] [kM 61] := lf_blank.free ((lf_mark (c := 61) rfl).free lf_blank)
        exact hb.sep (hq.app hok.lx) (sep_of _ (by decide))
    · rw [if_neg (by omega), if_pos hk, if_neg (by omega), if_pos hk]
      exact lx_blank (wRename, [kW wRename]) [(s.a, [kW s.a]), (wTo, [kW wTo]), (s.b, [kW s.b])] (by
        intro y hy
        simp only [List.mem_cons, List.not_mem_nil, or_false] at hy
        rcases hy with rfl | rfl | rfl | rfl
        · exact st_word _ (by simp)
        · exact lx_nm h1
        · exact st_word _ (by simp)
        · exact lx_nm h2)
    · rw [if_neg (by omega), if_neg (by omega), if_pos hk, if_neg (by omega), if_neg (by omega), if_pos hk]
      exact lx_blank (wSplit, [kW wSplit]) [(s.a, [kW s.a]), (wAt, [kW wAt]), (quoteL s.sep, [(3, s.sep, 0)]), (wInto, [kW wInto]), (s.b ++ [44], [kW s.b, kM 44]), (s.c, [kW s.c])] (by
        intro y hy
        simp only [List.mem_cons, List.not_mem_nil, or_false] at hy
        rcases hy with rfl | rfl | rfl | rfl | rfl | rfl | rfl
        · exact st_word _ (by simp)
        · exact lx_nm h1
        · exact st_word _ (by simp)
        · exact (lf_quote _).lx
        · exact st_word _ (by simp)
        · exact lx_comma h2 44 (.inr rfl)
        · exact lx_nm h3)
    · rw [if_neg (by omega), if_neg (by omega), if_neg (by omega), if_pos hk, if_neg (by omega), if_neg (by omega), if_neg (by omega), if_pos hk]
      exact lx_blank (wJoin, [kW wJoin]) [(s.a ++ [44], [kW s.a, kM 44]), (s.b, [kW s.b]), (wWith, [kW wWith]), (quoteL s.sep, [(3, s.sep, 0)]), (wInto, [kW wInto]), (s.c, [kW s.c])] (by
        intro y hy
        simp only [List.mem_cons, List.not_mem_nil, or_false] at hy
        rcases hy with rfl | rfl | rfl | rfl | rfl | rfl | rfl
        · exact st_word _ (by simp)
        · exact lx_comma h1 44 (.inr rfl)
        · exact lx_nm h2
        · exact st_word _ (by simp)
        · exact (lf_quote _).lx
        · exact st_word _ (by simp)
        · exact lx_nm h3)
    · rw [if_neg (by omega), if_neg (by omega), if_neg (by omega), if_neg (by omega), if_pos hk, if_neg (by omega), if_neg (by omega), if_neg (by omega), if_neg (by omega), if_pos hk]
      exact lx_blank (wRetype, [kW wRetype]) [(s.a, [kW s.a]), (wTo, [kW wTo]), (s.ty, [kW s.ty])] (by
        intro y hy
        simp only [List.mem_cons, List.not_mem_nil, or_false] at hy
        rcases hy with rfl | rfl | rfl | rfl
        · exact st_word _ (by simp)
        · exact lx_nm h1
        · exact st_word _ (by simp)
        · exact lx_nm h2)
    · rw [if_neg (by omega), if_neg (by omega), if_neg (by omega), if_neg (by omega), if_neg (by omega), if_neg (by omega), if_neg (by omega), if_neg (by omega), if_neg (by omega), if_neg (by omega)]
      exact lx_blank (wDrop, [kW wDrop]) [(s.a, [kW s.a])] (by
        intro y hy
        simp only [List.mem_cons, List.not_mem_nil, or_false] at hy
        rcases hy with rfl | rfl
        · exact st_word _ (by simp)
        · exact lx_nm h1)
  obtain ⟨ts, h1, h2⟩ := key
  rw [h2]
  have h4 : Lf [32, 32, 32, 32] [] := lf_gap (by decide) (by decide)
  have h5 : Lf [59, 10] [kM 59] := (lf_mark (c := 59) rfl).free (lf_gap (b := [10]) (by decide) (by decide))
  exact (h4.app h1).free h5 (sep_of _ (by decide))
theorem stepK_at {T : List Tk} {p : PS} (h0 : p.flt = 0) {s : List UInt8} {k : Nat} (h : Atk T p.i (kW s)) (hs : (s = wAdd ∧ k = 1) ∨ (s = wRename ∧ k = 2) ∨ (s = wSplit ∧ k = 3) ∨ (s = wJoin ∧ k = 4) ∨ (s = wRetype ∧ k = 5) ∨ (s = wDrop ∧ k = 6)) : stepK T p = k := by
  unfold stepK
  simp only [is_at h h0]
  rcases hs with ⟨rfl, rfl⟩ | ⟨rfl, rfl⟩ | ⟨rfl, rfl⟩ | ⟨rfl, rfl⟩ | ⟨rfl, rfl⟩ | ⟨rfl, rfl⟩ <;> decide +kernel
/-- a step read -/
theorem step_red {s : Rs} (ho : okS s = true) {x : Option Rx} (hx : ExOf s x) {T : List Tk} {p : PS} (h0 : p.flt = 0) (ht : Toks T p.i (tkS s x)) : ∃ q d, p.step T = (q, d) ∧ q.flt = 0 ∧ q.i = p.i + (tkS s x).length ∧ SAlike s d := by
  unfold tkS at ht ⊢
  obtain ⟨hv1, ⟨hk, h1, h2, e1, e2, e3⟩ | ⟨hk, h1, h2, e1, e2, e3⟩ | ⟨hk, h1, h2, h3, e1⟩ | ⟨hk, h1, h2, h3, e1⟩ | ⟨hk, h1, h2, e1, e2, e3⟩ | ⟨hk, h1, e1, e2, e3, e4⟩⟩ := ok_kinds ho
  · rw [if_pos hk] at ht ⊢
    rcases hx with ⟨hv, rfl, -⟩ | ⟨y, rfl, hv, -, hL, hdp, hok⟩
    · obtain ⟨t1, t2, t3, t4, t5, -⟩ := ht
      have t5 : Atk T p.next.next.next.next.i (kM 59) := t5
      have ei : p.next.next.next.next.is T 4 [61] = false := by rw [is_at t5 h0]; decide
      refine ⟨p.next.next.next.next.next, ⟨1, s.a, [], [], [], s.ty, [], (p.tok T).a⟩, ?_, h0, rfl, ⟨hk, rfl, e1, e2, e3, rfl, by rw [hv]; exact .nil⟩⟩
      unfold PS.step
      rw [stepK_at h0 t1 (.inl ⟨rfl, rfl⟩)]
      simp only [name_at (p := p.next) t2 h0 (nm_name h1).2, mark_at (p := p.next.next) t3 h0, name_at (p := p.next.next.next) t4 h0 (nm_name h2).2, ei, mark_at (p := p.next.next.next.next) t5 h0]
      rfl
    · obtain ⟨⟨t1, t2, t3, t4, t5, t6⟩, t7, -⟩ := (toks_app (a := [kW wAdd, kW s.a, kM 58, kW s.ty] ++ exK (some y))).1 ht
      have t5 : Atk T p.next.next.next.next.i (kM 61) := t5
      have ei : p.next.next.next.next.is T 4 [61] = true := by rw [is_at t5 h0]; decide
      have hlen : ([kW wAdd, kW s.a, kM 58, kW s.ty] ++ exK (some y)).length = 5 + y.ts.length := by simp [exK]; omega
      rw [hlen] at t7
      obtain ⟨z, hz⟩ : ∃ z : PS, (⟨p.next.next.next.next.next.i, p.plc, p.flt, [], [], 0⟩ : PS) = z := ⟨_, rfl⟩
      have z0 : z.flt = 0 := by rw [← hz]; exact h0
      have zi : z.i = p.i + 5 := by rw [← hz]; rfl
      have zo : z.opn = 0 := by rw [← hz]
      obtain ⟨nds, r, e⟩ := expr_on (T := T) (f := T.length + 1) (p := z) hok z0 (by rw [zi]; exact t6) (by omega) (by omega) hdp (by omega) (c := kM 59) (by rw [zi, show p.i + 5 + y.ts.length = p.i + (5 + y.ts.length) by omega]; exact t7) (by decide)
      have hval : p.next.next.next.next.next.value T = z.adv y.ts.length nds [y.dp] := by
        show exprF T _ = _
        unfold exprF
        rw [← e, ← hz]
        rfl
      have hnd : (z.adv y.ts.length nds [y.dp]).nds = nds := by show z.nds ++ nds = nds; rw [← hz]; rfl
      refine ⟨(z.adv y.ts.length nds [y.dp]).next, ⟨1, s.a, [], [], [], s.ty, nds, (p.tok T).a⟩, ?_, z0, ?_, ⟨hk, rfl, e1, e2, e3, rfl, by rw [← hL]; exact r⟩⟩
      · unfold PS.step
        rw [stepK_at h0 t1 (.inl ⟨rfl, rfl⟩)]
        have m7 : (z.adv y.ts.length nds [y.dp]).mark T 59 = (z.adv y.ts.length nds [y.dp]).next := mark_at (n := 0) (by show Atk T (z.i + y.ts.length) _; rw [zi, show p.i + 5 + y.ts.length = p.i + (5 + y.ts.length) by omega]; exact t7) z0
        simp only [name_at (p := p.next) t2 h0 (nm_name h1).2, mark_at (p := p.next.next) t3 h0, name_at (p := p.next.next.next) t4 h0 (nm_name h2).2, ei, hval, hnd, m7]
        rfl
      · show z.i + y.ts.length + 1 = _
        rw [zi, List.length_append, hlen]
        simp only [List.length_cons, List.length_nil]
        omega
  · rw [if_neg (by omega), if_pos hk] at ht ⊢
    obtain ⟨t1, t2, t3, t4, t5, -⟩ := ht
    have hv : s.v = [] := Decidable.byContradiction fun h => by have := hv1 h; omega
    refine ⟨p.next.next.next.next.next, ⟨2, s.a, s.b, [], [], [], [], (p.tok T).a⟩, ?_, h0, rfl, ⟨hk, rfl, rfl, e1, e2, e3, by rw [hv]; exact .nil⟩⟩
    unfold PS.step
    rw [stepK_at h0 t1 (.inr (.inl ⟨rfl, rfl⟩))]
    simp only [name_at (p := p.next) t2 h0 (nm_name h1).2, word_at (p := p.next.next) (s := ls "to".toUTF8) (by decide +kernel) t3 h0, name_at (p := p.next.next.next) t4 h0 (nm_name h2).2, mark_at (p := p.next.next.next.next) t5 h0]
    rfl
  · rw [if_neg (by omega), if_neg (by omega), if_pos hk] at ht ⊢
    obtain ⟨t1, t2, t3, t4, t5, t6, t7, t8, t9, -⟩ := ht
    have hv : s.v = [] := Decidable.byContradiction fun h => by have := hv1 h; omega
    refine ⟨p.next.next.next.next.next.next.next.next.next, ⟨3, s.a, s.b, s.c, s.sep, [], [], (p.tok T).a⟩, ?_, h0, rfl, ⟨hk, rfl, rfl, rfl, rfl, e1, by rw [hv]; exact .nil⟩⟩
    unfold PS.step
    rw [stepK_at h0 t1 (.inr (.inr (.inl ⟨rfl, rfl⟩)))]
    simp only [name_at (p := p.next) t2 h0 (nm_name h1).2, word_at (p := p.next.next) (s := ls "at".toUTF8) (by decide +kernel) t3 h0, text_at (p := p.next.next.next) t4 h0, word_at (p := p.next.next.next.next) (s := ls "into".toUTF8) (by decide +kernel) t5 h0,
      name_at (p := p.next.next.next.next.next) t6 h0 (nm_name h2).2, mark_at (p := p.next.next.next.next.next.next) t7 h0, name_at (p := p.next.next.next.next.next.next.next) t8 h0 (nm_name h3).2, mark_at (p := p.next.next.next.next.next.next.next.next) t9 h0]
    rfl
  · rw [if_neg (by omega), if_neg (by omega), if_neg (by omega), if_pos hk] at ht ⊢
    obtain ⟨t1, t2, t3, t4, t5, t6, t7, t8, t9, -⟩ := ht
    have hv : s.v = [] := Decidable.byContradiction fun h => by have := hv1 h; omega
    refine ⟨p.next.next.next.next.next.next.next.next.next, ⟨4, s.a, s.b, s.c, s.sep, [], [], (p.tok T).a⟩, ?_, h0, rfl, ⟨hk, rfl, rfl, rfl, rfl, e1, by rw [hv]; exact .nil⟩⟩
    unfold PS.step
    rw [stepK_at h0 t1 (.inr (.inr (.inr (.inl ⟨rfl, rfl⟩))))]
    simp only [name_at (p := p.next) t2 h0 (nm_name h1).2, mark_at (p := p.next.next) t3 h0, name_at (p := p.next.next.next) t4 h0 (nm_name h2).2, word_at (p := p.next.next.next.next) (s := ls "with".toUTF8) (by decide +kernel) t5 h0,
      text_at (p := p.next.next.next.next.next) t6 h0, word_at (p := p.next.next.next.next.next.next) (s := ls "into".toUTF8) (by decide +kernel) t7 h0, name_at (p := p.next.next.next.next.next.next.next) t8 h0 (nm_name h3).2, mark_at (p := p.next.next.next.next.next.next.next.next) t9 h0]
    rfl
  · rw [if_neg (by omega), if_neg (by omega), if_neg (by omega), if_neg (by omega), if_pos hk] at ht ⊢
    obtain ⟨t1, t2, t3, t4, t5, -⟩ := ht
    have hv : s.v = [] := Decidable.byContradiction fun h => by have := hv1 h; omega
    refine ⟨p.next.next.next.next.next, ⟨5, s.a, [], [], [], s.ty, [], (p.tok T).a⟩, ?_, h0, rfl, ⟨hk, rfl, e1, e2, e3, rfl, by rw [hv]; exact .nil⟩⟩
    unfold PS.step
    rw [stepK_at h0 t1 (.inr (.inr (.inr (.inr (.inl ⟨rfl, rfl⟩)))))]
    simp only [name_at (p := p.next) t2 h0 (nm_name h1).2, word_at (p := p.next.next) (s := ls "to".toUTF8) (by decide +kernel) t3 h0, name_at (p := p.next.next.next) t4 h0 (nm_name h2).2, mark_at (p := p.next.next.next.next) t5 h0]
    rfl
  · rw [if_neg (by omega), if_neg (by omega), if_neg (by omega), if_neg (by omega), if_neg (by omega)] at ht ⊢
    obtain ⟨t1, t2, t3, -⟩ := ht
    have hv : s.v = [] := Decidable.byContradiction fun h => by have := hv1 h; omega
    refine ⟨p.next.next.next, ⟨6, s.a, [], [], [], [], [], (p.tok T).a⟩, ?_, h0, rfl, ⟨hk, rfl, e1, e2, e3, e4, by rw [hv]; exact .nil⟩⟩
    unfold PS.step
    rw [stepK_at h0 t1 (.inr (.inr (.inr (.inr (.inr ⟨rfl, rfl⟩)))))]
    simp only [name_at (p := p.next) t2 h0 (nm_name h1).2, mark_at (p := p.next.next) t3 h0]
    rfl
end Go.Proofs.YtipcgmaobiobbaaGreatDoor
/- Plain: printed versions, events, whole schemas and expressions are read back, but for places. No walk here. -/
namespace Go.Proofs.YtipcgmaobiobbaaGreatDoor
open Go.RowKit

/-- a tree that can be printed: its numbers fit, it is one, nothing in it is too deep -/
structure StFit (s : Rs) : Prop where
  ok : okS s = true
  deep : deepS s = false
  num : ∀ y ∈ s.v, y.num < 18446744073709551616
structure VeFit (v : Rv) : Prop where
  st : ∀ s ∈ v.st, StFit s
  num : v.num < 18446744073709551616
structure EvFit (e : Re) : Prop where
  name : nmB e.name = true
  ne : e.vs ≠ []
  vs : ∀ v ∈ e.vs, VeFit v
theorem ev_fit {e : Re} (h : okE e = true) (hd : deepE e = false) (hn : ∀ v ∈ e.vs, v.num < 18446744073709551616 ∧ ∀ s ∈ v.st, ∀ y ∈ s.v, y.num < 18446744073709551616) : EvFit e := by
  unfold okE at h
  simp only [Bool.and_eq_true, Bool.not_eq_true', decide_eq_false_iff_not, List.all_eq_true] at h
  refine ⟨h.1.1, h.1.2, fun v hv => ⟨fun s hs => ⟨h.2 v hv s hs, ?_, (hn v hv).2 s hs⟩, (hn v hv).1⟩⟩
  unfold deepE at hd
  have h1 := List.any_eq_false.1 hd v hv
  unfold deepV at h1
  have h2 := List.any_eq_false.1 (by simpa using h1) s hs
  simpa using h2

/-- a printed thing: its tokens, and what reads them -/
structure Pr3 (α : Type) where
  x : α
  ts : List Kn
theorem pick {α : Type} {P : α → List Kn → Prop} : ∀ (l : List α), (∀ x ∈ l, ∃ ts, P x ts) → ∃ L : List (Pr3 α), L.map (·.x) = l ∧ ∀ y ∈ L, P y.x y.ts
  | [], _ => ⟨[], rfl, nofun⟩
  | x :: l, h => by
    obtain ⟨ts, h1⟩ := h x (.head _)
    obtain ⟨L, g1, g2⟩ := pick l fun y hy => h y (.tail _ hy)
    refine ⟨⟨x, ts⟩ :: L, by simp [g1], fun y hy => ?_⟩
    rcases List.mem_cons.1 hy with rfl | hy
    · exact h1
    · exact g2 y hy
theorem lf_pick {α : Type} {f : α → List UInt8} : ∀ (L : List (Pr3 α)), (∀ y ∈ L, Lf (f y.x) y.ts) → Lf ((L.map (·.x)).flatMap f) (L.flatMap (·.ts))
  | [], _ => Lf.nil
  | y :: L, h => by
    rw [List.map_cons, List.flatMap_cons, List.flatMap_cons]
    exact (h y (.head _)).free (lf_pick L fun z hz => h z (.tail _ hz))

/-- reading: where the tokens stand, so much further on, and alike -/
def ReadBy {α β : Type} (R : α → β → Prop) (rd : List Tk → PS → PS × β) (x : α) (ts : List Kn) : Prop := ∀ {T : List Tk} {p : PS}, p.flt = 0 → Toks T p.i ts → ∃ q d, rd T p = (q, d) ∧ q.flt = 0 ∧ q.i = p.i + ts.length ∧ R x d
theorem steps_red : ∀ (L : List (Pr3 Rs)), (∀ y ∈ L, ReadBy SAlike (fun T p => p.step T) y.x y.ts ∧ (∃ s r, y.ts = kW s :: r)) → ∀ {T : List Tk} {p : PS} {f : Nat}, p.flt = 0 → Toks T p.i (L.flatMap (·.ts)) → Atk T (p.i + (L.flatMap (·.ts)).length) (kM 125) → L.length < f →
    ∃ q d, stepsL T f p = (q, d) ∧ q.flt = 0 ∧ q.i = p.i + (L.flatMap (·.ts)).length ∧ Rel2 SAlike (L.map (·.x)) d
  | [], _, T, p, f + 1, h0, _, hc, _ => by
    refine ⟨p, [], ?_, h0, rfl, .nil⟩
    have hc : Atk T p.i (kM 125) := hc
    unfold stepsL
    rw [if_neg]
    rw [is_at hc h0]
    simp
  | y :: L, hL, T, p, f + 1, h0, ht, hc, hf => by
    obtain ⟨hy, s, r, hs⟩ := hL y (.head _)
    rw [List.flatMap_cons] at ht hc ⊢
    obtain ⟨t1, t2⟩ := toks_app.1 ht
    obtain ⟨q, d, e1, e2, e3, e4⟩ := hy h0 t1
    rw [List.length_append] at hc
    obtain ⟨q', d', g1, g2, g3, g4⟩ := steps_red L (fun z hz => hL z (.tail _ hz)) (T := T) (p := q) (f := f) e2 (by rw [e3]; exact t2) (by rw [e3, Nat.add_assoc]; exact hc) (by simp only [List.length_cons] at hf; omega)
    refine ⟨q', d :: d', ?_, g2, by rw [g3, e3, List.length_append, Nat.add_assoc], .cons e4 g4⟩
    have hw : p.is T 4 [125] = false := by
      rw [hs] at t1
      rw [is_at t1.1 h0]
      rfl
    unfold stepsL
    rw [if_pos ⟨h0, hw⟩]
    have e1 : p.step T = (q, d) := e1
    rw [e1]
    dsimp only
    rw [g1]
theorem vers_red : ∀ (L : List (Pr3 Rv)), (∀ y ∈ L, ReadBy VAlike (fun T p => p.version T) y.x y.ts ∧ (∃ s r, y.ts = kW s :: r)) → ∀ {T : List Tk} {p : PS} {f : Nat}, p.flt = 0 → Toks T p.i (L.flatMap (·.ts)) → Atk T (p.i + (L.flatMap (·.ts)).length) (kM 125) → L.length < f →
    ∃ q d, versL T f p = (q, d) ∧ q.flt = 0 ∧ q.i = p.i + (L.flatMap (·.ts)).length ∧ Rel2 VAlike (L.map (·.x)) d
  | [], _, T, p, f + 1, h0, _, hc, _ => by
    refine ⟨p, [], ?_, h0, rfl, .nil⟩
    have hc : Atk T p.i (kM 125) := hc
    unfold versL
    rw [if_neg]
    rw [is_at hc h0]
    simp
  | y :: L, hL, T, p, f + 1, h0, ht, hc, hf => by
    obtain ⟨hy, s, r, hs⟩ := hL y (.head _)
    rw [List.flatMap_cons] at ht hc ⊢
    obtain ⟨t1, t2⟩ := toks_app.1 ht
    obtain ⟨q, d, e1, e2, e3, e4⟩ := hy h0 t1
    rw [List.length_append] at hc
    obtain ⟨q', d', g1, g2, g3, g4⟩ := vers_red L (fun z hz => hL z (.tail _ hz)) (T := T) (p := q) (f := f) e2 (by rw [e3]; exact t2) (by rw [e3, Nat.add_assoc]; exact hc) (by simp only [List.length_cons] at hf; omega)
    refine ⟨q', d :: d', ?_, g2, by rw [g3, e3, List.length_append, Nat.add_assoc], .cons e4 g4⟩
    have hw : p.is T 4 [125] = false := by
      rw [hs] at t1
      rw [is_at t1.1 h0]
      rfl
    unfold versL
    rw [if_pos ⟨h0, hw⟩]
    have e1 : p.version T = (q, d) := e1
    rw [e1]
    dsimp only
    rw [g1]
theorem flat_le {α : Type} : ∀ (L : List (Pr3 α)), (∀ y ∈ L, ∃ s r, y.ts = kW s :: r) → L.length ≤ (L.flatMap (·.ts)).length
  | [], _ => Nat.le_refl _
  | y :: L, h => by
    obtain ⟨s, r, e⟩ := h y (.head _)
    have := flat_le L fun z hz => h z (.tail _ hz)
    rw [List.flatMap_cons, List.length_append, e, List.length_cons, List.length_cons]
    omega

/-- a step's tokens begin with a word -/
theorem tk_word (s : Rs) (x : Option Rx) : ∃ t r, tkS s x = kW t :: r := by
  unfold tkS
  repeat' split
  all_goals exact ⟨_, _, rfl⟩
theorem step_rd {s : Rs} (h : StFit s) : ∃ ts, Lf (plS s) ts ∧ (ReadBy SAlike (fun T p => p.step T) s ts ∧ ∃ t r, ts = kW t :: r) := by
  obtain ⟨x, hx⟩ := ex_of h.ok h.deep h.num
  exact ⟨tkS s x, lx_step h.ok hx, fun h0 ht => step_red h.ok hx h0 ht, tk_word s x⟩
theorem lf_open : Lf sOpen [kM 123] := (lf_mark (c := 123) rfl).free (lf_gap (b := [10]) (by decide) (by decide))
theorem lf_shut : Lf [125, 10] [kM 125] := (lf_mark (c := 125) rfl).free (lf_gap (b := [10]) (by decide) (by decide))
theorem ver_rd {v : Rv} (h : VeFit v) : ∃ ts, Lf (ptV v) ts ∧ (ReadBy VAlike (fun T p => p.version T) v ts ∧ ∃ t r, ts = kW t :: r) := by
  obtain ⟨L, hL, hok⟩ := pick (P := fun s ts => Lf (plS s) ts ∧ (ReadBy SAlike (fun T p => p.step T) s ts ∧ ∃ t r, ts = kW t :: r)) v.st fun s hs => step_rd (h.st s hs)
  refine ⟨[kW wVersion, (2, [], v.num), kM 123] ++ L.flatMap (·.ts) ++ [kM 125], ?_, ?_, _, _, rfl⟩
  · unfold ptV
    have hb := lx_blank (wVersion, [kW wVersion]) [(Lib.decDigits v.num, [(2, [], v.num)]), (sOpen, [kM 123])] (by
      intro y hy
      simp only [List.mem_cons, List.not_mem_nil, or_false] at hy
      rcases hy with rfl | rfl | rfl
      · exact st_word _ (by simp)
      · exact lx_num h.num
      · exact lf_open.lx)
    have h2 : Lf [32, 32] [] := lf_gap (by decide) (by decide)
    have hs : Lf (v.st.flatMap plS) (L.flatMap (·.ts)) := by rw [← hL]; exact lf_pick L fun y hy => (hok y hy).1
    have h3 : Lf ([32, 32] ++ [125, 10]) ([] ++ [kM 125]) := h2.free lf_shut
    have hbf : Lf (blankL [wVersion, Lib.decDigits v.num, sOpen]) [kW wVersion, (2, [], v.num), kM 123] := by
      have e : blankL [wVersion, Lib.decDigits v.num, sOpen] = (blankL [wVersion, Lib.decDigits v.num] ++ [32]) ++ sOpen := by simp [blankL, inter]
      rw [e]
      have hb2 := lx_blank (wVersion, [kW wVersion]) [(Lib.decDigits v.num, [(2, [], v.num)])] (by
        intro y hy
        simp only [List.mem_cons, List.not_mem_nil, or_false] at hy
        rcases hy with rfl | rfl
        · exact st_word _ (by simp)
        · exact lx_num h.num)
      exact (hb2.free lf_blank (sep_of _ (by decide))).free lf_open
    have := ((h2.free hbf).free hs).free h3
    simpa using this
  · intro T p h0 ht
    obtain ⟨⟨⟨t1, t2, t3, -⟩, t4⟩, t5, -⟩ := (toks_app (a := [kW wVersion, (2, [], v.num), kM 123] ++ L.flatMap (·.ts))).1 ht |>.imp toks_app.1 id
    have t2 : Atk T p.next.i (2, [], v.num) := t2
    have t3 : Atk T p.next.next.i (kM 123) := t3
    have el : ([kW wVersion, (2, [], v.num), kM 123] ++ L.flatMap (·.ts)).length = 3 + (L.flatMap (·.ts)).length := by simp; omega
    rw [el] at t5
    have hle := t5.lt
    have hfl := flat_le L fun y hy => (hok y hy).2.2
    obtain ⟨q, d, e1, e2, e3, e4⟩ := steps_red L (fun y hy => (hok y hy).2) (T := T) (p := p.next.next.next) (f := T.length + 1) h0 t4 (by show Atk T (p.i + 3 + _) _; rw [Nat.add_assoc]; exact t5) (by omega)
    have e3 : q.i = p.i + 3 + (L.flatMap (·.ts)).length := e3
    refine ⟨q.next, ⟨v.num, d, (p.tok T).a⟩, ?_, e2, ?_, ⟨rfl, by rw [← hL]; exact e4⟩⟩
    · show p.version T = _
      unfold PS.version
      obtain ⟨k1, _, k3⟩ := tok_k t2
      dsimp only
      rw [word_at (s := ls "version".toUTF8) (by decide +kernel) t1 h0, if_pos ⟨h0, k1⟩]
      dsimp only
      rw [k3, mark_at (p := p.next.next) t3 h0, e1]
      dsimp only
      rw [mark_at (p := q) (c := 125) (n := 0) (by rw [e3, Nat.add_assoc]; exact t5) e2]
    · show q.i + 1 = _
      rw [e3, List.length_append, el]
      simp only [List.length_cons, List.length_nil]
      omega
theorem ev_rd {e : Re} (h : EvFit e) : ∃ ts, Lf (ptE e) ts ∧ (ReadBy EAlike (fun T p => p.event T) e ts ∧ ∃ r, ts = kW wEvent :: r) := by
  obtain ⟨L, hL, hok⟩ := pick (P := fun v ts => Lf (ptV v) ts ∧ (ReadBy VAlike (fun T p => p.version T) v ts ∧ ∃ t r, ts = kW t :: r)) e.vs fun v hv => ver_rd (h.vs v hv)
  refine ⟨[kW wEvent, kW e.name, kM 123] ++ L.flatMap (·.ts) ++ [kM 125], ?_, ?_, _, rfl⟩
  · unfold ptE
    have hs : Lf (e.vs.flatMap ptV) (L.flatMap (·.ts)) := by rw [← hL]; exact lf_pick L fun y hy => (hok y hy).1
    have hbf : Lf (blankL [wEvent, e.name, sOpen]) [kW wEvent, kW e.name, kM 123] := by
      have e' : blankL [wEvent, e.name, sOpen] = (blankL [wEvent, e.name] ++ [32]) ++ sOpen := by simp [blankL, inter]
      rw [e']
      have hb2 := lx_blank (wEvent, [kW wEvent]) [(e.name, [kW e.name])] (by
        intro y hy
        simp only [List.mem_cons, List.not_mem_nil, or_false] at hy
        rcases hy with rfl | rfl
        · exact st_word _ (by simp)
        · exact lx_nm h.name)
      exact (hb2.free lf_blank (sep_of _ (by decide))).free lf_open
    exact (hbf.free hs).free lf_shut
  · intro T p h0 ht
    obtain ⟨⟨⟨t1, t2, t3, -⟩, t4⟩, t5, -⟩ := (toks_app (a := [kW wEvent, kW e.name, kM 123] ++ L.flatMap (·.ts))).1 ht |>.imp toks_app.1 id
    have t2 : Atk T p.next.i (kW e.name) := t2
    have t3 : Atk T p.next.next.i (kM 123) := t3
    have el : ([kW wEvent, kW e.name, kM 123] ++ L.flatMap (·.ts)).length = 3 + (L.flatMap (·.ts)).length := by simp; omega
    rw [el] at t5
    have hle := t5.lt
    cases L with
    | nil => exact absurd (by rw [← hL]; rfl) h.ne
    | cons y L =>
      rw [List.flatMap_cons] at t4 t5 hle el ⊢
      obtain ⟨t4, t6⟩ := toks_app.1 t4
      obtain ⟨q1, d1, f1, f2, f3, f4⟩ := (hok y (.head _)).2.1 (T := T) (p := p.next.next.next) h0 t4
      have f3 : q1.i = p.i + 3 + y.ts.length := f3
      have hfl := flat_le L fun z hz => (hok z (.tail _ hz)).2.2
      rw [List.length_append] at t5 hle
      obtain ⟨q, d, e1, e2, e3, e4⟩ := vers_red L (fun z hz => (hok z (.tail _ hz)).2) (T := T) (p := q1) (f := T.length + 1) f2 (by rw [f3]; exact t6) (by rw [f3, show p.i + 3 + y.ts.length + (L.flatMap (·.ts)).length = p.i + (3 + (y.ts.length + (L.flatMap (·.ts)).length)) by omega]; exact t5) (by omega)
      refine ⟨q.next, ⟨e.name, d1 :: d, (p.tok T).a⟩, ?_, e2, ?_, ⟨rfl, by rw [← hL]; exact .cons f4 e4⟩⟩
      · show p.event T = _
        have f1 : p.next.next.next.version T = (q1, d1) := f1
        unfold PS.event
        dsimp only
        rw [word_at (s := ls "event".toUTF8) (by decide +kernel) t1 h0, name_at (p := p.next) t2 h0 (nm_name h.name).2]
        dsimp only
        rw [mark_at (p := p.next.next) t3 h0, f1]
        dsimp only
        rw [e1]
        dsimp only
        rw [mark_at (p := q) (c := 125) (n := 0) (by rw [e3, f3, show p.i + 3 + y.ts.length + (L.flatMap (·.ts)).length = p.i + (3 + (y.ts.length + (L.flatMap (·.ts)).length)) by omega]; exact t5) e2]
      · show q.i + 1 = _
        rw [e3, f3, List.length_append, el, List.length_append]
        simp only [List.length_cons, List.length_nil]
        omega
theorem events_rd : ∀ (L : List (Pr3 Re)), (∀ y ∈ L, ReadBy EAlike (fun T p => p.event T) y.x y.ts ∧ ∃ r, y.ts = kW wEvent :: r) → ∀ {T : List Tk} {p : PS} {f : Nat}, p.flt = 0 → Toks T p.i (L.flatMap (·.ts)) → Atk T (p.i + (L.flatMap (·.ts)).length) (0, [], 0) → L.length < f →
    ∃ q d, eventsL T f p = (q, d) ∧ q.flt = 0 ∧ q.i = p.i + (L.flatMap (·.ts)).length ∧ Rel2 EAlike (L.map (·.x)) d
  | [], _, T, p, f + 1, h0, _, hc, _ => by
    refine ⟨p, [], ?_, h0, rfl, .nil⟩
    have hc : Atk T p.i (0, [], 0) := hc
    unfold eventsL
    rw [if_neg]
    rw [is_at hc h0]
    simp
  | y :: L, hL, T, p, f + 1, h0, ht, hc, hf => by
    obtain ⟨hy, r, hs⟩ := hL y (.head _)
    rw [List.flatMap_cons] at ht hc ⊢
    obtain ⟨t1, t2⟩ := toks_app.1 ht
    obtain ⟨q, d, e1, e2, e3, e4⟩ := hy h0 t1
    rw [List.length_append] at hc
    obtain ⟨q', d', g1, g2, g3, g4⟩ := events_rd L (fun z hz => hL z (.tail _ hz)) (T := T) (p := q) (f := f) e2 (by rw [e3]; exact t2) (by rw [e3, Nat.add_assoc]; exact hc) (by simp only [List.length_cons] at hf; omega)
    refine ⟨q', d :: d', ?_, g2, by rw [g3, e3, List.length_append, Nat.add_assoc], .cons e4 g4⟩
    have hw : p.is T 1 (ls "event".toUTF8) = true := by
      rw [hs] at t1
      rw [is_at t1.1 h0]
      decide +kernel
    unfold eventsL
    rw [if_pos hw]
    have e1 : p.event T = (q, d) := e1
    rw [e1]
    dsimp only
    rw [g1]
theorem toks_all {l : List Tk} {ts : List Kn} (h : l.map kern = ts) (x : Tk) : Toks (l ++ [x]) 0 ts := by
  subst h
  refine Toks.map fun j y hy => ?_
  rw [Nat.zero_add, List.getElem?_append_left (List.getElem?_eq_some_iff.1 hy).1]
  exact hy
theorem at_end {l : List Tk} {ts : List Kn} (h : l.map kern = ts) (n : Nat) : Atk (l ++ [endTk n]) (0 + ts.length) (0, [], 0) := by
  subst h
  refine ⟨endTk n, ?_, rfl⟩
  rw [Nat.zero_add, List.length_map, List.getElem?_append_right (Nat.le_refl _), Nat.sub_self]
  rfl
theorem end_at {T : List Tk} {p : PS} {t : List UInt8} {n : Nat} (h : Atk T p.i (0, t, n)) : p.end_ T = p := by
  unfold PS.end_
  rw [if_neg]
  rw [(tok_k h).1]
  simp

/-- what is printed of a tree, read -/
theorem sch_back {l : List Re} (h : ∀ e ∈ l, EvFit e) : ∃ d, schemaL (ptT l) = .ok d ∧ Rel2 EAlike l d := by
  obtain ⟨L, hL, hok⟩ := pick (P := fun e ts => Lf (ptE e) ts ∧ (ReadBy EAlike (fun T p => p.event T) e ts ∧ ∃ r, ts = kW wEvent :: r)) l fun e he => ev_rd (h e he)
  have hlf : Lf (ptT l) (L.flatMap (·.ts)) := by
    unfold ptT
    rw [← hL]
    exact lf_pick L fun y hy => (hok y hy).1
  obtain ⟨k, k1, k2⟩ := hlf.lx.all 0
  have hfl := flat_le L fun y hy => by obtain ⟨r, e⟩ := (hok y hy).2.2; exact ⟨_, r, e⟩
  have hkl : k.length = (L.flatMap (·.ts)).length := by rw [← k1, List.length_map]
  obtain ⟨q, d, e1, e2, e3, e4⟩ := events_rd L (fun y hy => (hok y hy).2) (T := k ++ [endTk (0 + (ptT l).length)]) (p := PS.zero) (f := (k ++ [endTk (0 + (ptT l).length)]).length + 1) rfl (toks_all k1 _) (at_end k1 _) (by rw [List.length_append]; omega)
  refine ⟨d, ?_, by rw [← hL]; exact e4⟩
  unfold schemaL
  rw [k2]
  dsimp only
  rw [e1]
  dsimp only
  rw [end_at (p := q) (t := []) (n := 0) (by rw [e3]; exact at_end k1 _), if_neg (by omega)]
/-- what is printed of an expression, read -/
theorem val_back {N : List Rn} (hN : ∀ y ∈ N, y.num < 18446744073709551616) {e : Pe} (h : exprP N = some e) (hd : e.dp ≤ 100) : ∃ d, valueL e.tx = .ok d ∧ Rel2 AlikeN N d := by
  obtain ⟨x, x1, x2, x3, x4⟩ := expr_rx hN h
  obtain ⟨k, k1, k2⟩ := x4.lx.all 0
  rw [x1] at k2
  obtain ⟨nds, r, e1⟩ := expr_on (T := k ++ [endTk (0 + e.tx.length)]) (f := (k ++ [endTk (0 + e.tx.length)]).length + 1) (p := PS.zero) x4 rfl (toks_all k1 _) (by decide) (by show (0 : Int) + _ ≤ _; omega) (by omega) (by show _ < 0 + _; omega) (at_end k1 _) (by decide)
  refine ⟨nds, ?_, by rw [← x3]; exact r⟩
  have hval : PS.zero.value (k ++ [endTk (0 + e.tx.length)]) = PS.zero.adv x.ts.length nds [x.dp] := e1
  unfold valueL
  rw [k2]
  dsimp only
  rw [hval, end_at (p := PS.zero.adv x.ts.length nds [x.dp]) (t := []) (n := 0) (at_end k1 _), if_neg (show ¬ (PS.zero.adv x.ts.length nds [x.dp]).flt ≠ 0 from fun g => g rfl)]
  rfl
end Go.Proofs.YtipcgmaobiobbaaGreatDoor
