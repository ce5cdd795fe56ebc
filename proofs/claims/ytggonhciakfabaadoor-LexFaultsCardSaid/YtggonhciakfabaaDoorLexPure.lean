/- Plain functions of layer 8: blanks and remarks, tokens, the tokens of a text, a text written as one. No walk here. -/
import Derived.Test.YtggonhciakfabaaDoorPartPure
namespace Go.Proofs.YtggonhciakfabaaDoor
open Go.RowKit

def isBl (c : UInt8) : Bool := decide (c.toNat = 32 ∨ c.toNat = 9 ∨ c.toNat = 10 ∨ c.toNat = 13)
def isD (c : UInt8) : Bool := decide (48 ≤ c.toNat ∧ c.toNat ≤ 57)
def isL (c : UInt8) : Bool := decide (c.toNat = 95 ∨ (97 ≤ c.toNat ∧ c.toNat ≤ 122) ∨ (65 ≤ c.toNat ∧ c.toNat ≤ 90))
def isW (c : UInt8) : Bool := isL c || isD c
def isM (c : UInt8) : Bool := decide (c.toNat = 123 ∨ c.toNat = 125 ∨ c.toNat = 40 ∨ c.toNat = 41 ∨ c.toNat = 58 ∨ c.toNat = 59 ∨ c.toNat = 44 ∨ c.toNat = 61 ∨ c.toNat = 43 ∨ c.toNat = 45 ∨ c.toNat = 42)

/-- how many bytes of blanks and remarks stand ahead; the first argument: whether a remark is open -/
def skipS : Bool → List UInt8 → Nat
  | _, [] => 0
  | m, c :: r => if m = true ∧ c.toNat ≠ 10 then skipS true r + 1 else if isBl c then skipS false r + 1 else if c.toNat = 35 then skipS true r + 1 else 0
/-- whether a remark is open behind them -/
def endS : Bool → List UInt8 → Bool
  | m, [] => m
  | m, c :: r => if m = true ∧ c.toNat ≠ 10 then endS true r else if isBl c then endS false r else if c.toNat = 35 then endS true r else false

def wordN (l : List UInt8) : Nat := (l.takeWhile isW).length
def numN (l : List UInt8) : Nat := (l.takeWhile isD).length
def numV (l : List UInt8) : Nat := l.foldl (fun x c => x * 10 + (c.toNat - 48)) 0

/-- what stands behind an opening quote -/
inductive Tx where
  | done (l : List UInt8) (n : Nat)
  | esc (o : Nat)
  | wide
def Tx.push (c : UInt8) (k : Nat) : Tx → Tx
  | .done l n => .done (c :: l) (n + k)
  | .esc o => .esc (o + k)
  | .wide => .wide
def txS : List UInt8 → Tx
  | [] => .wide
  | c :: r =>
    if c.toNat = 10 then .wide
    else if c.toNat = 34 then .done [] 1
    else if c.toNat = 92 then
      match r with
      | [] => .esc 0
      | d :: r2 =>
        if d.toNat = 92 ∨ d.toNat = 34 then (txS r2).push d 2
        else if d.toNat = 110 then (txS r2).push 10 2
        else if d.toNat = 116 then (txS r2).push 9 2
        else if d.toNat = 120 then
          match r2 with
          | [] => .esc 0
          | [_] => .esc 0
          | a :: b :: r3 => if dv a.toNat = 16 ∨ dv b.toNat = 16 then .esc 0 else (txS r3).push (UInt8.ofNat (16 * dv a.toNat + dv b.toNat)) 4
        else .esc 0
    else (txS r).push c 1

/-- what the escape stands for whose backslash stands ahead of r, and how many bytes of r it has -/
def escD (d : UInt8) (r : List UInt8) : Option (UInt8 × Nat) :=
  if d.toNat = 92 ∨ d.toNat = 34 then some (d, 1)
  else if d.toNat = 110 then some (10, 1)
  else if d.toNat = 116 then some (9, 1)
  else if d.toNat = 120 then
    match r with
    | a :: b :: _ => if dv a.toNat = 16 ∨ dv b.toNat = 16 then none else some (UInt8.ofNat (16 * dv a.toNat + dv b.toNat), 3)
    | _ => none
  else none
def escX : List UInt8 → Option (UInt8 × Nat)
  | [] => none
  | d :: r => escD d r

theorem skip_cons (m : Bool) (c : UInt8) (r : List UInt8) : skipS m (c :: r) = if m = true ∧ c.toNat ≠ 10 then skipS true r + 1 else if isBl c then skipS false r + 1 else if c.toNat = 35 then skipS true r + 1 else 0 := rfl
theorem end_cons (m : Bool) (c : UInt8) (r : List UInt8) : endS m (c :: r) = if m = true ∧ c.toNat ≠ 10 then endS true r else if isBl c then endS false r else if c.toNat = 35 then endS true r else false := rfl
theorem tx_nil : txS [] = .wide := rfl
theorem tx_line {c : UInt8} (r : List UInt8) (h : c.toNat = 10) : txS (c :: r) = .wide := by unfold txS; rw [if_pos h]
theorem tx_close {c : UInt8} (r : List UInt8) (h : c.toNat = 34) : txS (c :: r) = .done [] 1 := by unfold txS; rw [if_neg (by omega), if_pos h]
theorem tx_plain {c : UInt8} (r : List UInt8) (h1 : c.toNat ≠ 10) (h2 : c.toNat ≠ 34) (h3 : c.toNat ≠ 92) : txS (c :: r) = (txS r).push c 1 := by
  conv => lhs; unfold txS
  rw [if_neg h1, if_neg h2, if_neg h3]
theorem tx_esc {c : UInt8} (r : List UInt8) (h : c.toNat = 92) : txS (c :: r) = match escX r with | none => .esc 0 | some (x, k) => (txS (r.drop k)).push x (k + 1) := by
  conv => lhs; unfold txS
  rw [if_neg (by omega), if_neg (by omega), if_pos h]
  cases r with
  | nil => rfl
  | cons d r2 =>
    show _ = match escD d r2 with | none => _ | some (x, k) => _
    unfold escD
    dsimp only
    split
    · rfl
    · split
      · rfl
      · split
        · rfl
        · split
          · cases r2 with
            | nil => rfl
            | cons a r3 =>
              cases r3 with
              | nil => rfl
              | cons b r4 =>
                dsimp only
                split <;> rfl
          · rfl
theorem escX_len {r : List UInt8} {x : UInt8} {k : Nat} (h : escX r = some (x, k)) : 1 ≤ k ∧ k ≤ r.length := by
  cases r with
  | nil => cases h
  | cons d r2 =>
    change escD d r2 = _ at h
    unfold escD at h
    simp only [List.length_cons]
    split at h
    · simp only [Option.some.injEq, Prod.mk.injEq] at h; omega
    · split at h
      · simp only [Option.some.injEq, Prod.mk.injEq] at h; omega
      · split at h
        · simp only [Option.some.injEq, Prod.mk.injEq] at h; omega
        · split at h
          · split at h
            · split at h
              · cases h
              · simp only [Option.some.injEq, Prod.mk.injEq] at h
                simp only [List.length_cons]; omega
            · cases h
          · cases h
theorem escX_join {r : List UInt8} {x : UInt8} {k : Nat} (h : escX r = some (x, k)) (y : List UInt8) : escX (r.take k ++ y) = some (x, k) := by
  cases r with
  | nil => cases h
  | cons d r2 =>
    have hk := escX_len h
    obtain ⟨j, rfl⟩ : ∃ j, k = j + 1 := ⟨k - 1, by omega⟩
    rw [List.take_succ_cons, List.cons_append]
    change escD d r2 = _ at h
    show escD d _ = _
    unfold escD at h ⊢
    split at h
    · rename_i q; rw [if_pos q]; exact h
    · rename_i q; rw [if_neg q]
      split at h
      · rename_i q; rw [if_pos q]; exact h
      · rename_i q; rw [if_neg q]
        split at h
        · rename_i q; rw [if_pos q]; exact h
        · rename_i q; rw [if_neg q]
          split at h
          · rename_i q; rw [if_pos q]
            split at h
            · split at h
              · cases h
              · rename_i a b r4 q2
                have h' := h
                simp only [Option.some.injEq, Prod.mk.injEq] at h'
                obtain rfl : j = 2 := by omega
                rw [List.take_succ_cons, List.take_succ_cons, List.take_zero]
                simp only [List.cons_append, List.nil_append]
                rw [if_neg q2]; exact h
            · cases h
          · cases h
/-- an escape that is none is none with a newline behind it -/
theorem escX_none {r : List UInt8} (h : escX r = none) (m : List UInt8) {n : UInt8} (hn : n.toNat = 10) : escX (r ++ n :: m) = none := by
  have d16 : dv n.toNat = 16 := by rw [hn]; rfl
  cases r with
  | nil =>
    rw [List.nil_append]
    show escD n m = none
    unfold escD
    rw [if_neg (by omega), if_neg (by omega), if_neg (by omega), if_neg (by omega)]
  | cons d r2 =>
    rw [List.cons_append]
    change escD d r2 = _ at h
    show escD d _ = _
    unfold escD at h ⊢
    split at h
    · cases h
    · rename_i q; rw [if_neg q]
      split at h
      · cases h
      · rename_i q; rw [if_neg q]
        split at h
        · cases h
        · rename_i q; rw [if_neg q]
          split at h
          · rename_i q; rw [if_pos q]
            match r2, h with
            | [], _ =>
              cases m with
              | nil => rfl
              | cons b m2 => simp only [List.nil_append]; rw [if_pos (.inl d16)]
            | [a], _ => simp only [List.cons_append, List.nil_append]; rw [if_pos (.inr d16)]
            | a :: b :: r4, h =>
              simp only [List.cons_append]
              dsimp only at h
              split at h
              · rename_i q2; rw [if_pos q2]
              · cases h
          · rename_i q; rw [if_neg q]

/-- a token ahead, or its fault -/
inductive TR where
  | tok (k : Nat) (t : List UInt8) (n : Nat) (len : Nat)
  | bad (o : Nat) (e : Nat)
def tokL : List UInt8 → TR
  | [] => .bad 0 80
  | c :: r =>
    if isL c then (if 64 < wordN (c :: r) then .bad 0 111 else .tok 1 ((c :: r).take (wordN (c :: r))) 0 (wordN (c :: r)))
    else if isD c then (if 18446744073709551615 < numV ((c :: r).take (numN (c :: r))) then .bad 0 111 else .tok 2 [] (numV ((c :: r).take (numN (c :: r)))) (numN (c :: r)))
    else if c.toNat = 34 then
      match txS r with
      | .done l n => .tok 3 l 0 (n + 1)
      | .esc o => .bad (o + 1) 82
      | .wide => .bad 0 81
    else if isM c then .tok 4 [c] 0 1
    else .bad 0 80

/-- a token with its place -/
structure Tk where
  k : Nat
  t : List UInt8
  n : Nat
  a : Nat
  e : Nat
deriving DecidableEq
inductive LR where
  | ok (l : List Tk)
  | bad (at_ : Nat) (e : Nat)
deriving DecidableEq
def LR.push (x : Tk) : LR → LR
  | .ok l => .ok (x :: l)
  | .bad a e => .bad a e
def LR.pre (l : List Tk) : LR → LR
  | .ok r => .ok (l ++ r)
  | .bad a e => .bad a e
theorem LR.pre_nil (x : LR) : x.pre [] = x := by cases x <;> rfl
theorem LR.pre_push (l : List Tk) (t : Tk) (x : LR) : (x.push t).pre l = x.pre (l ++ [t]) := by cases x <;> simp [LR.push, LR.pre]

def endTk (n : Nat) : Tk := ⟨0, [], 0, n, n⟩
/-- the tokens of what stands from place off on -/
def lexF : Nat → List UInt8 → Nat → LR
  | 0, _, off => .ok [endTk off]
  | f + 1, l, off =>
    if skipS false l = l.length then .ok [endTk (off + l.length)]
    else match tokL (l.drop (skipS false l)) with
      | .bad o e => .bad (off + skipS false l + o) e
      | .tok k t n len => (lexF f (l.drop (skipS false l + len)) (off + skipS false l + len)).push ⟨k, t, n, off + skipS false l, off + skipS false l + len⟩
def lexL (l : List UInt8) (off : Nat) : LR := lexF (l.length + 1) l off

theorem skipS_le (m : Bool) (l : List UInt8) : skipS m l ≤ l.length := by
  induction l generalizing m with
  | nil => exact Nat.le_refl _
  | cons c r ih =>
    unfold skipS
    simp only [List.length_cons]
    split
    · have := ih true; omega
    · split
      · have := ih false; omega
      · split
        · have := ih true; omega
        · omega

theorem Tx.push_done {c : UInt8} {k : Nat} {x : Tx} {l : List UInt8} {n : Nat} (h : x.push c k = .done l n) : ∃ l' n', x = .done l' n' ∧ l = c :: l' ∧ n = n' + k := by
  cases x <;> simp [Tx.push] at h
  exact ⟨_, _, rfl, h.1.symm, h.2.symm⟩
theorem Tx.push_esc {c : UInt8} {k o : Nat} {x : Tx} (h : x.push c k = .esc o) : ∃ o', x = .esc o' ∧ o = o' + k := by
  cases x <;> simp [Tx.push] at h
  exact ⟨_, rfl, h.symm⟩
theorem Tx.push_wide {c : UInt8} {k : Nat} {x : Tx} (h : x.push c k = .wide) : x = .wide := by
  cases x <;> simp [Tx.push] at h
  rfl

theorem txS_len (l : List UInt8) {t : List UInt8} {n : Nat} (h : txS l = .done t n) : 1 ≤ n ∧ n ≤ l.length := by
  match l, h with
  | [], h => cases h
  | c :: r, h =>
    by_cases h1 : c.toNat = 10
    · rw [tx_line r h1] at h; cases h
    · by_cases h2 : c.toNat = 34
      · rw [tx_close r h2] at h
        simp only [Tx.done.injEq] at h
        simp only [List.length_cons]; omega
      · by_cases h3 : c.toNat = 92
        · rw [tx_esc r h3] at h
          split at h
          · cases h
          · rename_i x k he
            have hk := escX_len he
            obtain ⟨l', n', e1, _, e3⟩ := Tx.push_done h
            have := txS_len (r.drop k) e1
            rw [List.length_drop] at this
            simp only [List.length_cons]; omega
        · rw [tx_plain r h1 h2 h3] at h
          obtain ⟨l', n', e1, _, e3⟩ := Tx.push_done h
          have := txS_len r e1
          simp only [List.length_cons]; omega
termination_by l.length
decreasing_by
  all_goals (simp only [List.length_cons, List.length_drop]; omega)

theorem wordN_le (l : List UInt8) : wordN l ≤ l.length := by unfold wordN; exact (List.takeWhile_prefix _).length_le
theorem numN_le (l : List UInt8) : numN l ≤ l.length := by unfold numN; exact (List.takeWhile_prefix _).length_le
theorem wordN_pos {c : UInt8} {r : List UInt8} (h : isL c = true) : 1 ≤ wordN (c :: r) := by
  unfold wordN
  rw [List.takeWhile_cons_of_pos (by unfold isW; rw [h]; rfl)]
  simp
theorem numN_pos {c : UInt8} {r : List UInt8} (h : isD c = true) : 1 ≤ numN (c :: r) := by
  unfold numN
  rw [List.takeWhile_cons_of_pos h]
  simp

theorem tokL_len {l t : List UInt8} {k n len : Nat} (h : tokL l = .tok k t n len) : 1 ≤ len ∧ len ≤ l.length := by
  cases l with
  | nil => cases h
  | cons c r =>
    simp only [tokL] at h
    split at h
    · rename_i hL
      split at h
      · cases h
      · simp only [TR.tok.injEq] at h
        obtain ⟨_, _, _, rfl⟩ := h
        exact ⟨wordN_pos hL, wordN_le _⟩
    · split at h
      · rename_i hD
        split at h
        · cases h
        · simp only [TR.tok.injEq] at h
          obtain ⟨_, _, _, rfl⟩ := h
          exact ⟨numN_pos hD, numN_le _⟩
      · split at h
        · split at h
          · rename_i h1
            simp only [TR.tok.injEq] at h
            obtain ⟨_, _, _, rfl⟩ := h
            have := txS_len r h1
            simp only [List.length_cons]; omega
          · cases h
          · cases h
        · split at h
          · simp only [TR.tok.injEq] at h
            obtain ⟨_, _, _, rfl⟩ := h
            simp
          · cases h

/-- what is left over gives the same at any greater count -/
theorem lexF_more (f : Nat) : ∀ (l : List UInt8) (off g : Nat), l.length < f → f ≤ g → lexF g l off = lexF f l off := by
  induction f with
  | zero => intro l off g h; omega
  | succ f ih =>
    intro l off g hf hg
    obtain ⟨g, rfl⟩ : ∃ g', g = g' + 1 := ⟨g - 1, by omega⟩
    unfold lexF
    split
    · rfl
    · split
      · rfl
      · rename_i k t n len h
        have hl := tokL_len h
        rw [List.length_drop] at hl
        rw [ih _ _ g (by rw [List.length_drop]; omega) (by omega)]

theorem lexL_done {l : List UInt8} {off : Nat} (h : skipS false l = l.length) : lexL l off = .ok [endTk (off + l.length)] := by
  unfold lexL lexF
  rw [if_pos h]
theorem lexL_bad {l : List UInt8} {off o e : Nat} (h0 : skipS false l ≠ l.length) (h : tokL (l.drop (skipS false l)) = .bad o e) : lexL l off = .bad (off + skipS false l + o) e := by
  unfold lexL lexF
  rw [if_neg h0, h]
theorem lexL_tok {l : List UInt8} {off k n len : Nat} {t : List UInt8} (h0 : skipS false l ≠ l.length) (h : tokL (l.drop (skipS false l)) = .tok k t n len) :
    lexL l off = (lexL (l.drop (skipS false l + len)) (off + skipS false l + len)).push ⟨k, t, n, off + skipS false l, off + skipS false l + len⟩ := by
  have hl := tokL_len h
  rw [List.length_drop] at hl
  have hs := skipS_le false l
  unfold lexL
  conv => lhs; unfold lexF
  rw [if_neg h0, h]
  dsimp only
  rw [lexF_more ((l.drop (skipS false l + len)).length + 1) _ _ l.length (by omega) (by rw [List.length_drop]; omega)]
end Go.Proofs.YtggonhciakfabaaDoor
