/- Laws of blanks and tokens: what stands ahead and behind. No walk here. -/
import Derived.Test.YtggonhciakfabaaDoorLexPure
namespace Go.Proofs.YtggonhciakfabaaDoor
open Go.RowKit

theorem skip_append {m : Bool} {a : List UInt8} (b : List UInt8) (h : skipS m a = a.length) : skipS m (a ++ b) = a.length + skipS (endS m a) b := by
  induction a generalizing m with
  | nil => simp [endS]
  | cons c r ih =>
    rw [List.cons_append, skip_cons, end_cons]
    rw [skip_cons] at h
    simp only [List.length_cons] at h ⊢
    split at h
    · rename_i q
      rw [if_pos q, if_pos q, ih (by omega)]; omega
    · rename_i q
      rw [if_neg q, if_neg q]
      split at h
      · rename_i q2
        rw [if_pos q2, if_pos q2, ih (by omega)]; omega
      · rename_i q2
        rw [if_neg q2, if_neg q2]
        split at h
        · rename_i q3
          rw [if_pos q3, if_pos q3, ih (by omega)]; omega
        · omega
theorem skip_part {m : Bool} {a : List UInt8} (b : List UInt8) (h : skipS m a ≠ a.length) : skipS m (a ++ b) = skipS m a := by
  induction a generalizing m with
  | nil => exact absurd rfl h
  | cons c r ih =>
    rw [List.cons_append, skip_cons, skip_cons]
    rw [skip_cons] at h
    simp only [List.length_cons] at h
    split
    · rename_i q
      rw [if_pos q] at h
      rw [ih (by omega)]
    · rename_i q
      rw [if_neg q] at h
      split
      · rename_i q2
        rw [if_pos q2] at h
        rw [ih (by omega)]
      · rename_i q2
        rw [if_neg q2] at h
        split
        · rename_i q3
          rw [if_pos q3] at h
          rw [ih (by omega)]
        · rfl
theorem skip_take (m : Bool) (l : List UInt8) : skipS m (l.take (skipS m l)) = skipS m l := by
  have hle := skipS_le m l
  have hl : (l.take (skipS m l)).length = skipS m l := by rw [List.length_take]; omega
  by_cases h : skipS m (l.take (skipS m l)) = (l.take (skipS m l)).length
  · rw [h, hl]
  · have := skip_part (l.drop (skipS m l)) h
    rw [List.take_append_drop] at this
    omega
/-- what stands behind the byte that ends the blanks plays no part -/
theorem skip_cut {m : Bool} {l : List UInt8} {j : Nat} (y : List UInt8) (h : skipS m l < j) (hj : j ≤ l.length) : skipS m (l.take j ++ y) = skipS m l := by
  have hl : (l.take j).length = j := by rw [List.length_take]; omega
  have hn : skipS m (l.take j) ≠ (l.take j).length := fun e => by
    have := skip_append (l.drop j) e
    rw [List.take_append_drop, hl] at this
    omega
  have h2 := skip_part (l.drop j) hn
  rw [List.take_append_drop] at h2
  rw [skip_part y hn, ← h2]

/-- the list doesn't go on with such a byte -/
def Bd (p : UInt8 → Bool) (y : List UInt8) : Prop := ∀ d r, y = d :: r → p d = false
theorem Bd.nil (p : UInt8 → Bool) : Bd p [] := fun _ _ h => by cases h
theorem Bd.cons {p : UInt8 → Bool} {d : UInt8} (r : List UInt8) (h : p d = false) : Bd p (d :: r) := fun _ _ e => by cases e; exact h
theorem Bd.app {p : UInt8 → Bool} {a b : List UInt8} (ha : Bd p a) (hb : Bd p b) : Bd p (a ++ b) := by
  cases a with
  | nil => exact hb
  | cons c r => exact Bd.cons _ (ha c r rfl)
theorem Bd.take {p : UInt8 → Bool} {a : List UInt8} (ha : Bd p a) (k : Nat) : Bd p (a.take k) := by
  cases a with
  | nil => simpa using Bd.nil p
  | cons c r =>
    cases k with
    | zero => simpa using Bd.nil p
    | succ k => rw [List.take_succ_cons]; exact Bd.cons _ (ha c r rfl)
theorem Bd.digit {y : List UInt8} (h : Bd isW y) : Bd isD y := fun d r e => by
  have := h d r e
  unfold isW at this
  rw [Bool.or_eq_false_iff] at this
  exact this.2

theorem tw_take (p : UInt8 → Bool) (l : List UInt8) : l.take (l.takeWhile p).length = l.takeWhile p := (List.prefix_iff_eq_take.1 (List.takeWhile_prefix p)).symm
theorem tw_mem (p : UInt8 → Bool) (l : List UInt8) : ∀ c ∈ l.takeWhile p, p c = true := by
  induction l with
  | nil => simp
  | cons d r ih =>
    intro c hc
    rw [List.takeWhile_cons] at hc
    split at hc
    · rename_i hd
      rcases List.mem_cons.1 hc with rfl | h
      · exact hd
      · exact ih c h
    · cases hc
theorem tw_join {p : UInt8 → Bool} {x : List UInt8} (h : ∀ c ∈ x, p c = true) {y : List UInt8} (hy : Bd p y) : (x ++ y).takeWhile p = x := by
  rw [List.takeWhile_append_of_pos h]
  cases y with
  | nil => simp
  | cons d r => rw [List.takeWhile_cons_of_neg (by simp [hy d r rfl]), List.append_nil]
theorem tw_rest (p : UInt8 → Bool) (l : List UInt8) : Bd p (l.drop (l.takeWhile p).length) := by
  induction l with
  | nil => simpa using Bd.nil p
  | cons c r ih =>
    rw [List.takeWhile_cons]
    split
    · simpa using ih
    · rename_i h
      simpa using Bd.cons r (by simpa using h)
theorem tw_more {p : UInt8 → Bool} (l : List UInt8) {y : List UInt8} (hy : Bd p y) : (l ++ y).takeWhile p = l.takeWhile p := by
  induction l with
  | nil =>
    cases y with
    | nil => rfl
    | cons d r => rw [List.nil_append, List.takeWhile_cons_of_neg (by simp [hy d r rfl])]; rfl
  | cons c r ih =>
    rw [List.cons_append, List.takeWhile_cons, List.takeWhile_cons, ih]

theorem tx_join (r : List UInt8) {t : List UInt8} {n : Nat} (y : List UInt8) (h : txS r = .done t n) : txS (r.take n ++ y) = .done t n := by
  match r, h with
  | [], h => cases h
  | c :: r, h =>
    by_cases h1 : c.toNat = 10
    · rw [tx_line r h1] at h; cases h
    · by_cases h2 : c.toNat = 34
      · rw [tx_close r h2] at h
        simp only [Tx.done.injEq] at h
        obtain ⟨rfl, rfl⟩ := h
        rw [List.take_succ_cons, List.cons_append, tx_close _ h2]
      · by_cases h3 : c.toNat = 92
        · rw [tx_esc r h3] at h
          split at h
          · cases h
          · rename_i x k he
            have hk := escX_len he
            obtain ⟨l', n', e1, rfl, rfl⟩ := Tx.push_done h
            have ih := tx_join (r.drop k) y e1
            have hs : r.take (n' + k) = r.take k ++ (r.drop k).take n' := by rw [Nat.add_comm, List.take_add]
            rw [show n' + (k + 1) = (n' + k) + 1 by omega, List.take_succ_cons, List.cons_append, tx_esc _ h3, hs, List.append_assoc, escX_join he]
            dsimp only
            rw [List.drop_left' (by rw [List.length_take]; omega), ih]
            rfl
        · rw [tx_plain r h1 h2 h3] at h
          obtain ⟨l', n', e1, rfl, rfl⟩ := Tx.push_done h
          have ih := tx_join r y e1
          rw [List.take_succ_cons, List.cons_append, tx_plain _ h1 h2 h3, ih]
          rfl
termination_by r.length
decreasing_by
  all_goals (simp only [List.length_cons, List.length_drop]; omega)

/-- a token is the same whatever stands behind it, as long as that doesn't go on with it -/
theorem tok_join {l t : List UInt8} {k n len : Nat} (h : tokL l = .tok k t n len) {y : List UInt8} (h1 : k = 1 → Bd isW y) (h2 : k = 2 → Bd isD y) : tokL (l.take len ++ y) = .tok k t n len := by
  cases l with
  | nil => cases h
  | cons c r =>
    have hl := tokL_len h
    simp only [tokL] at h
    split at h
    · rename_i qL
      split at h
      · cases h
      · rename_i q64
        simp only [TR.tok.injEq] at h
        obtain ⟨rfl, rfl, rfl, rfl⟩ := h
        have hw := tw_join (tw_mem isW (c :: r)) (h1 rfl)
        have hx : (c :: r).take (wordN (c :: r)) = (c :: r).takeWhile isW := tw_take isW _
        have hwn : wordN ((c :: r).take (wordN (c :: r)) ++ y) = wordN (c :: r) := by
          rw [hx]; unfold wordN; rw [hw]
        obtain ⟨x', hx'⟩ : ∃ x', (c :: r).take (wordN (c :: r)) = c :: x' := ⟨r.take (wordN (c :: r) - 1), by
          obtain ⟨j, hj⟩ : ∃ j, wordN (c :: r) = j + 1 := ⟨wordN (c :: r) - 1, by omega⟩
          rw [hj, List.take_succ_cons]; rfl⟩
        have hlx : (c :: x').length = wordN (c :: r) := by rw [← hx', List.length_take]; omega
        rw [hx'] at hwn ⊢
        rw [List.cons_append] at hwn ⊢
        simp only [tokL]
        rw [if_pos qL, hwn, if_neg q64, ← List.cons_append, ← hlx, List.take_left]
    · rename_i qL
      split at h
      · rename_i qD
        split at h
        · cases h
        · rename_i qbig
          simp only [TR.tok.injEq] at h
          obtain ⟨rfl, rfl, rfl, rfl⟩ := h
          have hw := tw_join (tw_mem isD (c :: r)) (h2 rfl)
          have hx : (c :: r).take (numN (c :: r)) = (c :: r).takeWhile isD := tw_take isD _
          have hwn : numN ((c :: r).take (numN (c :: r)) ++ y) = numN (c :: r) := by
            rw [hx]; unfold numN; rw [hw]
          obtain ⟨x', hx'⟩ : ∃ x', (c :: r).take (numN (c :: r)) = c :: x' := ⟨r.take (numN (c :: r) - 1), by
            obtain ⟨j, hj⟩ : ∃ j, numN (c :: r) = j + 1 := ⟨numN (c :: r) - 1, by omega⟩
            rw [hj, List.take_succ_cons]; rfl⟩
          have hlx : (c :: x').length = numN (c :: r) := by rw [← hx', List.length_take]; omega
          rw [hx'] at hwn qbig ⊢
          rw [List.cons_append] at hwn ⊢
          simp only [tokL]
          have ht : (c :: (x' ++ y)).take (numN (c :: r)) = c :: x' := by rw [← List.cons_append, ← hlx, List.take_left]
          rw [if_neg qL, if_pos qD, hwn, ht, if_neg qbig]
      · rename_i qD
        split at h
        · rename_i q34
          split at h
          · rename_i h3
            simp only [TR.tok.injEq] at h
            obtain ⟨rfl, rfl, rfl, rfl⟩ := h
            rw [List.take_succ_cons, List.cons_append]
            simp only [tokL]
            rw [if_neg qL, if_neg qD, if_pos q34, tx_join r y h3]
          · cases h
          · cases h
        · rename_i q34
          split at h
          · rename_i qM
            simp only [TR.tok.injEq] at h
            obtain ⟨rfl, rfl, rfl, rfl⟩ := h
            rw [List.take_succ_cons, List.take_zero, List.cons_append]
            simp only [tokL]
            rw [if_neg qL, if_neg qD, if_neg q34, if_pos qM]
          · cases h

theorem tok_rest {l t : List UInt8} {k n len : Nat} (h : tokL l = .tok k t n len) : (k = 1 → Bd isW (l.drop len)) ∧ (k = 2 → Bd isD (l.drop len)) := by
  cases l with
  | nil => cases h
  | cons c r =>
    simp only [tokL] at h
    split at h
    · split at h
      · cases h
      · simp only [TR.tok.injEq] at h
        obtain ⟨rfl, rfl, rfl, rfl⟩ := h
        exact ⟨fun _ => tw_rest isW _, fun e => by omega⟩
    · split at h
      · split at h
        · cases h
        · simp only [TR.tok.injEq] at h
          obtain ⟨rfl, rfl, rfl, rfl⟩ := h
          exact ⟨fun e => by omega, fun _ => tw_rest isD _⟩
      · split at h
        · split at h
          · simp only [TR.tok.injEq] at h
            obtain ⟨rfl, rfl, rfl, rfl⟩ := h
            exact ⟨fun e => by omega, fun e => by omega⟩
          · cases h
          · cases h
        · split at h
          · simp only [TR.tok.injEq] at h
            obtain ⟨rfl, rfl, rfl, rfl⟩ := h
            exact ⟨fun e => by omega, fun e => by omega⟩
          · cases h
end Go.Proofs.YtggonhciakfabaaDoor
