/- Numbers within a family: plain facts on lists of entries. -/
import Derived.Test.YtgdeeojamnbakaaRollClosed
namespace Go.Proofs.Ytgdeeojamnbakaa
open Go.RowKit

theorem cnt_append (f : Int) (a b : List Ent) : cnt f (a ++ b) = cnt f a + cnt f b := by
  induction a with
  | nil => simp [cnt]
  | cons e r ih => simp only [List.cons_append, cnt, ih]; omega

/-- What holds of the entries of a book. -/
structure Fine (es : List Ent) : Prop where
  good : Good es
  num : ∀ e ∈ es, 1 ≤ e.num ∧ e.num ≤ cnt e.fam es
  seq : ∀ (i : Nat) (e : Ent), es[i]? = some e → e.num = cnt e.fam (es.take (i + 1))

theorem Fine.nil : Fine [] := ⟨fun e he => by simp at he, fun e he => by simp at he, fun i e he => by simp at he⟩

theorem Fine.snoc {es : List Ent} (h : Fine es) (f : Int) (nm : ByteArray) (sz : Int) (hf : famOk f = true) : Fine (es ++ [⟨f, cnt f es + 1, nm, sz⟩]) := by
  refine ⟨fun e he => ?_, fun e he => ?_, fun i e he => ?_⟩
  · rcases List.mem_append.1 he with he | he
    · exact h.good e he
    · simp at he; subst he; exact hf
  · rcases List.mem_append.1 he with he | he
    · have := h.num e he
      rw [cnt_append]
      omega
    · simp at he
      subst he
      rw [cnt_append]
      simp [cnt]
      omega
  · rw [List.getElem?_append] at he
    split at he
    · rename_i hi
      rw [List.take_append_of_le_length (by omega)]
      exact h.seq i e he
    · rename_i hi
      have hi2 : i = es.length := by
        have := (List.getElem?_eq_some_iff.1 he).1
        simp at this
        omega
      subst hi2
      simp at he
      subst he
      rw [List.take_of_length_le (by simp), cnt_append]
      simp [cnt]

theorem findN_snoc {es : List Ent} (h : ∀ e ∈ es, 1 ≤ e.num) (f : Int) (nm : ByteArray) (h0 : findN f nm es = 0) (n sz : Int) : findN f nm (es ++ [⟨f, n, nm, sz⟩]) = n := by
  induction es with
  | nil => simp [findN, hits]
  | cons e r ih =>
    simp only [findN] at h0
    cases hh : hits f nm e
    · rw [hh] at h0
      simp only [List.cons_append, findN, hh]
      exact ih (fun x hx => h x (by simp [hx])) h0
    · rw [hh] at h0
      have := h e (by simp)
      simp at h0
      omega

theorem findAt_none {es : List Ent} (f n : Int) (h : ∀ e ∈ es, e.fam = f → e.num ≠ n) : findAt f n es = none := by
  induction es with
  | nil => rfl
  | cons e r ih =>
    have hne : isAt f n e = false := by
      unfold isAt
      by_cases hf : e.fam = f
      · have := h e (by simp) hf
        simp [hf, this]
      · simp [hf]
    simp only [findAt, hne]
    exact ih (fun x hx => h x (by simp [hx]))

theorem findAt_snoc {es : List Ent} (f n : Int) (x : Ent) (h : findAt f n es = none) (hx : isAt f n x = true) : findAt f n (es ++ [x]) = some x := by
  induction es with
  | nil => simp [findAt, hx]
  | cons e r ih =>
    simp only [findAt] at h
    cases hh : isAt f n e
    · rw [hh] at h
      simp only [List.cons_append, findAt, hh]
      exact ih h
    · rw [hh] at h
      simp at h

theorem Fine.beyond {es : List Ent} (h : Fine es) (f : Int) : findAt f (cnt f es + 1) es = none :=
  findAt_none f _ (fun e he hf => by have := h.num e he; rw [hf] at this; omega)

theorem why_ok {es : List Ent} {cl : Nat → Bool} {f : Int} {nm : ByteArray} {sz : Int} (h : why es cl f nm sz = 0) : famOk f = true ∧ openF cl f = true ∧ findN f nm es = 0 := by
  unfold why at h
  split at h
  · omega
  rename_i h1
  split at h
  · omega
  rename_i h2
  split at h
  · omega
  rename_i h3
  simp only [Bool.not_eq_false, Bool.and_eq_true] at h1
  exact ⟨h1.1.1, by simp [openF, h1.1.1, h2], by simpa using h3⟩

theorem Fine.entered {es es' : List Ent} {cl : Nat → Bool} {f : Int} {nm : ByteArray} {sz n : Int} (h : Fine es)
    (hd : (why es cl f nm sz = 0 ∧ n = cnt f es + 1 ∧ es' = es ++ [⟨f, cnt f es + 1, nm, sz⟩]) ∨ (why es cl f nm sz ≠ 0 ∧ n = 0 ∧ es' = es)) : Fine es' := by
  rcases hd with ⟨hw, _, rfl⟩ | ⟨_, _, rfl⟩
  · exact h.snoc f nm sz (why_ok hw).1
  · exact h

/-- How many each family has, as they are laid. -/
def cnts (es : List Ent) : Array Value := #[.int .i64 (cnt 0 es : Nat), .int .i64 (cnt 1 es : Nat), .int .i64 (cnt 2 es : Nat), .int .i64 (cnt 3 es : Nat), .int .i64 (cnt 4 es : Nat), .int .i64 (cnt 5 es : Nat)]

theorem cnts_at (es : List Ent) (j : Nat) (hj : j < 6) : (cnts es)[j]? = some (.int .i64 (cnt j es : Nat)) := by
  match j, hj with
  | 0, _ => rfl
  | 1, _ => rfl
  | 2, _ => rfl
  | 3, _ => rfl
  | 4, _ => rfl
  | 5, _ => rfl

theorem cnts_set (es : List Ent) (j : Nat) (hj : j < 6) (e : Ent) (he : e.fam = j) : (cnts es).setIfInBounds j (.int .i64 ((cnt j es : Nat) + 1)) = cnts (es ++ [e]) := by
  obtain ⟨fam, num, name, size⟩ := e
  simp only at he
  subst he
  match j, hj with
  | 0, _ => simp [cnts, cnt_append, cnt]
  | 1, _ => simp [cnts, cnt_append, cnt]
  | 2, _ => simp [cnts, cnt_append, cnt]
  | 3, _ => simp [cnts, cnt_append, cnt]
  | 4, _ => simp [cnts, cnt_append, cnt]
  | 5, _ => simp [cnts, cnt_append, cnt]

end Go.Proofs.Ytgdeeojamnbakaa
