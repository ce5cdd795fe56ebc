/- More facts on the tokens of a text: how many, the last one, their places, a token by itself. No walk here. -/
import Derived.Test.YtggonhciakfabaaDoorLexEnds
namespace Go.Proofs.YtggonhciakfabaaDoor
open Go.RowKit

theorem tok_err {l : List UInt8} {o e : Nat} (h : tokL l = .bad o e) : e ≠ 0 := by
  cases l with
  | nil => cases h; decide
  | cons c r =>
    simp only [tokL] at h
    split at h
    · split at h
      · cases h; decide
      · cases h
    · split at h
      · split at h
        · cases h; decide
        · cases h
      · split at h
        · split at h
          · cases h
          · cases h; decide
          · cases h; decide
        · split at h
          · cases h
          · cases h; decide

theorem tok_err2 {l : List UInt8} {o e : Nat} (h : tokL l = .bad o e) : e ≠ 2 := by
  cases l with
  | nil => cases h; decide
  | cons c r =>
    simp only [tokL] at h
    split at h
    · split at h
      · cases h; decide
      · cases h
    · split at h
      · split at h
        · cases h; decide
        · cases h
      · split at h
        · split at h
          · cases h
          · cases h; decide
          · cases h; decide
        · split at h
          · cases h
          · cases h; decide
theorem tok_place {l : List UInt8} {o e : Nat} (h : tokL l = .bad o e) (h0 : l ≠ []) : o < l.length := by
  cases l with
  | nil => exact absurd rfl h0
  | cons c r =>
    simp only [tokL] at h
    simp only [List.length_cons]
    split at h
    · split at h
      · cases h; omega
      · cases h
    · split at h
      · split at h
        · cases h; omega
        · cases h
      · split at h
        · split at h
          · cases h
          · rename_i o' ho
            have := (tx_esc_take r ho).1
            cases h
            omega
          · cases h; omega
        · split at h
          · cases h
          · cases h; omega

theorem lex_len (N : Nat) : ∀ (l : List UInt8) (off : Nat) {ts : List Tk}, l.length ≤ N → lexL l off = .ok ts → ts.length ≤ l.length + 1 := by
  induction N with
  | zero =>
    intro l off ts hN h
    have : l = [] := List.eq_nil_of_length_eq_zero (by omega)
    subst this
    cases h
    exact Nat.le_refl _
  | succ N ih =>
    intro l off ts hN h
    rcases lex_cases l off with ⟨h1, h2⟩ | ⟨s, o, e, h1, h2, h3, h4⟩ | ⟨s, k, t, n, len, h1, h2, h3, h4, h5⟩
    · rw [h2] at h
      cases h
      simp
    · rw [h4] at h
      cases h
    · rw [h5] at h
      obtain ⟨ts', g1, rfl⟩ := LR.push_ok h
      have := ih _ _ (by rw [List.length_drop]; omega) g1
      rw [List.length_drop] at this
      simp only [List.length_cons]
      omega
theorem lex_err (N : Nat) : ∀ (l : List UInt8) (off : Nat) {a e : Nat}, l.length ≤ N → lexL l off = .bad a e → e ≠ 0 ∧ off ≤ a ∧ a < off + l.length ∧ e ≠ 2 := by
  induction N with
  | zero =>
    intro l off a e hN h
    have : l = [] := List.eq_nil_of_length_eq_zero (by omega)
    subst this
    cases h
  | succ N ih =>
    intro l off a e hN h
    rcases lex_cases l off with ⟨h1, h2⟩ | ⟨s, o, e', h1, h2, h3, h4⟩ | ⟨s, k, t, n, len, h1, h2, h3, h4, h5⟩
    · rw [h2] at h
      cases h
    · rw [h4] at h
      cases h
      have ho := tok_place h3 (by rw [Ne, List.drop_eq_nil_iff]; omega)
      rw [List.length_drop] at ho
      exact ⟨tok_err h3, by omega, by omega, tok_err2 h3⟩
    · rw [h5] at h
      have := ih _ _ (by rw [List.length_drop]; omega) (LR.push_bad h)
      rw [List.length_drop] at this
      exact ⟨this.1, by omega, by omega, this.2.2.2⟩

theorem lex_last (N : Nat) : ∀ (l : List UInt8) (off : Nat) {ts : List Tk}, l.length ≤ N → lexL l off = .ok ts → ∃ ts', ts = ts' ++ [endTk (off + l.length)] := by
  induction N with
  | zero =>
    intro l off ts hN h
    have : l = [] := List.eq_nil_of_length_eq_zero (by omega)
    subst this
    cases h
    exact ⟨[], rfl⟩
  | succ N ih =>
    intro l off ts hN h
    rcases lex_cases l off with ⟨h1, h2⟩ | ⟨s, o, e, h1, h2, h3, h4⟩ | ⟨s, k, t, n, len, h1, h2, h3, h4, h5⟩
    · rw [h2] at h
      cases h
      exact ⟨[], rfl⟩
    · rw [h4] at h
      cases h
    · rw [h5] at h
      obtain ⟨ts', g1, rfl⟩ := LR.push_ok h
      obtain ⟨ts2, rfl⟩ := ih _ _ (by rw [List.length_drop]; omega) g1
      rw [List.length_drop, show off + s + len + (l.length - (s + len)) = off + l.length by omega]
      exact ⟨_ :: ts2, rfl⟩

theorem isD_skip {c : UInt8} (h : isD c = true) : isBl c = false ∧ c.toNat ≠ 35 := by
  unfold isD at h
  have h := of_decide_eq_true h
  exact ⟨by unfold isBl; rw [decide_eq_false]; omega, by omega⟩
theorem isM_skip {c : UInt8} (h : isM c = true) : isBl c = false ∧ c.toNat ≠ 35 := by
  unfold isM at h
  have h := of_decide_eq_true h
  exact ⟨by unfold isBl; rw [decide_eq_false]; omega, by omega⟩
theorem tok_skip {l t : List UInt8} {k n len : Nat} (h : tokL l = .tok k t n len) : skipS false l = 0 ∧ k ≠ 0 := by
  cases l with
  | nil => cases h
  | cons c r =>
    simp only [tokL] at h
    split at h
    · rename_i q
      have := letter_skip q
      split at h
      · cases h
      · cases h
        exact ⟨not_skip r this.1 this.2, by decide⟩
    · split at h
      · rename_i q
        have := isD_skip q
        split at h
        · cases h
        · cases h
          exact ⟨not_skip r this.1 this.2, by decide⟩
      · split at h
        · rename_i q
          have e : c = 34 := UInt8.toNat_inj.1 q
          subst e
          split at h
          · cases h
            exact ⟨not_skip r (by decide) (by decide), by decide⟩
          · cases h
          · cases h
        · split at h
          · rename_i q
            have := isM_skip q
            cases h
            exact ⟨not_skip r this.1 this.2, by decide⟩
          · cases h

/-- a token's own bytes are that token -/
theorem lex_alone {l t : List UInt8} {k n len : Nat} (h : tokL l = .tok k t n len) : lexL (l.take len) 0 = .ok [⟨k, t, n, 0, len⟩, endTk len] := by
  have hl := tokL_len h
  have hj := tok_join h (y := []) (fun _ => Bd.nil _) (fun _ => Bd.nil _)
  rw [List.append_nil] at hj
  have hs := (tok_skip hj).1
  have hlen : (l.take len).length = len := by rw [List.length_take]; omega
  rw [lexL_tok (k := k) (t := t) (n := n) (len := len) (by rw [hs, hlen]; omega) (by rw [hs]; exact hj), hs, Nat.zero_add, Nat.zero_add]
  rw [List.drop_eq_nil_of_le (by omega), lexL_done rfl]
  rfl

theorem drop_cons {α : Type} {l : List α} {i : Nat} {x : α} {r : List α} (h : l.drop i = x :: r) : l[i]? = some x ∧ l.drop (i + 1) = r ∧ i < l.length := by
  have h0 : (l.drop i)[0]? = some x := by rw [h]; rfl
  rw [List.getElem?_drop, Nat.add_zero] at h0
  refine ⟨h0, ?_, ?_⟩
  · rw [← List.drop_drop, h]; rfl
  · rcases Nat.lt_or_ge i l.length with g | g
    · exact g
    · rw [List.getElem?_eq_none g] at h0; cases h0

theorem lex_order (N : Nat) : ∀ (l : List UInt8) (off : Nat) {ts : List Tk}, l.length ≤ N → lexL l off = .ok ts → ∀ x ∈ ts, x.a ≤ x.e ∧ x.e ≤ off + l.length := by
  induction N with
  | zero =>
    intro l off ts hN h
    have : l = [] := List.eq_nil_of_length_eq_zero (by omega)
    subst this
    cases h
    intro x hx
    rw [List.mem_singleton] at hx
    subst hx
    exact ⟨Nat.le_refl _, Nat.le_refl _⟩
  | succ N ih =>
    intro l off ts hN h
    rcases lex_cases l off with ⟨h1, h2⟩ | ⟨s, o, e, h1, h2, h3, h4⟩ | ⟨s, k, t, n, len, h1, h2, h3, h4, h5⟩
    · rw [h2] at h
      cases h
      intro x hx
      rw [List.mem_singleton] at hx
      subst hx
      exact ⟨Nat.le_refl _, Nat.le_refl _⟩
    · rw [h4] at h
      cases h
    · rw [h5] at h
      obtain ⟨ts', g1, rfl⟩ := LR.push_ok h
      intro x hx
      rcases List.mem_cons.1 hx with rfl | hx
      · show off + s ≤ off + s + len ∧ off + s + len ≤ off + l.length
        omega
      · have := ih _ _ (by rw [List.length_drop]; omega) g1 x hx
        rw [List.length_drop] at this
        omega

/-- what is read of a text ends in the end, and it stands nowhere else -/
def TkEnds (T : List Tk) : Prop := ∀ i x, T[i]? = some x → (x.k = 0 ↔ i + 1 = T.length)
theorem lex_ends (N : Nat) : ∀ (l : List UInt8) (off : Nat) {ts : List Tk}, l.length ≤ N → lexL l off = .ok ts → TkEnds ts := by
  induction N with
  | zero =>
    intro l off ts hN h
    have : l = [] := List.eq_nil_of_length_eq_zero (by omega)
    subst this
    cases h
    intro i x hx
    rcases i with _ | i
    · cases hx
      exact ⟨fun _ => rfl, fun _ => rfl⟩
    · simp at hx
  | succ N ih =>
    intro l off ts hN h
    rcases lex_cases l off with ⟨h1, h2⟩ | ⟨s, o, e, h1, h2, h3, h4⟩ | ⟨s, k, t, n, len, h1, h2, h3, h4, h5⟩
    · rw [h2] at h
      cases h
      intro i x hx
      rcases i with _ | i
      · cases hx
        exact ⟨fun _ => rfl, fun _ => rfl⟩
      · simp at hx
    · rw [h4] at h
      cases h
    · rw [h5] at h
      obtain ⟨ts', g1, rfl⟩ := LR.push_ok h
      have hd := ih _ _ (by rw [List.length_drop]; omega) g1
      obtain ⟨ts2, e2⟩ := lex_last _ _ _ (Nat.le_refl _) g1
      have hlen : 1 ≤ ts'.length := by rw [e2, List.length_append]; show 1 ≤ _ + 1; omega
      intro i x hx
      rcases i with _ | i
      · cases hx
        refine ⟨fun e => absurd e (tok_skip h4).2, fun e => ?_⟩
        rw [List.length_cons] at e
        omega
      · rw [List.getElem?_cons_succ] at hx
        rw [hd i x hx, List.length_cons]
        omega
end Go.Proofs.YtggonhciakfabaaDoor
