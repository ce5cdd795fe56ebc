/- Plain: what is printed doesn't ask for places. No walk here. -/
import Derived.Test.YtdkcnepjjinpdaaDoorPrSame
namespace Go.Proofs.YtdkcnepjjinpdaaDoor
open Go.RowKit

section
variable {α β : Type} {r : α → β → Prop}
theorem Rel2.get {l : List α} {m : List β} (h : Rel2 r l m) : ∀ i : Nat, (l[i]? = none ∧ m[i]? = none) ∨ ∃ x y, l[i]? = some x ∧ m[i]? = some y ∧ r x y := by
  induction h with
  | nil => exact fun i => .inl ⟨by simp, by simp⟩
  | cons h _ ih =>
    intro i
    cases i with
    | zero => exact .inr ⟨_, _, rfl, rfl, h⟩
    | succ i => simpa using ih i
theorem Rel2.nils {l : List α} {m : List β} (h : Rel2 r l m) : l = [] ↔ m = [] := by
  cases h with
  | nil => exact ⟨fun _ => rfl, fun _ => rfl⟩
  | cons => exact ⟨nofun, nofun⟩
theorem Rel2.flat {γ : Type} {f : α → List γ} {g : β → List γ} {l : List α} {m : List β} (h : Rel2 r l m) (k : ∀ x y, r x y → g y = f x) : m.flatMap g = l.flatMap f := by
  induction h with
  | nil => rfl
  | cons h _ ih => rw [List.flatMap_cons, List.flatMap_cons, ih, k _ _ h]
theorem Rel2.alls {f : α → Bool} {g : β → Bool} {l : List α} {m : List β} (h : Rel2 r l m) (k : ∀ x y, r x y → g y = f x) : m.all g = l.all f := by
  induction h with
  | nil => rfl
  | cons h _ ih => rw [List.all_cons, List.all_cons, ih, k _ _ h]
theorem Rel2.anys {f : α → Bool} {g : β → Bool} {l : List α} {m : List β} (h : Rel2 r l m) (k : ∀ x y, r x y → g y = f x) : m.any g = l.any f := by
  induction h with
  | nil => rfl
  | cons h _ ih => rw [List.any_cons, List.any_cons, ih, k _ _ h]
end
theorem over_eq {x y : Rn} (h : EqN x y) (i : Nat) (ks : List Pe) : arity y = arity x ∧ overP i y ks = overP i x ks := by
  obtain ⟨op, n, num, t, a⟩ := x
  obtain ⟨op', n', num', t', a'⟩ := y
  obtain ⟨h1, h2, h3, h4⟩ := h
  dsimp only at h1 h2 h3 h4
  subst h1 h2 h3 h4
  exact ⟨rfl, rfl⟩
theorem pile_eq {N M : List Rn} (h : Rel2 EqN N M) : ∀ i, pileP M i = pileP N i
  | 0 => rfl
  | i + 1 => by
    unfold pileP
    rw [pile_eq h i]
    rcases h.get i with ⟨h1, h2⟩ | ⟨x, y, h1, h2, h3⟩
    · rw [h1, h2]
    · rw [h1, h2]
      cases pileP N i with
      | none => rfl
      | some P =>
        dsimp only
        unfold pushP
        rw [(over_eq h3 i []).1]
        cases arity x with
        | none => rfl
        | some k =>
          dsimp only
          rw [(over_eq h3 i (P.take k)).2]
theorem expr_eq {N M : List Rn} (h : Rel2 EqN N M) : exprP M = exprP N := by
  unfold exprP
  rw [h.len, pile_eq h]
theorem val_eq {N M : List Rn} (h : Rel2 EqN N M) : valP M = valP N := by
  unfold valP
  rw [expr_eq h]
theorem step_eq3 {s s' : Rs} (h : EqS s s') : okS s' = okS s ∧ deepS s' = deepS s ∧ ptS s' = ptS s := by
  obtain ⟨k, a, b, c, sep, ty, v, p⟩ := s
  obtain ⟨k', a', b', c', sep', ty', v', p'⟩ := s'
  obtain ⟨h1, h2, h3, h4, h5, h6, h7⟩ := h
  dsimp only at h1 h2 h3 h4 h5 h6 h7
  subst h1 h2 h3 h4 h5 h6
  have e1 := expr_eq h7
  have e2 : decide (v' = []) = decide (v = []) := by
    by_cases hv : v = []
    · rw [decide_eq_true hv, decide_eq_true (h7.nils.1 hv)]
    · rw [decide_eq_false hv, decide_eq_false fun q => hv (h7.nils.2 q)]
  refine ⟨?_, ?_, ?_⟩
  · unfold okS
    dsimp only
    rw [e1, e2]
  · unfold deepS
    dsimp only
    rw [e1]
  · unfold ptS exT
    dsimp only
    rw [e1]
theorem ver_eq2 {v v' : Rv} (h : EqV v v') : v'.st.all okS = v.st.all okS ∧ deepV v' = deepV v ∧ ptV v' = ptV v := by
  refine ⟨h.st.alls fun _ _ q => (step_eq3 q).1, h.st.anys fun _ _ q => (step_eq3 q).2.1, ?_⟩
  unfold ptV
  rw [h.num, h.st.flat (f := plS) (g := plS) fun _ _ q => by unfold plS; rw [(step_eq3 q).2.2]]
theorem ev_eq3 {e e' : Re} (h : EqE e e') : okE e' = okE e ∧ deepE e' = deepE e ∧ ptE e' = ptE e := by
  refine ⟨?_, h.vs.anys fun _ _ q => (ver_eq2 q).2.1, ?_⟩
  · unfold okE
    have e2 : decide (e'.vs = []) = decide (e.vs = []) := by
      by_cases hv : e.vs = []
      · rw [decide_eq_true hv, decide_eq_true (h.vs.nils.1 hv)]
      · rw [decide_eq_false hv, decide_eq_false fun q => hv (h.vs.nils.2 q)]
    rw [h.name, e2, h.vs.alls (f := fun v => v.st.all okS) (g := fun v => v.st.all okS) fun _ _ q => (ver_eq2 q).1]
  · unfold ptE
    rw [h.name, h.vs.flat (f := ptV) (g := ptV) fun _ _ q => (ver_eq2 q).2.2]
theorem sch_eq {l m : List Re} (h : Rel2 EqE l m) : schP m = schP l := by
  unfold schP okT ptT
  rw [h.alls (f := okE) (g := okE) fun _ _ q => (ev_eq3 q).1, h.anys (f := deepE) (g := deepE) fun _ _ q => (ev_eq3 q).2.1, h.flat (f := ptE) (g := ptE) fun _ _ q => (ev_eq3 q).2.2]
theorem sch_err (l : List Re) : (schP l = (ptT l, 0) ∧ okT l = true ∧ l.any deepE = false ∧ (ptT l).length ≤ 1048576) ∨ schP l = ([], 1) ∨ schP l = ([], 91) ∨ schP l = ([], 2) := by
  unfold schP
  by_cases h1 : okT l = false
  · rw [if_pos h1]; exact .inr (.inl rfl)
  · rw [if_neg h1]
    by_cases h2 : l.any deepE = true
    · rw [if_pos h2]; exact .inr (.inr (.inl rfl))
    · rw [if_neg h2]
      by_cases h3 : 1048576 < (ptT l).length
      · rw [if_pos h3]; exact .inr (.inr (.inr rfl))
      · rw [if_neg h3]; exact .inl ⟨rfl, by simpa using h1, by simpa using h2, by omega⟩
end Go.Proofs.YtdkcnepjjinpdaaDoor
