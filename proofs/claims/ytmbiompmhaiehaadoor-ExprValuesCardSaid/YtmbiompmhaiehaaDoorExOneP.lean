/- ExprOne, plain: what an expression stands for fits kinds of one sort alone. No walk here. -/
import Derived.Test.YtmbiompmhaiehaaDoorExPure
namespace Go.Proofs.YtmbiompmhaiehaaDoor

theorem own_err {x : Rn} {ts : List Th} {e : Nat} (h : ownV x ts = .error e) : e = 110 ∨ e = 111 ∨ e = 2 := by
  unfold ownV at h
  repeat' split at h
  all_goals first
    | (cases h; done)
    | (cases h; simp; done)
    | (unfold textE at h; split at h <;> cases h <;> simp; done)
    | (unfold numE at h; split at h <;> cases h <;> simp; done)
    | (unfold hexE' at h; split at h <;> cases h <;> simp; done)
    | (unfold repE' at h; repeat' split at h
       all_goals (cases h; try simp))
theorem collect_err {l : List Res} {p : Nat × Nat} (h : collect l = .error p) : .error p ∈ l := by
  induction l with
  | nil => cases h
  | cons a r ih =>
    cases a with
    | error e => cases h; exact .head _
    | ok t =>
      simp only [collect] at h
      split at h
      · next he => cases h; exact .tail _ (ih he)
      · cases h
/-- a fault is one of three -/
theorem vals_err {N : List Rn} : ∀ (i : Nat) (a e : Nat), (.error (a, e) : Res) ∈ valsP N i → e = 110 ∨ e = 111 ∨ e = 2
  | 0, a, e, h => by cases h
  | i + 1, a, e, h => by
    unfold valsP at h
    split at h
    · cases h
    · split at h
      · cases h
      · rename_i k _
        rcases List.mem_cons.1 h with h | h
        · unfold combR at h
          split at h
          · next he =>
            cases h
            have := collect_err he
            exact vals_err i a e (List.mem_of_mem_take (List.mem_reverse.1 this))
          · split at h
            · next he => cases h; exact own_err he
            · cases h
        · exact vals_err i a e (List.mem_of_mem_drop h)
theorem res_err {N : List Rn} {j a e : Nat} (hne : valsP N (j + 1) ≠ []) (h : resAt N j = .error (a, e)) : e = 110 ∨ e = 111 ∨ e = 2 := by
  unfold resAt at h
  cases hv : valsP N (j + 1) with
  | nil => exact absurd hv hne
  | cons r l =>
    rw [hv] at h
    refine vals_err (N := N) (j + 1) a e ?_
    rw [hv]
    have h : r = .error (a, e) := h
    rw [h]
    exact .head _
/-- an expression has a node, and something at its end -/
theorem good_vals {N : List Rn} (h : (chkP N).2 = 0) : 0 < N.length ∧ valsP N (N.length - 1 + 1) ≠ [] := by
  unfold chkP at h
  split at h
  · next b hb =>
    exact absurd h (by
      have : ∀ i b, badP N i = some b → b.2 ≠ 0 := by
        intro i
        induction i with
        | zero => intro b hb; cases hb
        | succ i ih =>
          intro b hb
          unfold badP at hb
          split at hb
          · next hq => cases hb; exact ih _ hq
          · split at hb
            · cases hb; exact Nat.one_ne_zero
            · cases hb
            · split at hb
              · cases hb; simp
              · cases hb
      exact this _ _ hb)
  · split at h
    · next e he =>
      have hp := (expr_at he).1
      refine ⟨hp, ?_⟩
      rw [Nat.sub_add_cancel hp]
      intro hv
      unfold exprP at he
      split at he
      · next q hq =>
        have := vals_len _ _ hq
        rw [hv] at this
        simp at this
      · cases he
    · simp at h
/-- how many of the first kinds it fits, and of how many the root is refused -/
def okC (N : List Rn) : Nat → Nat
  | 0 => 0
  | k + 1 => okC N k + if (valV N ((k : Int) + 1)).e = 0 then 1 else 0
def kdC (N : List Rn) : Nat → Nat
  | 0 => 0
  | k + 1 => kdC N k + if (valV N ((k : Int) + 1)).e = 110 ∧ (valV N ((k : Int) + 1)).at_ + 1 = N.length then 1 else 0
theorem okC_le (N : List Rn) : ∀ k, okC N k ≤ k
  | 0 => Nat.le_refl _
  | k + 1 => by
    have := okC_le N k
    unfold okC
    split <;> omega
theorem kdC_le (N : List Rn) : ∀ k, kdC N k ≤ k
  | 0 => Nat.le_refl _
  | k + 1 => by
    have := kdC_le N k
    unfold kdC
    split <;> omega
/-- alike at fault as each kind, or a value -/
theorem val_cases (N : List Rn) : (∃ a e, e ≠ 0 ∧ ∀ k : Int, 1 ≤ k → k ≤ 5 → valV N k = noneV a e) ∨ (0 < N.length ∧ ∃ t, ∀ k : Int, 1 ≤ k → k ≤ 5 → valV N k = match lastV t k with
      | .error e => noneV (N.length - 1) e
      | .ok (n, s) => ⟨k, n, s, 0, 0⟩) := by
  by_cases hc : (chkP N).2 = 0
  · obtain ⟨hpos, hne⟩ := good_vals hc
    cases hr : resAt N (N.length - 1) with
    | error p =>
      obtain ⟨a, e⟩ := p
      have := res_err hne hr
      refine .inl ⟨a, e, by omega, fun k h1 h2 => ?_⟩
      unfold valV
      rw [if_neg (by omega), if_neg (by omega), hr]
    | ok t =>
      refine .inr ⟨hpos, t, fun k h1 h2 => ?_⟩
      unfold valV
      rw [if_neg (by omega), if_neg (by omega), hr]
      rfl
  · refine .inl ⟨(chkP N).1, (chkP N).2, hc, fun k h1 h2 => ?_⟩
    unfold valV
    rw [if_pos hc]
theorem last_err {t : Th} {k : Int} {e : Nat} (h : lastV t k = .error e) : e = 110 ∨ e = 111 := by
  unfold lastV at h
  repeat' split at h
  all_goals first
    | (cases h; done)
    | (cases h; simp; done)
theorem one_pass (N : List Rn) {k : Int} (h1 : 1 ≤ k) (h2 : k ≤ 5) : (valV N k).e = 0 ∨ (valV N k).e = 110 ∨ (valV N k).e = 111 ∨ (valV N k).e = (valV N 1).e := by
  rcases val_cases N with ⟨a, e, he, h⟩ | ⟨hp, t, h⟩
  · rw [h k h1 h2, h 1 (by decide) (by decide)]
    exact .inr (.inr (.inr rfl))
  · rw [h k h1 h2]
    cases hl : lastV t k with
    | error e =>
      rcases last_err hl with rfl | rfl
      · exact .inr (.inl rfl)
      · exact .inr (.inr (.inl rfl))
    | ok p => exact .inl rfl
theorem one_last (N : List Rn) : okC N 5 ≤ 2 ∧ (okC N 5 = 0 ∨ 4 ≤ okC N 5 + kdC N 5) := by
  rcases val_cases N with ⟨a, e, he, h⟩ | ⟨hp, t, h⟩
  · have g1 := h 1 (by decide) (by decide)
    have g2 := h 2 (by decide) (by decide)
    have g3 := h 3 (by decide) (by decide)
    have g4 := h 4 (by decide) (by decide)
    have g5 := h 5 (by decide) (by decide)
    have e0 : ((0 : Nat) : Int) + 1 = 1 := rfl
    have e1 : ((1 : Nat) : Int) + 1 = 2 := rfl
    have e2 : ((2 : Nat) : Int) + 1 = 3 := rfl
    have e3 : ((3 : Nat) : Int) + 1 = 4 := rfl
    have e4 : ((4 : Nat) : Int) + 1 = 5 := rfl
    have : okC N 5 = 0 := by
      simp only [okC, e0, e1, e2, e3, e4, g1, g2, g3, g4, g5]
      simp [noneV, he]
    omega
  · have g1 := h 1 (by decide) (by decide)
    have g2 := h 2 (by decide) (by decide)
    have g3 := h 3 (by decide) (by decide)
    have g4 := h 4 (by decide) (by decide)
    have g5 := h 5 (by decide) (by decide)
    have hl : N.length - 1 + 1 = N.length := by omega
    have e0 : ((0 : Nat) : Int) + 1 = 1 := rfl
    have e1 : ((1 : Nat) : Int) + 1 = 2 := rfl
    have e2 : ((2 : Nat) : Int) + 1 = 3 := rfl
    have e3 : ((3 : Nat) : Int) + 1 = 4 := rfl
    have e4 : ((4 : Nat) : Int) + 1 = 5 := rfl
    cases t with
    | num v =>
      simp only [lastV] at g1 g2 g3 g4 g5
      simp only [okC, kdC, e0, e1, e2, e3, e4, g1, g2, g3, g4, g5]
      by_cases v1 : v < 0 <;> by_cases v2 : (9223372036854775808 : Int) ≤ v <;> simp [v1, v2, noneV, hl]
    | truth b =>
      simp only [lastV] at g1 g2 g3 g4 g5
      simp only [okC, kdC, e0, e1, e2, e3, e4, g1, g2, g3, g4, g5]
      simp [noneV, hl]
    | text s =>
      simp only [lastV] at g1 g2 g3 g4 g5
      simp only [okC, kdC, e0, e1, e2, e3, e4, g1, g2, g3, g4, g5]
      by_cases v1 : okL s = true <;> simp [v1, noneV, hl]
    | bytes s =>
      simp only [lastV] at g1 g2 g3 g4 g5
      simp only [okC, kdC, e0, e1, e2, e3, e4, g1, g2, g3, g4, g5]
      simp [noneV, hl]
end Go.Proofs.YtmbiompmhaiehaaDoor
