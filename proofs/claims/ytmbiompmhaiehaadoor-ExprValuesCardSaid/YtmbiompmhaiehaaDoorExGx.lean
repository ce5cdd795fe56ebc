/- Plain: the piles of expressions out of expressions. No walk here. -/
import Derived.Test.YtmbiompmhaiehaaDoorExGa
import Derived.Test.YtmbiompmhaiehaaDoorExOneP
namespace Go.Proofs.YtmbiompmhaiehaaDoor
open Go.RowKit

theorem pile_pre (N M : List Rn) : ∀ i, i ≤ N.length → pileP (N ++ M) i = pileP N i
  | 0, _ => rfl
  | i + 1, h => by
    unfold pileP
    rw [pile_pre N M i (by omega), List.getElem?_append_left (by omega)]
def shiftP (n : Nat) (e : Pe) : Pe := ⟨e.r + n, e.fi + n, e.dp, e.tx⟩
theorem bottom_shift (n : Nat) : ∀ (l : List Pe) (i : Nat), bottom (i + n) (l.map (shiftP n)) = bottom i l + n
  | [], _ => rfl
  | e :: l, _ => bottom_shift n l e.fi
theorem over_shift (n i : Nat) (x : Rn) (l : List Pe) : overP (i + n) x (l.map (shiftP n)) = shiftP n (overP i x l) := by
  unfold overP shiftP
  simp only [Pe.mk.injEq, true_and]
  refine ⟨bottom_shift n l i, ?_, ?_⟩
  · unfold deepest
    rw [List.foldl_map]
  · rw [← List.map_reverse, List.map_map]
    rfl
theorem pile_shift {N M : List Rn} {P : List Pe} (hN : pileP N N.length = some P) : ∀ (j : Nat) (Q : List Pe), pileP M j = some Q → pileP (N ++ M) (j + N.length) = some (Q.map (shiftP N.length) ++ P)
  | 0, Q, h => by
    cases h
    rw [Nat.zero_add, pile_pre N M _ (Nat.le_refl _), hN]
    rfl
  | j + 1, Q, h => by
    obtain ⟨Q', x, k, hQ, hx, ha, hk, rfl⟩ := pile_succ h
    have ih := pile_shift hN j Q' hQ
    rw [show j + 1 + N.length = (j + N.length) + 1 by omega]
    unfold pileP
    rw [ih, List.getElem?_append_right (by omega), show j + N.length - N.length = j by omega, hx]
    dsimp only
    unfold pushP
    rw [ha]
    dsimp only
    have hl : (Q'.map (shiftP N.length)).length = Q'.length := List.length_map _
    rw [if_pos (by rw [List.length_append, hl]; omega), List.take_append_of_le_length (by omega), List.drop_append_of_le_length (by omega), ← List.map_take, ← List.map_drop, over_shift]
    rfl
theorem expr_two_of {N M : List Rn} {x : Rn} {e f : Pe} (hN : exprP N = some e) (hM : exprP M = some f) (ha : arity x = some 2) :
    ∃ r, exprP (N ++ M ++ [x]) = some ⟨r, 0, max (max 0 f.dp) e.dp + 1, aheadL x ++ (e.tx ++ (betwL x ++ f.tx)) ++ behL x⟩ := by
  have h1 := expr_some hN
  have h2 := pile_shift h1 _ _ (expr_some hM)
  have hfi := (expr_at hN).2.2
  have hl : (N ++ M).length = M.length + N.length := by rw [List.length_append, Nat.add_comm]
  have h3 : pileP (N ++ M ++ [x]) (M.length + N.length) = some [shiftP N.length f, e] := by
    rw [pile_pre _ _ _ (by omega), h2]
    rfl
  refine ⟨M.length + N.length, ?_⟩
  have h4 : pileP (N ++ M ++ [x]) (N ++ M ++ [x]).length = some [overP (M.length + N.length) x [shiftP N.length f, e]] := by
    rw [show (N ++ M ++ [x]).length = (M.length + N.length) + 1 by simp; omega]
    unfold pileP
    rw [h3, List.getElem?_append_right (by omega), hl, Nat.sub_self]
    dsimp only [List.getElem?_cons_zero]
    unfold pushP
    rw [ha]
    rfl
  unfold exprP
  rw [h4]
  show some (overP _ x [shiftP N.length f, e]) = _
  unfold overP
  simp only [Option.some.injEq, Pe.mk.injEq, true_and]
  refine ⟨hfi, rfl, ?_⟩
  simp [inter, shiftP]
theorem expr_one_of {N : List Rn} {x : Rn} {e : Pe} (hN : exprP N = some e) (ha : arity x = some 1) :
    ∃ r, exprP (N ++ [x]) = some ⟨r, 0, max 0 e.dp + 1, aheadL x ++ e.tx ++ behL x⟩ := by
  have h1 := expr_some hN
  have hfi := (expr_at hN).2.2
  refine ⟨N.length, ?_⟩
  have h4 : pileP (N ++ [x]) (N ++ [x]).length = some [overP N.length x [e]] := by
    rw [show (N ++ [x]).length = N.length + 1 by simp]
    unfold pileP
    rw [pile_pre _ _ _ (Nat.le_refl _), h1, List.getElem?_append_right (Nat.le_refl _), Nat.sub_self]
    dsimp only [List.getElem?_cons_zero]
    unfold pushP
    rw [ha]
    rfl
  unfold exprP
  rw [h4]
  show some (overP _ x [e]) = _
  unfold overP
  simp only [Option.some.injEq, Pe.mk.injEq, true_and]
  refine ⟨hfi, rfl, ?_⟩
  simp [inter]
end Go.Proofs.YtmbiompmhaiehaaDoor
/- Plain: what stands for expressions out of expressions. No walk here. -/
namespace Go.Proofs.YtmbiompmhaiehaaDoor

/-- a fault so much further on -/
def shiftR (n : Nat) : Res → Res
  | .error (a, e) => .error (a + n, e)
  | .ok t => .ok t
theorem collect_shift (n : Nat) : ∀ l : List Res, collect (l.map (shiftR n)) = match collect l with
    | .error (a, e) => .error (a + n, e)
    | .ok ts => .ok ts
  | [] => rfl
  | .error (a, e) :: l => rfl
  | .ok t :: l => by
    have ih := collect_shift n l
    simp only [List.map_cons, shiftR, collect]
    rw [ih]
    cases collect l <;> rfl
theorem comb_shift (n i : Nat) (x : Rn) (l : List Res) : combR (i + n) x (l.map (shiftR n)) = shiftR n (combR i x l) := by
  unfold combR
  rw [collect_shift]
  cases collect l with
  | error p => rfl
  | ok ts =>
    dsimp only
    cases ownV x ts <;> rfl
theorem vals_pre (N M : List Rn) : ∀ i, i ≤ N.length → valsP (N ++ M) i = valsP N i
  | 0, _ => rfl
  | i + 1, h => by
    unfold valsP
    rw [vals_pre N M i (by omega), List.getElem?_append_left (by omega)]
theorem vals_shift {N M : List Rn} : ∀ (j : Nat) (Q : List Pe), pileP M j = some Q → valsP (N ++ M) (j + N.length) = (valsP M j).map (shiftR N.length) ++ valsP N N.length
  | 0, Q, h => by
    rw [Nat.zero_add, vals_pre N M _ (Nat.le_refl _)]
    rfl
  | j + 1, Q, h => by
    obtain ⟨Q', x, k, hQ, hx, ha, hk, rfl⟩ := pile_succ h
    have ih := vals_shift (N := N) j Q' hQ
    have hl := vals_len j Q' hQ
    have hm : ((valsP M j).map (shiftR N.length)).length = (valsP M j).length := List.length_map _
    rw [show j + 1 + N.length = (j + N.length) + 1 by omega, vals_succ (x := x) (by rw [List.getElem?_append_right (by omega), show j + N.length - N.length = j by omega, hx]) ha, vals_succ hx ha, ih,
      List.take_append_of_le_length (by omega), List.drop_append_of_le_length (by omega), ← List.map_take, ← List.map_drop, ← List.map_reverse, comb_shift]
    rfl
/-- what an expression stands for -/
def semR (N : List Rn) : Res := resAt N (N.length - 1)
theorem sem_vals {N : List Rn} {e : Pe} (h : exprP N = some e) : valsP N N.length = [semR N] := by
  have hp := expr_some h
  have h0 := (expr_at h).1
  have hl := vals_len _ _ hp
  match hv : valsP N N.length with
  | [] => rw [hv] at hl; simp at hl
  | [r] =>
    unfold semR resAt
    rw [Nat.sub_add_cancel h0, hv]
    rfl
  | _ :: _ :: _ => rw [hv] at hl; simp at hl
theorem sem_two {N M : List Rn} {x : Rn} {e f : Pe} (hN : exprP N = some e) (hM : exprP M = some f) (ha : arity x = some 2) : semR (N ++ M ++ [x]) = combR (N ++ M).length x [semR N, shiftR N.length (semR M)] := by
  have hl : (N ++ M).length = M.length + N.length := by rw [List.length_append, Nat.add_comm]
  have h3 : valsP (N ++ M ++ [x]) (N ++ M).length = [shiftR N.length (semR M), semR N] := by
    rw [vals_pre _ _ _ (Nat.le_refl _), hl, vals_shift _ _ (expr_some hM), sem_vals hM, sem_vals hN]
    rfl
  have hx : (N ++ M ++ [x])[(N ++ M).length]? = some x := by
    rw [List.getElem?_append_right (Nat.le_refl _), Nat.sub_self]
    rfl
  conv => lhs; unfold semR
  rw [show (N ++ M ++ [x]).length - 1 = (N ++ M).length by rw [List.length_append (bs := [x])]; rfl, res_at hx ha, h3]
  rfl
theorem sem_one {N : List Rn} {x : Rn} {e : Pe} (hN : exprP N = some e) (ha : arity x = some 1) : semR (N ++ [x]) = combR N.length x [semR N] := by
  have h3 : valsP (N ++ [x]) N.length = [semR N] := by rw [vals_pre _ _ _ (Nat.le_refl _), sem_vals hN]
  have hx : (N ++ [x])[N.length]? = some x := by
    rw [List.getElem?_append_right (Nat.le_refl _), Nat.sub_self]
    rfl
  conv => lhs; unfold semR
  rw [show (N ++ [x]).length - 1 = N.length by rw [List.length_append]; rfl, res_at hx ha, h3]
  rfl
/-- where two stand for things -/
theorem sem_two_ok {N M : List Rn} {x : Rn} {e f : Pe} {t : Th} (hN : exprP N = some e) (hM : exprP M = some f) (ha : arity x = some 2) : semR (N ++ M ++ [x]) = .ok t ↔ ∃ a b, semR N = .ok a ∧ semR M = .ok b ∧ ownV x [a, b] = .ok t := by
  rw [sem_two hN hM ha]
  cases h1 : semR N with
  | error p => simp [combR, collect]
  | ok a =>
    cases h2 : semR M with
    | error p => obtain ⟨p, q⟩ := p; simp [combR, collect, shiftR]
    | ok b =>
      simp only [combR, collect, shiftR]
      cases h3 : ownV x [a, b] with
      | error e => simp [h3]
      | ok u => simp [h3]
theorem sem_one_ok {N : List Rn} {x : Rn} {e : Pe} {t : Th} (hN : exprP N = some e) (ha : arity x = some 1) : semR (N ++ [x]) = .ok t ↔ ∃ a, semR N = .ok a ∧ ownV x [a] = .ok t := by
  rw [sem_one hN ha]
  cases h1 : semR N with
  | error p => simp [combR, collect]
  | ok a =>
    simp only [combR, collect]
    cases h3 : ownV x [a] with
    | error e => simp [h3]
    | ok u => simp [h3]
end Go.Proofs.YtmbiompmhaiehaaDoor
/- ExprLaws, plain: what sums, products and opposites stand for. No walk here. -/
namespace Go.Proofs.YtmbiompmhaiehaaDoor

/-- a thing as a value of a kind -/
def vT (t : Th) (k : Int) : Va := match lastV t k with
  | .error e => noneV 0 e
  | .ok (n, s) => ⟨k, n, s, 0, 0⟩
theorem val_sem {N : List Rn} {k : Int} (h1 : 1 ≤ k) (h2 : k ≤ 5) (h : (valV N k).e = 0) : (chkP N).2 = 0 ∧ ∃ t, semR N = .ok t ∧ valV N k = vT t k := by
  by_cases hc : (chkP N).2 = 0
  · refine ⟨hc, ?_⟩
    have hv : valV N k = match resAt N (N.length - 1) with
        | .error (a, e) => noneV a e
        | .ok t => match lastV t k with
          | .error e => noneV (N.length - 1) e
          | .ok (n, s) => ⟨k, n, s, 0, 0⟩ := by
      unfold valV
      rw [if_neg (by omega), if_neg (by omega)]
      rfl
    unfold semR
    cases hr : resAt N (N.length - 1) with
    | error p =>
      obtain ⟨a, e⟩ := p
      rw [hr] at hv
      rw [hv] at h
      have := res_err (good_vals hc).2 hr
      have h : e = 0 := h
      omega
    | ok t =>
      rw [hr] at hv
      refine ⟨t, rfl, ?_⟩
      unfold vT
      cases hl : lastV t k with
      | error e =>
        dsimp only at hv
        rw [hl] at hv
        rw [hv] at h
        have := last_err hl
        have h : e = 0 := h
        omega
      | ok p =>
        dsimp only at hv
        rw [hl] at hv
        exact hv
  · have : valV N k = noneV (chkP N).1 (chkP N).2 := by
      unfold valV
      rw [if_pos hc]
    rw [this] at h
    exact absurd h hc
theorem of_ite {p : Prop} [Decidable p] {x t : Th} {e : Nat} (h : (if p then (.ok x : Except Nat Th) else .error e) = .ok t) : t = x := by
  split at h
  · cases h; rfl
  · cases h
theorem own_add {a b t : Th} (h : ownV ⟨6, 0, 0, [], 0⟩ [a, b] = .ok t) : (∃ v u, a = .num v ∧ b = .num u ∧ t = .num (v + u)) ∨ ∃ s r, a = .text s ∧ b = .text r ∧ t = .text (s ++ r) := by
  cases a <;> cases b <;> simp [ownV, arithV, numE, textE] at h
  · exact .inl ⟨_, _, rfl, rfl, of_ite h⟩
  · exact .inr ⟨_, _, rfl, rfl, of_ite h⟩
theorem own_sub {a b t : Th} (h : ownV ⟨7, 0, 0, [], 0⟩ [a, b] = .ok t) : ∃ v u, a = .num v ∧ b = .num u ∧ t = .num (v - u) := by
  cases a <;> cases b <;> simp [ownV, arithV, numE] at h
  exact ⟨_, _, rfl, rfl, of_ite h⟩
theorem own_mul {a b t : Th} (h : ownV ⟨8, 0, 0, [], 0⟩ [a, b] = .ok t) : ∃ v u, a = .num v ∧ b = .num u ∧ t = .num (v * u) := by
  cases a <;> cases b <;> simp [ownV, arithV, numE] at h
  exact ⟨_, _, rfl, rfl, of_ite h⟩
theorem own_neg {a t : Th} (h : ownV ⟨5, 0, 0, [], 0⟩ [a] = .ok t) : ∃ v, a = .num v ∧ t = .num (-v) := by
  cases a <;> simp [ownV, numE] at h
  exact ⟨_, rfl, of_ite h⟩
/-- two that stand for the same where both stand for something -/
def Like (N M : List Rn) : Prop := ∀ t u, semR N = .ok t → semR M = .ok u → t = u
theorem Like.vals {N M : List Rn} (h : Like N M) : ∀ k : Int, 1 ≤ k → k ≤ 5 → (valV N k).e = 0 → (valV M k).e = 0 → valV N k = valV M k := by
  intro k h1 h2 e1 e2
  obtain ⟨_, t, hs, hv⟩ := val_sem h1 h2 e1
  obtain ⟨_, u, hs', hv'⟩ := val_sem h1 h2 e2
  rw [hv, hv', h t u hs hs']
section
variable {a b c : List Rn} {ea eb ec : Pe} (ha : exprP a = some ea) (hb : exprP b = some eb) (hc : exprP c = some ec)
include ha hb
theorem ex_add : ∃ e, exprP (a ++ b ++ [⟨6, 0, 0, [], 0⟩]) = some e := ⟨_, (expr_two_of ha hb (by decide)).choose_spec⟩
theorem ex_mul : ∃ e, exprP (a ++ b ++ [⟨8, 0, 0, [], 0⟩]) = some e := ⟨_, (expr_two_of ha hb (by decide)).choose_spec⟩
omit hb in
theorem ex_neg : ∃ e, exprP (a ++ [⟨5, 0, 0, [], 0⟩]) = some e := ⟨_, (expr_one_of ha (by decide)).choose_spec⟩
include hc
theorem like_add : Like (a ++ b ++ [⟨6, 0, 0, [], 0⟩] ++ c ++ [⟨6, 0, 0, [], 0⟩]) (a ++ (b ++ c ++ [⟨6, 0, 0, [], 0⟩]) ++ [⟨6, 0, 0, [], 0⟩]) := by
  intro t u h1 h2
  obtain ⟨e1, x1⟩ := ex_add ha hb
  obtain ⟨e2, x2⟩ := ex_add hb hc
  obtain ⟨ab, tc, q1, q2, q3⟩ := (sem_two_ok x1 hc (by decide)).1 h1
  obtain ⟨ta, tb, q4, q5, q6⟩ := (sem_two_ok ha hb (by decide)).1 q1
  obtain ⟨ta', bc, r1, r2, r3⟩ := (sem_two_ok ha x2 (by decide)).1 h2
  obtain ⟨tb', tc', r4, r5, r6⟩ := (sem_two_ok hb hc (by decide)).1 r2
  cases q2.symm.trans r5
  cases q4.symm.trans r1
  cases q5.symm.trans r4
  rcases own_add q6 with ⟨v1, v2, rfl, rfl, rfl⟩ | ⟨s1, s2, rfl, rfl, rfl⟩
  · rcases own_add q3 with ⟨v3, v4, z1, rfl, rfl⟩ | ⟨_, _, z, _⟩
    · cases z1
      rcases own_add r6 with ⟨_, _, z1, z2, rfl⟩ | ⟨_, _, z, _⟩
      · cases z1
        cases z2
        rcases own_add r3 with ⟨_, _, z1, z2, rfl⟩ | ⟨_, _, z, _⟩
        · cases z1
          cases z2
          rw [Int.add_assoc]
        · cases z
      · cases z
    · cases z
  · rcases own_add q3 with ⟨_, _, z, _⟩ | ⟨s3, s4, z1, rfl, rfl⟩
    · cases z
    · cases z1
      rcases own_add r6 with ⟨_, _, z, _⟩ | ⟨_, _, z1, z2, rfl⟩
      · cases z
      · cases z1
        cases z2
        rcases own_add r3 with ⟨_, _, z, _⟩ | ⟨_, _, z1, z2, rfl⟩
        · cases z
        · cases z1
          cases z2
          rw [List.append_assoc]
theorem like_mul : Like (a ++ b ++ [⟨8, 0, 0, [], 0⟩] ++ c ++ [⟨8, 0, 0, [], 0⟩]) (a ++ (b ++ c ++ [⟨8, 0, 0, [], 0⟩]) ++ [⟨8, 0, 0, [], 0⟩]) := by
  intro t u h1 h2
  obtain ⟨e1, x1⟩ := ex_mul ha hb
  obtain ⟨e2, x2⟩ := ex_mul hb hc
  obtain ⟨ab, tc, q1, q2, q3⟩ := (sem_two_ok x1 hc (by decide)).1 h1
  obtain ⟨ta, tb, q4, q5, q6⟩ := (sem_two_ok ha hb (by decide)).1 q1
  obtain ⟨ta', bc, r1, r2, r3⟩ := (sem_two_ok ha x2 (by decide)).1 h2
  obtain ⟨tb', tc', r4, r5, r6⟩ := (sem_two_ok hb hc (by decide)).1 r2
  cases q2.symm.trans r5
  cases q4.symm.trans r1
  cases q5.symm.trans r4
  obtain ⟨v1, v2, rfl, rfl, rfl⟩ := own_mul q6
  obtain ⟨v3, v4, z1, rfl, rfl⟩ := own_mul q3
  cases z1
  obtain ⟨_, _, z1, z2, rfl⟩ := own_mul r6
  cases z1
  cases z2
  obtain ⟨_, _, z1, z2, rfl⟩ := own_mul r3
  cases z1
  cases z2
  rw [Int.mul_assoc]
theorem like_spread : Like (a ++ (b ++ c ++ [⟨6, 0, 0, [], 0⟩]) ++ [⟨8, 0, 0, [], 0⟩]) (a ++ b ++ [⟨8, 0, 0, [], 0⟩] ++ (a ++ c ++ [⟨8, 0, 0, [], 0⟩]) ++ [⟨6, 0, 0, [], 0⟩]) := by
  intro t u h1 h2
  obtain ⟨e1, x1⟩ := ex_add hb hc
  obtain ⟨e2, x2⟩ := ex_mul ha hb
  obtain ⟨e3, x3⟩ := ex_mul ha hc
  obtain ⟨ta, bc, q1, q2, q3⟩ := (sem_two_ok ha x1 (by decide)).1 h1
  obtain ⟨tb, tc, q4, q5, q6⟩ := (sem_two_ok hb hc (by decide)).1 q2
  obtain ⟨ab, ac, r1, r2, r3⟩ := (sem_two_ok x2 x3 (by decide)).1 h2
  obtain ⟨ta', tb', r4, r5, r6⟩ := (sem_two_ok ha hb (by decide)).1 r1
  obtain ⟨ta'', tc', r7, r8, r9⟩ := (sem_two_ok ha hc (by decide)).1 r2
  cases q1.symm.trans r4
  cases q1.symm.trans r7
  cases q4.symm.trans r5
  cases q5.symm.trans r8
  obtain ⟨v1, v2, rfl, rfl, rfl⟩ := own_mul r6
  obtain ⟨v3, v4, z1, rfl, rfl⟩ := own_mul r9
  cases z1
  rcases own_add q6 with ⟨_, _, z1, z2, rfl⟩ | ⟨_, _, z, _⟩
  · cases z1
    cases z2
    obtain ⟨_, _, z1, z2, rfl⟩ := own_mul q3
    cases z1
    cases z2
    rcases own_add r3 with ⟨_, _, z1, z2, rfl⟩ | ⟨_, _, z, _⟩
    · cases z1
      cases z2
      rw [Int.mul_add]
    · cases z
  · cases z
omit hc
theorem like_sub : Like (a ++ b ++ [⟨7, 0, 0, [], 0⟩]) (a ++ (b ++ [⟨5, 0, 0, [], 0⟩]) ++ [⟨6, 0, 0, [], 0⟩]) := by
  intro t u h1 h2
  obtain ⟨e1, x1⟩ := ex_neg hb
  obtain ⟨ta, tb, q1, q2, q3⟩ := (sem_two_ok ha hb (by decide)).1 h1
  obtain ⟨ta', nb, r1, r2, r3⟩ := (sem_two_ok ha x1 (by decide)).1 h2
  obtain ⟨tb', r4, r5⟩ := (sem_one_ok hb (by decide)).1 r2
  cases q1.symm.trans r1
  cases q2.symm.trans r4
  obtain ⟨v1, v2, rfl, rfl, rfl⟩ := own_sub q3
  obtain ⟨_, z, rfl⟩ := own_neg r5
  cases z
  rcases own_add r3 with ⟨_, _, z1, z2, rfl⟩ | ⟨_, _, z, _⟩
  · cases z1
    cases z2
    rw [Int.sub_eq_add_neg]
  · cases z
omit hb
theorem like_neg : Like (a ++ [⟨5, 0, 0, [], 0⟩] ++ [⟨5, 0, 0, [], 0⟩]) a := by
  intro t u h1 h2
  obtain ⟨e1, x1⟩ := ex_neg ha
  obtain ⟨n1, q1, q2⟩ := (sem_one_ok x1 (by decide)).1 h1
  obtain ⟨n2, q3, q4⟩ := (sem_one_ok ha (by decide)).1 q1
  cases q3.symm.trans h2
  obtain ⟨_, rfl, rfl⟩ := own_neg q4
  obtain ⟨_, z, rfl⟩ := own_neg q2
  cases z
  rw [Int.neg_neg]
end
end Go.Proofs.YtmbiompmhaiehaaDoor
/- Plain: how deep an expression over two others is; a product changes about. No walk here. -/
namespace Go.Proofs.YtmbiompmhaiehaaDoor

theorem badp_succ {N : List Rn} {i : Nat} (h : badP N i = none) : badP N (i + 1) = match pileP N (i + 1) with
    | none => some (i, 1)
    | some [] => none
    | some (e :: _) => if 100 < e.dp then some (i, 91) else none := by
  conv => lhs; unfold badP
  rw [h]
  rfl
theorem badp_back {N : List Rn} {i : Nat} (h : badP N (i + 1) = none) : badP N i = none := by
  unfold badP at h
  split at h
  · cases h
  · assumption
theorem badp_ne {N : List Rn} : ∀ (i : Nat) (b : Nat × Nat), badP N i = some b → b.2 ≠ 0
  | 0, b, h => by cases h
  | i + 1, b, h => by
    unfold badP at h
    split at h
    · next hq => cases h; exact badp_ne i _ hq
    · split at h
      · cases h; exact Nat.one_ne_zero
      · cases h
      · split at h
        · cases h; simp
        · cases h
theorem good_iff {N : List Rn} : (chkP N).2 = 0 ↔ badP N N.length = none ∧ ∃ e, exprP N = some e := by
  unfold chkP
  cases hb : badP N N.length with
  | some b => simp [badp_ne _ _ hb]
  | none =>
    cases he : exprP N with
    | some e => simp
    | none => simp
theorem bad_pre (N M : List Rn) : ∀ i, i ≤ N.length → badP (N ++ M) i = badP N i
  | 0, _ => rfl
  | i + 1, h => by
    unfold badP
    rw [bad_pre N M i (by omega), pile_pre N M (i + 1) h]
theorem bad_shift {N M : List Rn} {e : Pe} (hN : badP N N.length = none) (he : exprP N = some e) : ∀ j, j ≤ M.length → badP M j = none → badP (N ++ M) (j + N.length) = none
  | 0, _, _ => by rw [Nat.zero_add, bad_pre N M _ (Nat.le_refl _), hN]
  | j + 1, hj, h => by
    have h0 := badp_back h
    have ih := bad_shift hN he j (by omega) h0
    rw [show j + 1 + N.length = (j + N.length) + 1 by omega, badp_succ ih]
    rw [badp_succ h0] at h
    cases hq : pileP M (j + 1) with
    | none => rw [hq] at h; cases h
    | some Q =>
      rw [hq] at h
      rw [show j + N.length + 1 = (j + 1) + N.length by omega, pile_shift (expr_some he) _ _ hq]
      obtain ⟨P, x, k, _, _, _, _, rfl⟩ := pile_succ hq
      dsimp only at h
      simp only [List.map_cons, List.cons_append, shiftP]
      split at h
      · cases h
      · next hd => rw [if_neg hd]
theorem good_two {N M : List Rn} {x : Rn} {e f : Pe} (hN : (chkP N).2 = 0) (hM : (chkP M).2 = 0) (he : exprP N = some e) (hf : exprP M = some f) (ha : arity x = some 2) : (chkP (N ++ M ++ [x])).2 = 0 ↔ max e.dp f.dp + 1 ≤ 100 := by
  obtain ⟨r, hx⟩ := expr_two_of he hf ha
  have hb := bad_shift (good_iff.1 hN).1 he M.length (Nat.le_refl _) (good_iff.1 hM).1
  have hl : (N ++ M).length = M.length + N.length := by rw [List.length_append, Nat.add_comm]
  have hb2 : badP (N ++ M ++ [x]) (N ++ M).length = none := by rw [bad_pre _ _ _ (Nat.le_refl _), hl, hb]
  have hp := expr_some hx
  have hl2 : (N ++ M ++ [x]).length = (N ++ M).length + 1 := by rw [List.length_append (bs := [x])]; rfl
  have hall : badP (N ++ M ++ [x]) (N ++ M ++ [x]).length = if 100 < max (max 0 f.dp) e.dp + 1 then some ((N ++ M).length, 91) else none := by
    rw [hl2] at hp ⊢
    rw [badp_succ hb2, hp]
  rw [good_iff, hall]
  constructor
  · rintro ⟨h, _⟩
    split at h
    · cases h
    · omega
  · intro h
    exact ⟨by rw [if_neg (by omega)], _, hx⟩
/-- where it stands for a thing of that kind, and where not -/
theorem val_full {N : List Rn} {k : Int} (h1 : 1 ≤ k) (h2 : k ≤ 5) : ((valV N k).e = 0 ↔ (chkP N).2 = 0 ∧ ∃ t, semR N = .ok t ∧ (vT t k).e = 0) ∧ ((valV N k).e ≠ 0 → (valV N k).k = 0 ∧ (valV N k).n = 0 ∧ (valV N k).s = []) := by
  by_cases hc : (chkP N).2 = 0
  · obtain ⟨hpos, hne⟩ := good_vals hc
    cases hr : resAt N (N.length - 1) with
    | error p =>
      obtain ⟨a, e⟩ := p
      have he := res_err hne hr
      have hv : valV N k = noneV a e := by
        unfold valV
        rw [if_neg (by omega), if_neg (by omega), hr]
      rw [hv]
      refine ⟨⟨fun h => ?_, fun ⟨_, t, ht, _⟩ => ?_⟩, fun _ => ⟨rfl, rfl, rfl⟩⟩
      · have h : e = 0 := h
        omega
      · unfold semR at ht
        rw [hr] at ht
        cases ht
    | ok t =>
      have hv : valV N k = match lastV t k with
          | .error e => noneV (N.length - 1) e
          | .ok (n, s) => ⟨k, n, s, 0, 0⟩ := by
        unfold valV
        rw [if_neg (by omega), if_neg (by omega), hr]
        rfl
      rw [hv]
      cases hl : lastV t k with
      | error e =>
        have he := last_err hl
        refine ⟨⟨fun h => ?_, fun ⟨_, t', ht, h⟩ => ?_⟩, fun _ => ⟨rfl, rfl, rfl⟩⟩
        · have h : e = 0 := h
          omega
        · unfold semR at ht
          rw [hr] at ht
          cases ht
          unfold vT at h
          rw [hl] at h
          have h : e = 0 := h
          omega
      | ok p =>
        refine ⟨⟨fun _ => ⟨hc, t, hr, ?_⟩, fun _ => rfl⟩, fun h => absurd rfl h⟩
        unfold vT
        rw [hl]
  · have hv : valV N k = noneV (chkP N).1 (chkP N).2 := by
      unfold valV
      rw [if_pos hc]
    rw [hv]
    exact ⟨⟨fun h => absurd h hc, fun h => absurd h.1 hc⟩, fun _ => ⟨rfl, rfl, rfl⟩⟩
/-- a product changes about, with its faults -/
theorem mul_turn {a b : List Rn} {ea eb : Pe} (ga : (chkP a).2 = 0) (gb : (chkP b).2 = 0) (ha : exprP a = some ea) (hb : exprP b = some eb) : ∀ k : Int, 1 ≤ k → k ≤ 5 →
    ((valV (a ++ b ++ [⟨8, 0, 0, [], 0⟩]) k).e = 0 ↔ (valV (b ++ a ++ [⟨8, 0, 0, [], 0⟩]) k).e = 0) ∧ (valV (a ++ b ++ [⟨8, 0, 0, [], 0⟩]) k).k = (valV (b ++ a ++ [⟨8, 0, 0, [], 0⟩]) k).k ∧ (valV (a ++ b ++ [⟨8, 0, 0, [], 0⟩]) k).n = (valV (b ++ a ++ [⟨8, 0, 0, [], 0⟩]) k).n ∧ (valV (a ++ b ++ [⟨8, 0, 0, [], 0⟩]) k).s = (valV (b ++ a ++ [⟨8, 0, 0, [], 0⟩]) k).s := by
  intro k h1 h2
  have g1 := good_two (x := ⟨8, 0, 0, [], 0⟩) ga gb ha hb (by decide)
  have g2 := good_two (x := ⟨8, 0, 0, [], 0⟩) gb ga hb ha (by decide)
  have own : ∀ s t u, ownV ⟨8, 0, 0, [], 0⟩ [s, t] = .ok u → ownV ⟨8, 0, 0, [], 0⟩ [t, s] = .ok u := by
    intro s t u h
    obtain ⟨v1, v2, rfl, rfl, rfl⟩ := own_mul h
    rw [← h]
    simp [ownV, arithV, Int.mul_comm]
  have half : ∀ {p q : List Rn} {ep eq : Pe}, exprP p = some ep → exprP q = some eq → ∀ t, semR (p ++ q ++ [⟨8, 0, 0, [], 0⟩]) = .ok t → semR (q ++ p ++ [⟨8, 0, 0, [], 0⟩]) = .ok t := by
    intro p q ep eq hp hq t h
    obtain ⟨s, r, q1, q2, q3⟩ := (sem_two_ok hp hq (by decide)).1 h
    exact (sem_two_ok hq hp (by decide)).2 ⟨r, s, q2, q1, own _ _ _ q3⟩
  have hiff : (valV (a ++ b ++ [⟨8, 0, 0, [], 0⟩]) k).e = 0 ↔ (valV (b ++ a ++ [⟨8, 0, 0, [], 0⟩]) k).e = 0 := by
    rw [(val_full h1 h2).1, (val_full h1 h2).1, g1, g2, Nat.max_comm]
    constructor
    · rintro ⟨hd, t, ht, hk⟩
      exact ⟨hd, t, half ha hb t ht, hk⟩
    · rintro ⟨hd, t, ht, hk⟩
      exact ⟨hd, t, half hb ha t ht, hk⟩
  refine ⟨hiff, ?_⟩
  by_cases he : (valV (a ++ b ++ [⟨8, 0, 0, [], 0⟩]) k).e = 0
  · obtain ⟨_, t, ht, hv⟩ := val_sem h1 h2 he
    obtain ⟨_, u, hu, hw⟩ := val_sem h1 h2 (hiff.1 he)
    cases (half ha hb t ht).symm.trans hu
    rw [hv, hw]
    exact ⟨rfl, rfl, rfl⟩
  · obtain ⟨x1, x2, x3⟩ := (val_full h1 h2).2 he
    obtain ⟨y1, y2, y3⟩ := (val_full h1 h2).2 (fun h => he (hiff.2 h))
    rw [x1, x2, x3, y1, y2, y3]
    exact ⟨rfl, rfl, rfl⟩
end Go.Proofs.YtmbiompmhaiehaaDoor
/- Plain: two numbers with signs, put together. No walk here. -/
namespace Go.Proofs.YtmbiompmhaiehaaDoor

def leafN (x : Nat) : Rn := ⟨1, 0, x, [], 0⟩
/-- a number with its sign as nodes -/
def sideN (n : Bool) (x : Nat) : List Rn := if n then [leafN x] ++ [⟨5, 0, 0, [], 0⟩] else [leafN x]
def sideV (n : Bool) (x : Nat) : Int := if n then -(x : Int) else x
theorem leaf_expr (x : Nat) : exprP [leafN x] = some (overP 0 (leafN x) []) := rfl
theorem leaf_good (x : Nat) : (chkP [leafN x]).2 = 0 := rfl
theorem leaf_sem (x : Nat) : semR [leafN x] = .ok (.num x) := rfl
theorem side_expr (n : Bool) (x : Nat) : ∃ e, exprP (sideN n x) = some e ∧ e.dp ≤ 2 := by
  cases n with
  | false => exact ⟨_, leaf_expr x, (show (1 : Nat) ≤ 2 by decide)⟩
  | true => exact ⟨_, rfl, (show (2 : Nat) ≤ 2 by decide)⟩
theorem side_good (n : Bool) (x : Nat) : (chkP (sideN n x)).2 = 0 := by
  cases n with
  | false => exact leaf_good x
  | true => rfl
/-- a number that can't have its sign -/
def sideBad (n : Bool) (x : Nat) : Prop := n = true ∧ 9223372036854775808 < x
theorem side_ok {n : Bool} {x : Nat} (h : ¬ sideBad n x) : semR (sideN n x) = .ok (.num (sideV n x)) := by
  cases n with
  | false => exact leaf_sem x
  | true =>
    show semR ([leafN x] ++ [⟨5, 0, 0, [], 0⟩]) = _
    rw [sem_one (leaf_expr x) (by decide), leaf_sem]
    have hx : x ≤ 9223372036854775808 := Nat.le_of_not_lt fun q => h ⟨rfl, q⟩
    simp only [combR, collect, ownV]
    have hn : numE (-(x : Int)) = .ok (.num (-(x : Int))) := by
      unfold numE
      rw [if_pos (by omega)]
    simp [hn, sideV]
theorem side_bad {n : Bool} {x : Nat} (h : sideBad n x) : semR (sideN n x) = .error (1, 111) := by
  obtain ⟨rfl, hx⟩ := h
  show semR ([leafN x] ++ [⟨5, 0, 0, [], 0⟩]) = _
  rw [sem_one (leaf_expr x) (by decide), leaf_sem]
  simp only [combR, collect, ownV]
  have hn : numE (-(x : Int)) = .error 111 := by
    unfold numE
    rw [if_neg (by omega)]
  simp [hn]
section
variable {xn yn : Bool} {x y : Nat}
def sumN (xn : Bool) (x : Nat) (yn : Bool) (y : Nat) : List Rn := sideN xn x ++ sideN yn y ++ [⟨6, 0, 0, [], 0⟩]
theorem sum_good : (chkP (sumN xn x yn y)).2 = 0 := by
  obtain ⟨e, he, hd⟩ := side_expr xn x
  obtain ⟨f, hf, hd'⟩ := side_expr yn y
  exact (good_two (side_good xn x) (side_good yn y) he hf (by decide)).2 (by omega)
theorem sum_val (k : Int) (h1 : 1 ≤ k) (h2 : k ≤ 5) : valV (sumN xn x yn y) k = match semR (sumN xn x yn y) with
    | .error (a, e) => noneV a e
    | .ok t => match lastV t k with
      | .error e => noneV ((sumN xn x yn y).length - 1) e
      | .ok (n, s) => ⟨k, n, s, 0, 0⟩ := by
  have := sum_good (xn := xn) (x := x) (yn := yn) (y := y)
  unfold valV
  rw [if_neg (by omega), if_neg (by omega)]
  rfl
theorem sum_sem : semR (sumN xn x yn y) = combR (sideN xn x ++ sideN yn y).length ⟨6, 0, 0, [], 0⟩ [semR (sideN xn x), shiftR (sideN xn x).length (semR (sideN yn y))] := by
  obtain ⟨e, he, hd⟩ := side_expr xn x
  obtain ⟨f, hf, hd'⟩ := side_expr yn y
  exact sem_two he hf (by decide)
theorem sum_bad (h : sideBad xn x ∨ sideBad yn y) : ∃ a, semR (sumN xn x yn y) = .error (a, 111) := by
  rw [sum_sem]
  by_cases hx : sideBad xn x
  · rw [side_bad hx]
    exact ⟨_, rfl⟩
  · rw [side_ok hx, side_bad (h.resolve_left hx)]
    exact ⟨_, rfl⟩
theorem sum_ok (hx : ¬ sideBad xn x) (hy : ¬ sideBad yn y) : semR (sumN xn x yn y) = if -9223372036854775808 ≤ sideV xn x + sideV yn y ∧ sideV xn x + sideV yn y < 18446744073709551616 then .ok (.num (sideV xn x + sideV yn y)) else .error ((sideN xn x ++ sideN yn y).length, 111) := by
  rw [sum_sem, side_ok hx, side_ok hy]
  generalize sideV xn x = p
  generalize sideV yn y = q
  simp only [combR, collect, shiftR, ownV, arithV, numE]
  by_cases h : -9223372036854775808 ≤ p + q ∧ p + q < 18446744073709551616
  · simp [h]
  · simp [h]
theorem sum_bad_e (h : sideBad xn x ∨ sideBad yn y) {k : Int} (h1 : 1 ≤ k) (h2 : k ≤ 5) : (valV (sumN xn x yn y) k).e = 111 := by
  obtain ⟨a, ha⟩ := sum_bad h
  rw [sum_val k h1 h2, ha]
  rfl
theorem last_one (s : Int) : lastV (.num s) 1 = if s < 0 then .error 111 else .ok (s.toNat, []) := rfl
theorem last_two (s : Int) : lastV (.num s) 2 = if 9223372036854775808 ≤ s then .error 111 else .ok ((if s < 0 then s + 18446744073709551616 else s).toNat, []) := rfl
/-- as a number without a sign -/
theorem sum_one (hx : ¬ sideBad xn x) (hy : ¬ sideBad yn y) {s : Int} (hs : sideV xn x + sideV yn y = s) : (0 ≤ s → s < 18446744073709551616 → (valV (sumN xn x yn y) 1).e = 0 ∧ ((valV (sumN xn x yn y) 1).n : Int) = s) ∧ ((s < 0 ∨ 18446744073709551616 ≤ s) → (valV (sumN xn x yn y) 1).e = 111) := by
  rw [sum_val 1 (by decide) (by decide), sum_ok hx hy, hs]
  refine ⟨fun h1 h2 => ?_, fun h => ?_⟩
  · rw [if_pos ⟨by omega, h2⟩]
    dsimp only
    rw [last_one, if_neg (by omega)]
    exact ⟨rfl, by show ((s.toNat : Nat) : Int) = s; omega⟩
  · by_cases hr : -9223372036854775808 ≤ s ∧ s < 18446744073709551616
    · rw [if_pos hr]
      dsimp only
      rw [last_one, if_pos (by omega)]
      rfl
    · rw [if_neg hr]
      rfl
/-- as a number with a sign -/
theorem sum_two (hx : ¬ sideBad xn x) (hy : ¬ sideBad yn y) {s : Int} (hs : sideV xn x + sideV yn y = s) : (-9223372036854775808 ≤ s → s < 9223372036854775808 → (valV (sumN xn x yn y) 2).e = 0 ∧ ((valV (sumN xn x yn y) 2).n : Int) = if s < 0 then s + 18446744073709551616 else s) ∧ ((s < -9223372036854775808 ∨ 9223372036854775808 ≤ s) → (valV (sumN xn x yn y) 2).e = 111) := by
  rw [sum_val 2 (by decide) (by decide), sum_ok hx hy, hs]
  refine ⟨fun h1 h2 => ?_, fun h => ?_⟩
  · rw [if_pos ⟨h1, by omega⟩]
    dsimp only
    rw [last_two, if_neg (by omega)]
    refine ⟨rfl, ?_⟩
    show (((if s < 0 then s + 18446744073709551616 else s).toNat : Nat) : Int) = _
    split <;> omega
  · by_cases hr : -9223372036854775808 ≤ s ∧ s < 18446744073709551616
    · rw [if_pos hr]
      dsimp only
      rw [last_two, if_pos (by omega)]
      rfl
    · rw [if_neg hr]
      rfl
end
end Go.Proofs.YtmbiompmhaiehaaDoor
/- Plain: texts put together and repeated, and their lengths. No walk here. -/
namespace Go.Proofs.YtmbiompmhaiehaaDoor

theorem bad_mono {N : List Rn} {i : Nat} : ∀ d, badP N (i + d) = none → badP N i = none
  | 0, h => h
  | d + 1, h => bad_mono d (badp_back h)
theorem good_pre {N M : List Rn} {e : Pe} (h : (chkP (N ++ M)).2 = 0) (he : exprP N = some e) : (chkP N).2 = 0 := by
  have h1 := (good_iff.1 h).1
  rw [List.length_append] at h1
  have h2 := bad_mono _ h1
  rw [bad_pre _ _ _ (Nat.le_refl _)] at h2
  exact good_iff.2 ⟨h2, _, he⟩
/-- what Check says of an operation over two that are good -/
theorem chk_two {N M : List Rn} {x : Rn} {e f : Pe} (hN : (chkP N).2 = 0) (hM : (chkP M).2 = 0) (he : exprP N = some e) (hf : exprP M = some f) (ha : arity x = some 2) : chkP (N ++ M ++ [x]) = if max e.dp f.dp + 1 ≤ 100 then (0, 0) else ((N ++ M).length, 91) := by
  obtain ⟨r, hx⟩ := expr_two_of he hf ha
  have hb := bad_shift (good_iff.1 hN).1 he M.length (Nat.le_refl _) (good_iff.1 hM).1
  have hl : (N ++ M).length = M.length + N.length := by rw [List.length_append, Nat.add_comm]
  have hb2 : badP (N ++ M ++ [x]) (N ++ M).length = none := by rw [bad_pre _ _ _ (Nat.le_refl _), hl, hb]
  have hp := expr_some hx
  have hl2 : (N ++ M ++ [x]).length = (N ++ M).length + 1 := by rw [List.length_append (bs := [x])]; rfl
  have hall : badP (N ++ M ++ [x]) (N ++ M ++ [x]).length = if 100 < max (max 0 f.dp) e.dp + 1 then some ((N ++ M).length, 91) else none := by
    rw [hl2] at hp ⊢
    rw [badp_succ hb2, hp]
  unfold chkP
  rw [hall, hx]
  by_cases h : max e.dp f.dp + 1 ≤ 100
  · rw [if_pos h, if_neg (by omega)]
  · rw [if_neg h, if_pos (by omega)]
theorem chk_one {N : List Rn} {x : Rn} {e : Pe} (hN : (chkP N).2 = 0) (he : exprP N = some e) (ha : arity x = some 1) : chkP (N ++ [x]) = if e.dp + 1 ≤ 100 then (0, 0) else (N.length, 91) := by
  obtain ⟨r, hx⟩ := expr_one_of he ha
  have hb2 : badP (N ++ [x]) N.length = none := by rw [bad_pre _ _ _ (Nat.le_refl _), (good_iff.1 hN).1]
  have hp := expr_some hx
  have hl2 : (N ++ [x]).length = N.length + 1 := by rw [List.length_append]; rfl
  have hall : badP (N ++ [x]) (N ++ [x]).length = if 100 < max 0 e.dp + 1 then some (N.length, 91) else none := by
    rw [hl2] at hp ⊢
    rw [badp_succ hb2, hp]
  unfold chkP
  rw [hall, hx]
  by_cases h : e.dp + 1 ≤ 100
  · rw [if_pos h, if_neg (by omega)]
  · rw [if_neg h, if_pos (by omega)]
theorem val_good {N : List Rn} (h : (chkP N).2 = 0) {k : Int} (h1 : 1 ≤ k) (h2 : k ≤ 5) : valV N k = match semR N with
    | .error (a, e) => noneV a e
    | .ok t => match lastV t k with
      | .error e => noneV (N.length - 1) e
      | .ok (n, s) => ⟨k, n, s, 0, 0⟩ := by
  unfold valV
  rw [if_neg (by omega), if_neg (by omega)]
  rfl
theorem val_bad {N : List Rn} (h : (chkP N).2 ≠ 0) (k : Int) : valV N k = noneV (chkP N).1 (chkP N).2 := by
  unfold valV
  rw [if_pos h]
theorem last_text (s : List UInt8) : lastV (.text s) 4 = if okL s then .ok (0, s) else .error 111 := rfl
/-- where it is a text -/
theorem bare_text {N : List Rn} (h : (valV N 4).e = 0) : (chkP N).2 = 0 ∧ ∃ s, semR N = .ok (.text s) ∧ okL s = true ∧ (valV N 4).s = s := by
  obtain ⟨hc, t, ht, hv⟩ := val_sem (k := 4) (by decide) (by decide) h
  refine ⟨hc, ?_⟩
  rw [hv] at h
  cases t with
  | num v => have h : (110 : Nat) = 0 := h; omega
  | truth b => have h : (110 : Nat) = 0 := h; omega
  | bytes s => have h : (110 : Nat) = 0 := h; omega
  | text s =>
    unfold vT at h
    rw [last_text] at h
    by_cases ho : okL s = true
    · refine ⟨s, ht, ho, ?_⟩
      rw [hv]
      unfold vT
      rw [last_text, if_pos ho]
    · rw [if_neg ho] at h
      have h : (111 : Nat) = 0 := h
      omega
theorem own_cat (s t : List UInt8) : ownV ⟨9, 2, 0, [], 0⟩ [.text s, .text t] = textE (s ++ t) := by
  simp [ownV, Th.isT, rowL, Th.s]
theorem own_plus (s t : List UInt8) : ownV ⟨6, 0, 0, [], 0⟩ [.text s, .text t] = textE (s ++ t) := by
  simp [ownV]
section
variable {a b : List Rn} {ea eb : Pe} (ga : (chkP a).2 = 0) (gb : (chkP b).2 = 0) (xa : exprP a = some ea) (xb : exprP b = some eb)
include ga gb xa xb
/-- a cat of two texts is their sum -/
theorem cat_add (ha : (valV a 4).e = 0) (hb : (valV b 4).e = 0) :
    ((valV (a ++ b ++ [⟨9, 2, 0, [], 0⟩]) 4).k = (valV (a ++ b ++ [⟨6, 0, 0, [], 0⟩]) 4).k ∧ (valV (a ++ b ++ [⟨9, 2, 0, [], 0⟩]) 4).n = (valV (a ++ b ++ [⟨6, 0, 0, [], 0⟩]) 4).n ∧ (valV (a ++ b ++ [⟨9, 2, 0, [], 0⟩]) 4).s = (valV (a ++ b ++ [⟨6, 0, 0, [], 0⟩]) 4).s ∧ (valV (a ++ b ++ [⟨9, 2, 0, [], 0⟩]) 4).e = (valV (a ++ b ++ [⟨6, 0, 0, [], 0⟩]) 4).e) ∧
      ((valV (a ++ b ++ [⟨9, 2, 0, [], 0⟩]) 4).e = 0 → (valV (a ++ b ++ [⟨9, 2, 0, [], 0⟩]) 4).s = (valV a 4).s ++ (valV b 4).s ∧ ((valV a 4).s ++ (valV b 4).s).length ≤ 4096) := by
  obtain ⟨_, s, hs, _, hs4⟩ := bare_text ha
  obtain ⟨_, t, ht, _, ht4⟩ := bare_text hb
  rw [hs4, ht4]
  have c1 := chk_two (x := ⟨9, 2, 0, [], 0⟩) ga gb xa xb (by decide)
  have c2 := chk_two (x := ⟨6, 0, 0, [], 0⟩) ga gb xa xb (by decide)
  have s1 := sem_two (x := ⟨9, 2, 0, [], 0⟩) xa xb (by decide)
  have s2 := sem_two (x := ⟨6, 0, 0, [], 0⟩) xa xb (by decide)
  rw [hs, ht] at s1 s2
  simp only [combR, collect, shiftR, own_cat, own_plus] at s1 s2
  generalize a ++ b ++ [⟨9, 2, 0, [], 0⟩] = C at *
  generalize a ++ b ++ [⟨6, 0, 0, [], 0⟩] = D at *
  by_cases hd : max ea.dp eb.dp + 1 ≤ 100
  · rw [if_pos hd] at c1 c2
    rw [val_good (by rw [c1]) (by decide) (by decide), val_good (by rw [c2]) (by decide) (by decide), s1, s2]
    unfold textE
    by_cases hl : (s ++ t).length ≤ 4096
    · rw [if_pos hl]
      dsimp only
      rw [last_text]
      by_cases ho : okL (s ++ t) = true
      · rw [if_pos ho]
        exact ⟨⟨rfl, rfl, rfl, rfl⟩, fun _ => ⟨rfl, hl⟩⟩
      · rw [if_neg ho]
        exact ⟨⟨rfl, rfl, rfl, rfl⟩, fun h => by have h : (111 : Nat) = 0 := h; omega⟩
    · rw [if_neg hl]
      exact ⟨⟨rfl, rfl, rfl, rfl⟩, fun h => by have h : (2 : Nat) = 0 := h; omega⟩
  · rw [if_neg hd] at c1 c2
    rw [val_bad (by rw [c1]; exact (show (91 : Nat) ≠ 0 by decide)), val_bad (by rw [c2]; exact (show (91 : Nat) ≠ 0 by decide)), c1, c2]
    exact ⟨⟨rfl, rfl, rfl, rfl⟩, fun h => by have h : (91 : Nat) = 0 := h; omega⟩
/-- a cat that is a text of what isn't has bytes -/
theorem cat_bare (h : (valV (a ++ b ++ [⟨9, 2, 0, [], 0⟩]) 4).e = 0) (hab : (valV a 4).e ≠ 0 ∨ (valV b 4).e ≠ 0) : (valV (a ++ b ++ [⟨9, 2, 0, [], 0⟩]) 4).s ≠ [] := by
  obtain ⟨_, u, hu, _, hu4⟩ := bare_text h
  rw [hu4]
  obtain ⟨ta, tb, q1, q2, q3⟩ := (sem_two_ok xa xb (by decide)).1 hu
  have hnot : ∀ {N : List Rn} {s : List UInt8}, (chkP N).2 = 0 → semR N = .ok (.text s) → (valV N 4).e ≠ 0 → s ≠ [] := by
    intro N s hg hs he hn
    subst hn
    apply he
    rw [val_good hg (by decide) (by decide), hs]
    rfl
  cases ta <;> cases tb <;> simp [ownV, Th.isT, rowL, Th.s] at q3
  next s t =>
    unfold textE at q3
    split at q3
    · cases q3
      intro hn
      rw [List.append_eq_nil_iff] at hn
      rcases hab with h1 | h1
      · exact hnot ga q1 h1 hn.1
      · exact hnot gb q2 h1 hn.2
    · cases q3
end
theorem times_len (s : List UInt8) (n : Nat) : (timesL s n).length = n * s.length := by
  unfold timesL
  simp [List.length_flatten]
theorem own_rep (s : List UInt8) (n : Nat) : ownV ⟨10, 0, 0, [], 0⟩ [.text s, .num n] = if n * s.length ≤ 4096 then .ok (.text (timesL s n)) else .error 2 := by
  have h : ownV ⟨10, 0, 0, [], 0⟩ [.text s, .num n] = repE' s n := by simp [ownV]
  rw [h]
  unfold repE'
  rw [if_neg (by omega)]
  rfl
theorem own_len (s : List UInt8) : ownV ⟨11, 0, 0, [], 0⟩ [.text s] = .ok (.num s.length) := by simp [ownV]
/-- as many as there are numbers without a sign -/
def capN : Nat := 18446744073709551616
theorem own_times (m n : Nat) : ownV ⟨8, 0, 0, [], 0⟩ [.num m, .num n] = if m * n < capN then .ok (.num ((m * n : Nat) : Int)) else .error 111 := by
  have h : ownV ⟨8, 0, 0, [], 0⟩ [.num m, .num n] = numE ((m : Int) * n) := by simp [ownV, arithV]
  rw [h]
  unfold numE
  have e : (m : Int) * n = ((m * n : Nat) : Int) := by simp
  rw [e]
  unfold capN
  by_cases hl : m * n < 18446744073709551616
  · rw [if_pos hl, if_pos (by omega)]
  · rw [if_neg hl, if_neg (by omega)]
theorem val_num {N : List Rn} (hg : (chkP N).2 = 0) {m : Nat} (hs : semR N = .ok (.num (m : Int))) : valV N 1 = ⟨1, m, [], 0, 0⟩ := by
  rw [val_good hg (by decide) (by decide), hs]
  dsimp only
  rw [last_one, if_neg (by omega)]
  rfl
theorem val_err {N : List Rn} (hg : (chkP N).2 = 0) {k : Int} (h1 : 1 ≤ k) (h2 : k ≤ 5) {a e : Nat} (hs : semR N = .error (a, e)) : valV N k = noneV a e := by
  rw [val_good hg h1 h2, hs]
theorem sem_rep {a : List Rn} {ea : Pe} (xa : exprP a = some ea) {s : List UInt8} (hs : semR a = .ok (.text s)) (n : Nat) : semR (a ++ [leafN n] ++ [⟨10, 0, 0, [], 0⟩]) = if n * s.length ≤ 4096 then .ok (.text (timesL s n)) else .error ((a ++ [leafN n]).length, 2) := by
  rw [sem_two xa (leaf_expr n) (by decide), hs, leaf_sem]
  simp only [combR, collect, shiftR, own_rep]
  by_cases h : n * s.length ≤ 4096
  · rw [if_pos h, if_pos h]
  · rw [if_neg h, if_neg h]
theorem sem_len {a : List Rn} {ea : Pe} (xa : exprP a = some ea) {s : List UInt8} (hs : semR a = .ok (.text s)) : semR (a ++ [⟨11, 0, 0, [], 0⟩]) = .ok (.num s.length) := by
  rw [sem_one xa (by decide), hs]
  simp only [combR, collect, own_len]
theorem sem_len_err {a : List Rn} {ea : Pe} (xa : exprP a = some ea) {p : Nat × Nat} (hs : semR a = .error p) : semR (a ++ [⟨11, 0, 0, [], 0⟩]) = .error p := by
  rw [sem_one xa (by decide), hs]
  simp only [combR, collect]
theorem comb_ok {i : Nat} {x : Rn} {p q t : Th} (h : ownV x [p, q] = .ok t) : combR i x [.ok p, .ok q] = .ok t := by
  simp only [combR, collect, h]
theorem comb_err {i e : Nat} {x : Rn} {p q : Th} (h : ownV x [p, q] = .error e) : combR i x [.ok p, .ok q] = .error (i, e) := by
  simp only [combR, collect, h]
theorem sem_mul_ok {a : List Rn} {ea : Pe} (xa : exprP a = some ea) {m : Nat} (hs : semR a = .ok (.num m)) {n : Nat} (h : m * n < capN) : semR (a ++ [leafN n] ++ [⟨8, 0, 0, [], 0⟩]) = .ok (.num ((m * n : Nat) : Int)) := by
  rw [sem_two xa (leaf_expr n) (by decide), hs, leaf_sem]
  exact comb_ok ((own_times m n).trans (if_pos h))
theorem sem_mul_err {a : List Rn} {ea : Pe} (xa : exprP a = some ea) {m : Nat} (hs : semR a = .ok (.num m)) {n : Nat} (h : ¬ m * n < capN) : semR (a ++ [leafN n] ++ [⟨8, 0, 0, [], 0⟩]) = .error ((a ++ [leafN n]).length, 111) := by
  rw [sem_two xa (leaf_expr n) (by decide), hs, leaf_sem]
  exact comb_err ((own_times m n).trans (if_neg h))
section
variable {a : List Rn} {ea : Pe} (ga : (chkP a).2 = 0) (xa : exprP a = some ea)
include ga xa
/-- the length of what is repeated is the length times the number -/
theorem rep_len (ha : (valV a 4).e = 0) (n : Nat) :
    ((valV (a ++ [leafN n] ++ [⟨10, 0, 0, [], 0⟩] ++ [⟨11, 0, 0, [], 0⟩]) 1).e = 0 → (valV (a ++ [⟨11, 0, 0, [], 0⟩] ++ [leafN n] ++ [⟨8, 0, 0, [], 0⟩]) 1).e = 0 ∧
        (valV (a ++ [leafN n] ++ [⟨10, 0, 0, [], 0⟩] ++ [⟨11, 0, 0, [], 0⟩]) 1).k = (valV (a ++ [⟨11, 0, 0, [], 0⟩] ++ [leafN n] ++ [⟨8, 0, 0, [], 0⟩]) 1).k ∧ (valV (a ++ [leafN n] ++ [⟨10, 0, 0, [], 0⟩] ++ [⟨11, 0, 0, [], 0⟩]) 1).n = (valV (a ++ [⟨11, 0, 0, [], 0⟩] ++ [leafN n] ++ [⟨8, 0, 0, [], 0⟩]) 1).n ∧
        (valV (a ++ [leafN n] ++ [⟨10, 0, 0, [], 0⟩] ++ [⟨11, 0, 0, [], 0⟩]) 1).s = (valV (a ++ [⟨11, 0, 0, [], 0⟩] ++ [leafN n] ++ [⟨8, 0, 0, [], 0⟩]) 1).s ∧ (valV (a ++ [⟨11, 0, 0, [], 0⟩] ++ [leafN n] ++ [⟨8, 0, 0, [], 0⟩]) 1).n ≤ 4096) ∧
      ((valV (a ++ [leafN n] ++ [⟨10, 0, 0, [], 0⟩] ++ [⟨11, 0, 0, [], 0⟩]) 1).e ≠ 0 → (valV (a ++ [⟨11, 0, 0, [], 0⟩] ++ [leafN n] ++ [⟨8, 0, 0, [], 0⟩]) 1).e ≠ 0 ∨ 4096 < (valV (a ++ [⟨11, 0, 0, [], 0⟩] ++ [leafN n] ++ [⟨8, 0, 0, [], 0⟩]) 1).n) := by
  obtain ⟨_, s, hs, _, _⟩ := bare_text ha
  have xl := leaf_expr n
  have gl := leaf_good n
  have dl : (overP 0 (leafN n) []).dp = 1 := rfl
  -- the two roads
  obtain ⟨r1, x1⟩ := expr_two_of (x := ⟨10, 0, 0, [], 0⟩) xa xl (by decide)
  obtain ⟨r2, x2⟩ := expr_one_of (x := ⟨11, 0, 0, [], 0⟩) x1 (by decide)
  obtain ⟨r3, x3⟩ := expr_one_of (x := ⟨11, 0, 0, [], 0⟩) xa (by decide)
  obtain ⟨r4, x4⟩ := expr_two_of (x := ⟨8, 0, 0, [], 0⟩) x3 xl (by decide)
  rw [dl] at x1 x2 x4
  have s1 := sem_rep xa hs n
  have s2 := fun u (h : semR (a ++ [leafN n] ++ [⟨10, 0, 0, [], 0⟩]) = .ok (.text u)) => sem_len x1 h
  have s2' := fun p (h : semR (a ++ [leafN n] ++ [⟨10, 0, 0, [], 0⟩]) = .error p) => sem_len_err x1 h
  have s4 := fun h => sem_mul_ok (n := n) x3 (sem_len xa hs) h
  have s4' := fun h => sem_mul_err (n := n) x3 (sem_len xa hs) h
  have c1 := chk_two (x := ⟨10, 0, 0, [], 0⟩) ga gl xa xl (by decide)
  have c3 := chk_one (x := ⟨11, 0, 0, [], 0⟩) ga xa (by decide)
  have c2 := fun h => chk_one (x := ⟨11, 0, 0, [], 0⟩) h x1 (by decide)
  have c4 := fun h => chk_two (x := ⟨8, 0, 0, [], 0⟩) h gl x3 xl (by decide)
  have p2 := fun h => good_pre (N := a ++ [leafN n] ++ [⟨10, 0, 0, [], 0⟩]) (M := [⟨11, 0, 0, [], 0⟩]) h x1
  have p4 := fun h => good_pre (N := a ++ [⟨11, 0, 0, [], 0⟩]) (M := [leafN n] ++ [⟨8, 0, 0, [], 0⟩]) h x3
  rw [← List.append_assoc] at p4
  rw [dl] at c1 c4
  generalize a ++ [leafN n] ++ [⟨10, 0, 0, [], 0⟩] = R at *
  generalize a ++ [⟨11, 0, 0, [], 0⟩] = A at *
  generalize R ++ [⟨11, 0, 0, [], 0⟩] = RL at *
  generalize A ++ [leafN n] ++ [⟨8, 0, 0, [], 0⟩] = W at *
  dsimp only at c2 c4
  by_cases hd : ea.dp + 2 ≤ 100
  · rw [if_pos (by omega)] at c1 c3
    have g1 : (chkP R).2 = 0 := by rw [c1]
    have g3 : (chkP A).2 = 0 := by rw [c3]
    have c2 := c2 g1
    have c4 := c4 g3
    rw [if_pos (by omega)] at c2 c4
    have g2 : (chkP RL).2 = 0 := by rw [c2]
    have g4 : (chkP W).2 = 0 := by rw [c4]
    by_cases hr : n * s.length ≤ 4096
    · have hr' : s.length * n ≤ 4096 := by rw [Nat.mul_comm]; exact hr
      rw [if_pos hr] at s1
      have s2 := s2 _ s1
      rw [times_len] at s2
      have s4 := s4 (show s.length * n < capN from Nat.lt_of_le_of_lt hr' (by unfold capN; decide))
      rw [val_num g2 s2, val_num g4 s4, Nat.mul_comm n]
      exact ⟨fun _ => ⟨rfl, rfl, rfl, rfl, hr'⟩, fun h => absurd rfl h⟩
    · have hr' : ¬ s.length * n ≤ 4096 := by rw [Nat.mul_comm]; exact hr
      rw [if_neg hr] at s1
      rw [val_err g2 (by decide) (by decide) (s2' _ s1)]
      refine ⟨fun h => absurd h (show (2 : Nat) ≠ 0 by decide), fun _ => ?_⟩
      by_cases hf : s.length * n < capN
      · rw [val_num g4 (s4 hf)]
        exact .inr (Nat.lt_of_not_le hr')
      · rw [val_err g4 (by decide) (by decide) (s4' hf)]
        exact .inl (show (111 : Nat) ≠ 0 by decide)
  · have bad2 : (chkP RL).2 ≠ 0 := fun h => by
      have g1 := p2 h
      rw [c2 g1] at h
      rw [if_neg (by omega)] at h
      have h : (91 : Nat) = 0 := h
      omega
    have bad4 : (chkP W).2 ≠ 0 := fun h => by
      have g3 := p4 h
      rw [c4 g3] at h
      rw [if_neg (by omega)] at h
      have h : (91 : Nat) = 0 := h
      omega
    rw [val_bad bad2, val_bad bad4]
    exact ⟨fun h => absurd h bad2, fun _ => .inl bad4⟩
end
end Go.Proofs.YtmbiompmhaiehaaDoor
