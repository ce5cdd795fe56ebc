/- Printing, plain: raw nodes, what they are together, the text of each. No walk here. -/
import Derived.Test.YtipcgmaobiobbaaGreatDoorParGa
import Derived.Lib.ItoaNum
namespace Go.Proofs.YtipcgmaobiobbaaGreatDoor

/-- a node as it may come in -/
structure Rn where
  op : Int
  n : Int
  num : Nat
  t : List UInt8
  a : Int
/-- how many kids a node has, if it can stand in an expression at all -/
def arity (x : Rn) : Option Nat :=
  if x.op = 1 then (if x.n = 0 ∧ x.t = [] then some 0 else none)
  else if x.op = 2 then (if x.n = 0 ∧ x.num = 0 then some 0 else none)
  else if x.op = 9 then (if 1 ≤ x.n ∧ x.num = 0 ∧ x.t = [] then some x.n.toNat else none)
  else if x.n = 0 ∧ x.num = 0 ∧ x.t = [] then
    (if x.op = 3 ∨ x.op = 4 then some 0
    else if x.op = 5 ∨ x.op = 11 ∨ x.op = 12 then some 1
    else if x.op = 6 ∨ x.op = 7 ∨ x.op = 8 ∨ x.op = 10 then some 2
    else none)
  else none
def sTrue : List UInt8 := [116, 114, 117, 101]
def sFalse : List UInt8 := [102, 97, 108, 115, 101]
def sCat : List UInt8 := [99, 97, 116, 40]
def sRep : List UInt8 := [114, 101, 112, 40]
def sLen : List UInt8 := [108, 101, 110, 40]
def sHex : List UInt8 := [104, 101, 120, 40]
def aheadL (x : Rn) : List UInt8 :=
  if x.op = 1 then Lib.decDigits x.num else if x.op = 2 then quoteL x.t else if x.op = 3 then sTrue else if x.op = 4 then sFalse else if x.op = 5 then [45]
  else if x.op = 6 ∨ x.op = 7 ∨ x.op = 8 then [40] else if x.op = 9 then sCat else if x.op = 10 then sRep else if x.op = 11 then sLen else sHex
def betwL (x : Rn) : List UInt8 := if x.op = 6 then [32, 43, 32] else if x.op = 7 then [32, 45, 32] else if x.op = 8 then [32, 42, 32] else [44, 32]
def behL (x : Rn) : List UInt8 := if 6 ≤ x.op then [41] else []
/-- texts with one between each two -/
def inter (b : List UInt8) : List (List UInt8) → List UInt8
  | [] => []
  | k :: r => k ++ (r.flatMap fun x => b ++ x)
/-- texts with a blank between each two -/
def blankL (l : List (List UInt8)) : List UInt8 := inter [32] l
theorem inter_snoc (b : List UInt8) (l : List (List UInt8)) (x : List UInt8) (h : l ≠ []) : inter b (l ++ [x]) = inter b l ++ (b ++ x) := by
  cases l with
  | nil => exact absurd rfl h
  | cons k r => simp [inter]
theorem inter_one (b x : List UInt8) : inter b [x] = x := by simp [inter]

/-- a subtree: its root's place, where it begins, how deep it is, its text -/
structure Pe where
  r : Nat
  fi : Nat
  dp : Nat
  tx : List UInt8
def bottom (i : Nat) : List Pe → Nat
  | [] => i
  | e :: r => bottom e.fi r
def deepest (ks : List Pe) : Nat := ks.foldl (fun d e => max d e.dp) 0
/-- a node over its kids, the last kid first -/
def overP (i : Nat) (x : Rn) (ks : List Pe) : Pe := ⟨i, bottom i ks, deepest ks + 1, aheadL x ++ inter (betwL x) (ks.reverse.map (·.tx)) ++ behL x⟩
def pushP (i : Nat) (x : Rn) (P : List Pe) : Option (List Pe) := match arity x with
  | none => none
  | some k => if k ≤ P.length then some (overP i x (P.take k) :: P.drop k) else none
/-- what stands, the last first, behind so many nodes -/
def pileP (N : List Rn) : Nat → Option (List Pe)
  | 0 => some []
  | i + 1 => match pileP N i, N[i]? with
    | some P, some x => pushP i x P
    | _, _ => none
def exprP (N : List Rn) : Option Pe := match pileP N N.length with
  | some [e] => some e
  | _ => none
/-- each stands right ahead of the next, the lowest at the beginning -/
def Chain : List Pe → Nat → Prop
  | [], i => i = 0
  | e :: P, i => e.r + 1 = i ∧ e.fi ≤ e.r ∧ Chain P e.fi
section
variable {N : List Rn}
theorem chain_drop : ∀ (P : List Pe) (i k : Nat), Chain P i → Chain (P.drop k) (bottom i (P.take k))
  | [], i, k, h => by simpa [bottom] using h
  | e :: P, i, 0, h => by simpa [bottom] using h
  | e :: P, i, k + 1, h => by
    have := chain_drop P e.fi k h.2.2
    rw [List.drop_succ_cons, List.take_succ_cons]
    exact this
theorem bottom_le : ∀ (P : List Pe) (i k : Nat), Chain P i → bottom i (P.take k) ≤ i
  | [], i, k, h => by simp [bottom]
  | e :: P, i, 0, h => by simp [bottom]
  | e :: P, i, k + 1, h => by
    have := bottom_le P e.fi k h.2.2
    rw [List.take_succ_cons]
    show bottom e.fi (P.take k) ≤ i
    have h1 := h.1
    have h2 := h.2.1
    omega
theorem chain_len : ∀ (P : List Pe) (i : Nat), Chain P i → P.length ≤ i
  | [], i, h => Nat.zero_le _
  | e :: P, i, h => by
    have := chain_len P e.fi h.2.2
    have h1 := h.1
    have h2 := h.2.1
    rw [List.length_cons]
    omega
theorem push_some {i : Nat} {x : Rn} {P Q : List Pe} (h : pushP i x P = some Q) : ∃ k, arity x = some k ∧ k ≤ P.length ∧ Q = overP i x (P.take k) :: P.drop k := by
  unfold pushP at h
  split at h
  · cases h
  · rename_i k hk
    split at h
    · rename_i hl
      exact ⟨k, hk, hl, (Option.some.inj h).symm⟩
    · cases h
theorem pile_succ {i : Nat} {Q : List Pe} (h : pileP N (i + 1) = some Q) : ∃ P x k, pileP N i = some P ∧ N[i]? = some x ∧ arity x = some k ∧ k ≤ P.length ∧ Q = overP i x (P.take k) :: P.drop k := by
  conv at h => lhs; unfold pileP
  split at h
  · rename_i P x hP hx
    obtain ⟨k, h1, h2, h3⟩ := push_some h
    exact ⟨P, x, k, hP, hx, h1, h2, h3⟩
  · cases h
theorem pile_chain : ∀ (i : Nat) (P : List Pe), pileP N i = some P → Chain P i
  | 0, P, h => by
    cases h
    rfl
  | i + 1, Q, h => by
    obtain ⟨P, x, k, hP, _, _, _, rfl⟩ := pile_succ h
    have hc := pile_chain i P hP
    exact ⟨rfl, bottom_le P i k hc, chain_drop P i k hc⟩
/-- what stands in the pile stood on its top right behind its root -/
theorem pile_mem : ∀ (i : Nat) (P : List Pe), pileP N i = some P → ∀ e ∈ P, e.r < i ∧ ∃ P', pileP N (e.r + 1) = some (e :: P')
  | 0, P, h, e, he => by
    cases h
    cases he
  | i + 1, Q, h, e, he => by
    have hq := h
    obtain ⟨P, x, k, hP, _, _, _, rfl⟩ := pile_succ h
    rcases List.mem_cons.1 he with rfl | he
    · exact ⟨Nat.lt_succ_self i, _, hq⟩
    · obtain ⟨h1, h2⟩ := pile_mem i P hP e (List.mem_of_mem_drop he)
      exact ⟨Nat.lt_succ_of_lt h1, h2⟩
theorem pile_back {i : Nat} {P : List Pe} (h : pileP N i = some P) (j : Nat) (hj : j ≤ i) : ∃ Q, pileP N j = some Q := by
  induction i generalizing P with
  | zero =>
    obtain rfl : j = 0 := by omega
    exact ⟨_, h⟩
  | succ i ih =>
    by_cases hji : j = i + 1
    · subst hji
      exact ⟨_, h⟩
    · obtain ⟨P', x, k, hP, _⟩ := pile_succ h
      exact ih hP (by omega)
theorem pile_none {i : Nat} (h : pileP N i = none) (j : Nat) (hj : i ≤ j) : pileP N j = none := by
  cases hq : pileP N j with
  | none => rfl
  | some Q =>
    obtain ⟨P, hP⟩ := pile_back hq i hj
    rw [h] at hP
    cases hP
theorem pile_le {i : Nat} {P : List Pe} (h : pileP N i = some P) : i ≤ N.length := by
  cases i with
  | zero => exact Nat.zero_le _
  | succ i =>
    obtain ⟨_, x, _, _, hx, _⟩ := pile_succ h
    exact (List.getElem?_eq_some_iff.1 hx).1
/-- the subtree whose root stands there -/
def peAt (N : List Rn) (j : Nat) (e : Pe) : Prop := ∃ P, pileP N (j + 1) = some (e :: P)
theorem peAt_one {j : Nat} {e f : Pe} (h : peAt N j e) (g : peAt N j f) : e = f := by
  obtain ⟨P, h⟩ := h
  obtain ⟨Q, g⟩ := g
  rw [h] at g
  cases g
  rfl
theorem peAt_r {j : Nat} {e : Pe} (h : peAt N j e) : e.r = j := by
  obtain ⟨P, h⟩ := h
  obtain ⟨_, _, _, _, _, _, _, h⟩ := pile_succ h
  cases h
  rfl
theorem peAt_of {i j : Nat} {P : List Pe} (h : pileP N i = some P) (hj : j < i) : ∃ e, peAt N j e := by
  obtain ⟨Q, hQ⟩ := pile_back h (j + 1) hj
  obtain ⟨_, _, _, _, _, _, _, hq⟩ := pile_succ hQ
  exact ⟨_, _, hq ▸ hQ⟩
theorem expr_some {e : Pe} (h : exprP N = some e) : pileP N N.length = some [e] := by
  unfold exprP at h
  split at h
  · rename_i e' he
    rw [he, Option.some.inj h]
  · cases h
theorem expr_at {e : Pe} (h : exprP N = some e) : 0 < N.length ∧ peAt N (N.length - 1) e ∧ e.fi = 0 := by
  have hp := expr_some h
  have hc := pile_chain _ _ hp
  have h1 : e.r + 1 = N.length := hc.1
  refine ⟨by omega, ⟨[], ?_⟩, hc.2.2⟩
  rw [show N.length - 1 + 1 = N.length by omega]
  exact hp
/-- the greatest depth of all stands on the pile -/
theorem deep_le {ks : List Pe} {e : Pe} (h : e ∈ ks) : e.dp ≤ deepest ks := by
  unfold deepest
  have : ∀ (l : List Pe) (d : Nat), d ≤ l.foldl (fun d e => max d e.dp) d ∧ ∀ e ∈ l, e.dp ≤ l.foldl (fun d e => max d e.dp) d := by
    intro l
    induction l with
    | nil => exact fun d => ⟨Nat.le_refl _, nofun⟩
    | cons a r ih =>
      intro d
      obtain ⟨h1, h2⟩ := ih (max d a.dp)
      refine ⟨by rw [List.foldl_cons]; omega, fun e he => ?_⟩
      rw [List.foldl_cons]
      rcases List.mem_cons.1 he with rfl | he
      · omega
      · exact h2 e he
  exact (this ks 0).2 e h
theorem deepest_le {ks : List Pe} {m : Nat} (h : ∀ e ∈ ks, e.dp ≤ m) : deepest ks ≤ m := by
  unfold deepest
  have : ∀ (l : List Pe) (d : Nat), d ≤ m → (∀ e ∈ l, e.dp ≤ m) → l.foldl (fun d e => max d e.dp) d ≤ m := by
    intro l
    induction l with
    | nil => exact fun d h _ => h
    | cons a r ih => exact fun d h hl => ih _ (by have := hl a (.head _); show max d a.dp ≤ m; omega) fun e he => hl e (.tail _ he)
  exact this ks 0 (Nat.zero_le _) h
theorem pile_dp : ∀ (i : Nat) (P : List Pe), pileP N i = some P → ∀ e ∈ P, e.dp ≤ e.r + 1
  | 0, P, h, e, he => by
    cases h
    cases he
  | i + 1, Q, h, e, he => by
    obtain ⟨P, x, k, hP, _, _, _, rfl⟩ := pile_succ h
    rcases List.mem_cons.1 he with rfl | he
    · refine Nat.succ_le_succ (deepest_le fun e he => ?_)
      have h1 := pile_dp i P hP e (List.mem_of_mem_take he)
      have h2 := (pile_mem i P hP e (List.mem_of_mem_take he)).1
      show e.dp ≤ i
      omega
    · exact pile_dp i P hP e (List.mem_of_mem_drop he)
end
theorem arity_op {x : Rn} {k : Nat} (h : arity x = some k) : (x.op = 1 ∧ k = 0) ∨ (x.op = 2 ∧ k = 0) ∨ (x.op = 3 ∧ k = 0) ∨ (x.op = 4 ∧ k = 0) ∨ (x.op = 5 ∧ k = 1) ∨ (x.op = 6 ∧ k = 2) ∨ (x.op = 7 ∧ k = 2) ∨ (x.op = 8 ∧ k = 2) ∨ (x.op = 9 ∧ 1 ≤ k) ∨ (x.op = 10 ∧ k = 2) ∨ (x.op = 11 ∧ k = 1) ∨ (x.op = 12 ∧ k = 1) := by
  unfold arity at h
  repeat' split at h
  all_goals first
    | (cases h; omega)
    | (cases h; done)
theorem expr_nil {N : List Rn} (h : N.length = 0) : exprP N = none := by
  unfold exprP
  rw [h]
  rfl
end Go.Proofs.YtipcgmaobiobbaaGreatDoor
