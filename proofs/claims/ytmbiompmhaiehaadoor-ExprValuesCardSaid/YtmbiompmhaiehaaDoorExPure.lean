/- What an expression stands for, plain: things, a node's own, the first fault; Check and Value. No walk here. -/
import Derived.Test.YtmbiompmhaiehaaDoorExGa
import Derived.Test.YtmbiompmhaiehaaDoorExGk
namespace Go.Proofs.YtmbiompmhaiehaaDoor

/-- what a node stands for -/
inductive Th where
  | num (v : Int)
  | text (s : List UInt8)
  | truth (b : Bool)
  | bytes (s : List UInt8)
def Th.isN : Th → Bool | .num _ => true | _ => false
def Th.isT : Th → Bool | .text _ => true | _ => false
/-- the number, 0 of all others -/
def Th.v : Th → Int | .num v => v | _ => 0
/-- the bytes of a text or of bytes -/
def Th.s : Th → List UInt8 | .text s => s | .bytes s => s | _ => []
/-- a number that may be one -/
def numE (v : Int) : Except Nat Th := if -9223372036854775808 ≤ v ∧ v < 18446744073709551616 then .ok (.num v) else .error 111
def textE (s : List UInt8) : Except Nat Th := if s.length ≤ 4096 then .ok (.text s) else .error 2
def rowL (l : List (List UInt8)) : List UInt8 := l.flatten
/-- a text so many times -/
def timesL (s : List UInt8) (n : Nat) : List UInt8 := (List.replicate n s).flatten
def repE' (s : List UInt8) (v : Int) : Except Nat Th := if v < 0 then .error 111 else if v.toNat * s.length ≤ 4096 then .ok (.text (timesL s v.toNat)) else .error 2
def hexE' (s : List UInt8) : Except Nat Th := match hexL s with
  | some t => .ok (.bytes t)
  | none => .error 111
def arithV (op : Int) (a b : Int) : Int := if op = 6 then a + b else if op = 7 then a - b else a * b
/-- what a node stands for over its kids -/
def ownV (x : Rn) (ts : List Th) : Except Nat Th :=
  if x.op = 1 then .ok (.num x.num)
  else if x.op = 2 then textE x.t
  else if x.op = 3 then .ok (.truth true)
  else if x.op = 4 then .ok (.truth false)
  else if x.op = 9 then (if ts.all Th.isT then textE (rowL (ts.map Th.s)) else .error 110)
  else match ts with
    | [a] =>
      if x.op = 5 then (match a with | .num v => numE (-v) | _ => .error 110)
      else if x.op = 11 then (match a with | .text s => .ok (.num s.length) | .bytes s => .ok (.num s.length) | _ => .error 110)
      else (match a with | .text s => hexE' s | _ => .error 110)
    | [a, b] =>
      if x.op = 10 then (match a, b with | .text s, .num v => repE' s v | _, _ => .error 110)
      else (match a, b with
        | .num v, .num u => numE (arithV x.op v u)
        | .text s, .text t => if x.op = 6 then textE (s ++ t) else .error 110
        | _, _ => .error 110)
    | _ => .error 110

/-- what stands there, or the first fault in it: its place, its error -/
abbrev Res := Except (Nat × Nat) Th
/-- all of them, or the first fault -/
def collect : List Res → Except (Nat × Nat) (List Th)
  | [] => .ok []
  | .error e :: _ => .error e
  | .ok t :: r => match collect r with
    | .error e => .error e
    | .ok ts => .ok (t :: ts)
/-- a node over its kids, the first one first -/
def combR (i : Nat) (x : Rn) (rs : List Res) : Res := match collect rs with
  | .error e => .error e
  | .ok ts => match ownV x ts with
    | .error e => .error (i, e)
    | .ok t => .ok t
/-- what stands for the pile's subtrees -/
def valsP (N : List Rn) : Nat → List Res
  | 0 => []
  | i + 1 => match N[i]? with
    | none => []
    | some x => match arity x with
      | none => []
      | some k => combR i x ((valsP N i).take k).reverse :: (valsP N i).drop k
/-- what the subtree stands for whose root stands there -/
def resAt (N : List Rn) (j : Nat) : Res := (valsP N (j + 1)).headD (.error (0, 0))
theorem vals_succ {N : List Rn} {i k : Nat} {x : Rn} (hx : N[i]? = some x) (ha : arity x = some k) : valsP N (i + 1) = combR i x ((valsP N i).take k).reverse :: (valsP N i).drop k := by
  conv => lhs; unfold valsP
  rw [hx]
  dsimp only
  rw [ha]
theorem vals_len {N : List Rn} : ∀ (i : Nat) (P : List Pe), pileP N i = some P → (valsP N i).length = P.length
  | 0, P, h => by cases h; rfl
  | i + 1, Q, h => by
    obtain ⟨P, x, k, hP, hx, ha, hk, rfl⟩ := pile_succ h
    rw [vals_succ hx ha]
    have := vals_len i P hP
    simp [this]
theorem res_at {N : List Rn} {i k : Nat} {x : Rn} (hx : N[i]? = some x) (ha : arity x = some k) : resAt N i = combR i x ((valsP N i).take k).reverse := by
  unfold resAt
  rw [vals_succ hx ha]
  rfl
/-- each of the pile's is what stands at its root -/
theorem vals_at {N : List Rn} : ∀ (i : Nat) (P : List Pe), pileP N i = some P → ∀ m (hm : m < P.length), (valsP N i)[m]? = some (resAt N P[m].r)
  | 0, P, h, m, hm => by cases h; simp at hm
  | i + 1, Q, h, m, hm => by
    obtain ⟨P, x, k, hP, hx, ha, hk, rfl⟩ := pile_succ h
    rw [vals_succ hx ha]
    cases m with
    | zero =>
      show some _ = some (resAt N i)
      rw [res_at hx ha]
    | succ m =>
      rw [List.getElem?_cons_succ, List.getElem?_drop]
      have hm' : k + m < P.length := by simp at hm; omega
      rw [vals_at i P hP (k + m) hm']
      simp only [List.getElem_cons_succ, List.getElem_drop]
/-- what stands for a node's kids, the first one first -/
def kidRes (N : List Rn) (P : List Pe) (k : Nat) : List Res := ((P.take k).map fun e => resAt N e.r).reverse
theorem kid_res {N : List Rn} {i k : Nat} {P : List Pe} (hP : pileP N i = some P) : ((valsP N i).take k).reverse = kidRes N P k := by
  unfold kidRes
  congr 1
  apply List.ext_getElem?
  intro m
  have hl := vals_len i P hP
  by_cases hm : m < k
  · rw [List.getElem?_take_of_lt hm, List.getElem?_map, List.getElem?_take_of_lt hm]
    by_cases hp : m < P.length
    · rw [vals_at i P hP m hp, List.getElem?_eq_getElem hp]
      rfl
    · rw [List.getElem?_eq_none (by omega), List.getElem?_eq_none (by omega)]
      rfl
  · rw [List.getElem?_eq_none (by simp; omega), List.getElem?_eq_none (by simp; omega)]

/-- the pile as one goes, or the first fault -/
def runP (N : List Rn) : Nat → Except (Nat × Nat) (List Th)
  | 0 => .ok []
  | i + 1 => match runP N i with
    | .error e => .error e
    | .ok T => match N[i]? with
      | none => .ok []
      | some x => match arity x with
        | none => .ok []
        | some k => match ownV x (T.take k).reverse with
          | .error e => .error (i, e)
          | .ok t => .ok (t :: T.drop k)
theorem collect_ok (l : List Th) : collect (l.map .ok) = .ok l := by
  induction l with
  | nil => rfl
  | cons a r ih => simp only [List.map_cons, collect, ih]
theorem collect_append (a b : List Res) : collect (a ++ b) = match collect a with
    | .error e => .error e
    | .ok s => match collect b with
      | .error e => .error e
      | .ok t => .ok (s ++ t) := by
  induction a with
  | nil =>
    simp only [List.nil_append, collect]
    cases collect b <;> rfl
  | cons x r ih =>
    cases x with
    | error e => rfl
    | ok t =>
      simp only [List.cons_append, collect]
      rw [ih]
      cases collect r with
      | error e => rfl
      | ok s =>
        dsimp only
        cases collect b <;> rfl
/-- going on to the first fault is looking for the first fault -/
theorem run_vals {N : List Rn} : ∀ (i : Nat) (P : List Pe), pileP N i = some P → match runP N i with
    | .ok T => valsP N i = T.map .ok
    | .error e => collect (valsP N i).reverse = .error e
  | 0, P, h => rfl
  | i + 1, Q, h => by
    obtain ⟨P, x, k, hP, hx, ha, hk, rfl⟩ := pile_succ h
    have ih := run_vals i P hP
    rw [vals_succ hx ha]
    unfold runP
    cases hr : runP N i with
    | error e =>
      rw [hr] at ih
      dsimp only at ih ⊢
      rw [List.reverse_cons]
      have hsp : (valsP N i).reverse = ((valsP N i).drop k).reverse ++ ((valsP N i).take k).reverse := by
        rw [← List.reverse_append, List.take_append_drop]
      rw [hsp, collect_append] at ih
      rw [collect_append]
      cases hd : collect ((valsP N i).drop k).reverse with
      | error e' => rw [hd] at ih; exact ih
      | ok s =>
        rw [hd] at ih
        dsimp only at ih ⊢
        cases ht : collect ((valsP N i).take k).reverse with
        | error e' =>
          rw [ht] at ih
          cases ih
          simp only [combR, ht, collect]
        | ok t => rw [ht] at ih; cases ih
    | ok T =>
      rw [hr] at ih
      dsimp only at ih ⊢
      rw [hx]
      dsimp only
      rw [ha]
      dsimp only
      have htk : ((valsP N i).take k).reverse = ((T.take k).reverse).map .ok := by rw [ih, List.map_reverse, List.map_take]
      have hdk : (valsP N i).drop k = (T.drop k).map .ok := by rw [ih, List.map_drop]
      cases ho : ownV x (T.take k).reverse with
      | error e =>
        dsimp only
        rw [List.reverse_cons, hdk, ← List.map_reverse, collect_append, collect_ok]
        dsimp only
        rw [htk]
        simp only [combR, collect_ok, ho, collect]
      | ok t =>
        dsimp only
        rw [htk, hdk]
        simp only [combR, collect_ok, ho, List.map_cons]

/-- the first of so many nodes that can't stand there, or is too deep -/
def badP (N : List Rn) : Nat → Option (Nat × Nat)
  | 0 => none
  | i + 1 => match badP N i with
    | some b => some b
    | none => match pileP N (i + 1) with
      | none => some (i, 1)
      | some [] => none
      | some (e :: _) => if 100 < e.dp then some (i, 91) else none
def chkP (N : List Rn) : Nat × Nat := match badP N N.length with
  | some b => b
  | none => match exprP N with
    | some _ => (0, 0)
    | none => (N.length, 1)
/-- what stands there as a value of a kind: its number, its text -/
def lastV (t : Th) (k : Int) : Except Nat (Nat × List UInt8) := match t with
  | .num v => if k = 1 then (if v < 0 then .error 111 else .ok (v.toNat, []))
    else if k = 2 then (if 9223372036854775808 ≤ v then .error 111 else .ok ((if v < 0 then v + 18446744073709551616 else v).toNat, []))
    else .error 110
  | .truth b => if k = 3 then .ok ((if b then 1 else 0), []) else .error 110
  | .text s => if k = 4 then (if okL s then .ok (0, s) else .error 111) else .error 110
  | .bytes s => if k = 5 then .ok (0, s) else .error 110
/-- a value, or none -/
structure Va where
  k : Int
  n : Nat
  s : List UInt8
  at_ : Nat
  e : Nat
deriving DecidableEq
def noneV (a e : Nat) : Va := ⟨0, 0, [], a, e⟩
def valV (N : List Rn) (k : Int) : Va :=
  if (chkP N).2 ≠ 0 then noneV (chkP N).1 (chkP N).2
  else if k < 1 ∨ 5 < k then noneV N.length 1
  else match resAt N (N.length - 1) with
    | .error (a, e) => noneV a e
    | .ok t => match lastV t k with
      | .error e => noneV (N.length - 1) e
      | .ok (n, s) => ⟨k, n, s, 0, 0⟩
end Go.Proofs.YtmbiompmhaiehaaDoor
