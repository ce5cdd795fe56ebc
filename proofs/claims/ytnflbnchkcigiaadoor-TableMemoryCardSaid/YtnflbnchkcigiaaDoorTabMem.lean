/- Columns, steps, versions, types: what they are, plainly, and how they lie in memory. No walk here. -/
import Derived.Test.YtnflbnchkcigiaaDoorTlvMem
import Derived.Test.YtnflbnchkcigiaaDoorRowsP
namespace Go.Proofs.YtnflbnchkcigiaaDoor
open Go.RowKit

/-- a column, a step -/
structure Co where
  n : ByteArray
  t : Int
  k : Int
structure Sp where
  k : Int
  a : Int
  b : Int
  c : Int
  s : ByteArray
  cv : Int
  v : Val
/-- a version and a type in memory: where their lists stand -/
structure Vm where
  st : List Sp
  As : Option Addr
  cs : Nat
  co : List Co
  Ac : Option Addr
  cc : Nat
structure Tm where
  n : ByteArray
  vs : List Vm
  A : Option Addr
  c : Nat
def coC (x : Co) : Array Value := #[.string x.n, .int .i64 x.t, .int .i64 x.k]
def spC (x : Sp) : Array Value := #[.int .i64 x.k, .int .i64 x.a, .int .i64 x.b, .int .i64 x.c, .string x.s, .int .i64 x.cv, .int .i64 x.v.k, .int .u64 x.v.n, .string x.v.s]
def vmC (m : Vm) : Array Value := #[.slice m.As m.st.length m.cs, .slice m.Ac m.co.length m.cc]
def tmC (m : Tm) : Array Value := #[.string m.n, .slice m.A m.vs.length m.c]
/-- columns below block B -/
abbrev CoR (w : World) (B : Nat) (A : Option Addr) (l : List Co) : Prop := Rows coC 3 w B A l
abbrev SpR (w : World) (B : Nat) (A : Option Addr) (l : List Sp) : Prop := Rows spC 9 w B A l
structure VmAt (w : World) (B : Nat) (m : Vm) : Prop where
  sr : SpR w B m.As m.st
  cr : CoR w B m.Ac m.co
  sl : m.st.length ≤ 140737488355328
  cl : m.co.length ≤ 140737488355328
  cc : m.co.length ≤ m.cc
structure TmAt (w : World) (B : Nat) (m : Tm) : Prop where
  row : Rows vmC 2 w B m.A m.vs
  each : ∀ x ∈ m.vs, VmAt w B x
  len : m.vs.length ≤ 140737488355328
  cap : m.vs.length ≤ m.c
structure HsAt (w : World) (B : Nat) (A : Option Addr) (l : List Tm) : Prop where
  row : Rows tmC 2 w B A l
  each : ∀ x ∈ l, TmAt w B x
  len : l.length ≤ 140737488355328
section
variable {w w' : World} {B B' : Nat} {A : Option Addr}
theorem CoR.cells {l : List Co} (h : CoR w B A l) {i : Nat} {x : Co} (hx : l[i]? = some x) : ∃ b o, A = some ⟨b, o, none⟩ ∧ b < B ∧
    w.cell? ⟨b, o + i * 3, none⟩ = some (.string x.n) ∧ w.cell? ⟨b, o + i * 3 + 1, none⟩ = some (.int .i64 x.t) ∧ w.cell? ⟨b, o + i * 3 + 2, none⟩ = some (.int .i64 x.k) := by
  obtain ⟨b, o, rfl, hb, hc⟩ := h.at_ hx
  exact ⟨b, o, rfl, hb, hc 0 _ rfl, hc 1 _ rfl, hc 2 _ rfl⟩
theorem SpR.cells {l : List Sp} (h : SpR w B A l) {i : Nat} {x : Sp} (hx : l[i]? = some x) : ∃ b o, A = some ⟨b, o, none⟩ ∧ b < B ∧
    w.cell? ⟨b, o + i * 9, none⟩ = some (.int .i64 x.k) ∧ w.cell? ⟨b, o + i * 9 + 1, none⟩ = some (.int .i64 x.a) ∧ w.cell? ⟨b, o + i * 9 + 2, none⟩ = some (.int .i64 x.b) ∧ w.cell? ⟨b, o + i * 9 + 3, none⟩ = some (.int .i64 x.c) ∧ w.cell? ⟨b, o + i * 9 + 4, none⟩ = some (.string x.s) ∧ w.cell? ⟨b, o + i * 9 + 5, none⟩ = some (.int .i64 x.cv) ∧ w.cell? ⟨b, o + i * 9 + 6, none⟩ = some (.int .i64 x.v.k) ∧ w.cell? ⟨b, o + i * 9 + 7, none⟩ = some (.int .u64 x.v.n) ∧ w.cell? ⟨b, o + i * 9 + 8, none⟩ = some (.string x.v.s) := by
  obtain ⟨b, o, rfl, hb, hc⟩ := h.at_ hx
  exact ⟨b, o, rfl, hb, hc 0 _ rfl, hc 1 _ rfl, hc 2 _ rfl, hc 3 _ rfl, hc 4 _ rfl, hc 5 _ rfl, hc 6 _ rfl, hc 7 _ rfl, hc 8 _ rfl⟩
theorem Vm.cells {l : List Vm} (h : Rows vmC 2 w B A l) {i : Nat} {x : Vm} (hx : l[i]? = some x) : ∃ b o, A = some ⟨b, o, none⟩ ∧ b < B ∧
    w.cell? ⟨b, o + i * 2, none⟩ = some (.slice x.As x.st.length x.cs) ∧ w.cell? ⟨b, o + i * 2 + 1, none⟩ = some (.slice x.Ac x.co.length x.cc) := by
  obtain ⟨b, o, rfl, hb, hc⟩ := h.at_ hx
  exact ⟨b, o, rfl, hb, hc 0 _ rfl, hc 1 _ rfl⟩
theorem Tm.cells {l : List Tm} (h : Rows tmC 2 w B A l) {i : Nat} {x : Tm} (hx : l[i]? = some x) : ∃ b o, A = some ⟨b, o, none⟩ ∧ b < B ∧
    w.cell? ⟨b, o + i * 2, none⟩ = some (.string x.n) ∧ w.cell? ⟨b, o + i * 2 + 1, none⟩ = some (.slice x.A x.vs.length x.c) := by
  obtain ⟨b, o, rfl, hb, hc⟩ := h.at_ hx
  exact ⟨b, o, rfl, hb, hc 0 _ rfl, hc 1 _ rfl⟩
theorem VmAt.below {m : Vm} (h : VmAt w B m) (hb : Below B w w') : VmAt w' B m := ⟨h.sr.below hb, h.cr.below hb, h.sl, h.cl, h.cc⟩
theorem TmAt.below {m : Tm} (h : TmAt w B m) (hb : Below B w w') : TmAt w' B m := ⟨h.row.below hb, fun x hx => (h.each x hx).below hb, h.len, h.cap⟩
theorem HsAt.below {l : List Tm} (h : HsAt w B A l) (hb : Below B w w') : HsAt w' B A l := ⟨h.row.below hb, fun x hx => (h.each x hx).below hb, h.len⟩
theorem VmAt.more {m : Vm} (h : VmAt w B m) (hB : B ≤ B') : VmAt w B' m := ⟨h.sr.more hB, h.cr.more hB, h.sl, h.cl, h.cc⟩
theorem TmAt.more {m : Tm} (h : TmAt w B m) (hB : B ≤ B') : TmAt w B' m := ⟨h.row.more hB, fun x hx => (h.each x hx).more hB, h.len, h.cap⟩
theorem HsAt.more {l : List Tm} (h : HsAt w B A l) (hB : B ≤ B') : HsAt w B' A l := ⟨h.row.more hB, fun x hx => (h.each x hx).more hB, h.len⟩
theorem CoR.then_ {l : List Co} (h : CoR w w.heap.size A l) (hb : Below w.heap.size w w') : CoR w' w'.heap.size A l := (h.below hb).more hb.size
theorem HsAt.then_ {l : List Tm} (h : HsAt w w.heap.size A l) (hb : Below w.heap.size w w') : HsAt w' w'.heap.size A l := (h.below hb).more hb.size
end

/-! ### alike, a beginning of -/
open Classical in
/-- as many, each fitting the one at its place -/
noncomputable def eqL {α β : Type} (p : α → β → Bool) (a : List α) (b : List β) : Bool := decide (a.length = b.length ∧ ∀ (k : Nat) (x : α) (y : β), a[k]? = some x → b[k]? = some y → p x y = true)
open Classical in
theorem eqL_len {α β : Type} {p : α → β → Bool} {a : List α} {b : List β} (h : a.length ≠ b.length) : eqL p a b = false := decide_eq_false fun e => h e.1
open Classical in
theorem eqL_at {α β : Type} {p : α → β → Bool} {a : List α} {b : List β} {k : Nat} {x : α} {y : β} (hx : a[k]? = some x) (hy : b[k]? = some y) (h : p x y = false) : eqL p a b = false := decide_eq_false fun e => by
  have := e.2 k x y hx hy
  rw [h] at this
  cases this
open Classical in
theorem eqL_all {α β : Type} {p : α → β → Bool} {a : List α} {b : List β} (hl : a.length = b.length) (h : ∀ (k : Nat) (x : α) (y : β), a[k]? = some x → b[k]? = some y → p x y = true) : eqL p a b = true := decide_eq_true ⟨hl, h⟩
open Classical in
theorem eqL_iff {α β : Type} {p : α → β → Bool} {a : List α} {b : List β} : eqL p a b = true ↔ a.length = b.length ∧ ∀ (k : Nat) (x : α) (y : β), a[k]? = some x → b[k]? = some y → p x y = true := decide_eq_true_iff
/-- what is known of the first k pairs -/
def UpL {α β : Type} (p : α → β → Bool) (a : List α) (b : List β) (k : Nat) : Prop := ∀ (i : Nat) (x : α) (y : β), i < k → a[i]? = some x → b[i]? = some y → p x y = true
theorem UpL.zero {α β : Type} {p : α → β → Bool} {a : List α} {b : List β} : UpL p a b 0 := fun _ _ _ h => absurd h (Nat.not_lt_zero _)
theorem UpL.next {α β : Type} {p : α → β → Bool} {a : List α} {b : List β} {k : Nat} {x : α} {y : β} (h : UpL p a b k) (hx : a[k]? = some x) (hy : b[k]? = some y) (hp : p x y = true) : UpL p a b (k + 1) := fun i u v hi hu hv => by
  rcases Nat.lt_or_ge i k with h1 | h1
  · exact h i u v h1 hu hv
  · obtain rfl : i = k := by omega
    rw [hx] at hu
    rw [hy] at hv
    cases hu
    cases hv
    exact hp
theorem UpL.all {α β : Type} {p : α → β → Bool} {a : List α} {b : List β} (h : UpL p a b a.length) (hl : a.length = b.length) : eqL p a b = true := eqL_all hl fun k x y hx hy => h k x y (List.getElem?_eq_some_iff.1 hx).1 hx hy

open Classical in
/-- the same -/
noncomputable def same {α : Type} (a b : α) : Bool := decide (a = b)
open Classical in
theorem same_self {α : Type} (a : α) : same a a = true := decide_eq_true rfl
open Classical in
theorem same_ne {α : Type} {a b : α} (h : a ≠ b) : same a b = false := decide_eq_false h
open Classical in
theorem same_iff {α : Type} {a b : α} : same a b = true ↔ a = b := decide_eq_true_iff
open Classical in
theorem eqL_same {α : Type} {a b : List α} : eqL same a b = same a b := by
  by_cases h : a = b
  · subst h
    rw [same_self]
    exact eqL_all rfl fun k x y hx hy => by rw [hx] at hy; cases hy; exact same_self _
  · rw [same_ne h]
    by_cases hl : a.length = b.length
    · refine decide_eq_false fun e => h (List.ext_getElem? fun i => ?_)
      rcases Nat.lt_or_ge i a.length with hi | hi
      · have h1 := List.getElem?_eq_getElem hi
        have h2 := List.getElem?_eq_getElem (l := b) (show i < b.length by omega)
        rw [h1, h2, same_iff.1 (e.2 i _ _ h1 h2)]
      · rw [List.getElem?_eq_none hi, List.getElem?_eq_none (by omega)]
    · exact eqL_len hl
/-- the first is a beginning of the second -/
noncomputable def begL {α : Type} (p : α → α → Bool) (a b : List α) : Bool := decide (a.length ≤ b.length) && eqL p a (b.take a.length)
/-- versions, types, histories -/
noncomputable def sameV (a b : Vm) : Bool := same a.st b.st && same a.co b.co
noncomputable def begT (a b : Tm) : Bool := same a.n b.n && begL sameV a.vs b.vs
noncomputable def extH (a b : List Tm) : Bool := begL begT a b
theorem begL_iff {α : Type} {p : α → α → Bool} {a b : List α} : begL p a b = true ↔ a.length ≤ b.length ∧ ∀ (k : Nat) (x y : α), a[k]? = some x → b[k]? = some y → p x y = true := by
  unfold begL
  rw [Bool.and_eq_true, decide_eq_true_iff, eqL_iff]
  constructor
  · rintro ⟨h1, _, h2⟩
    refine ⟨h1, fun k x y hx hy => h2 k x y hx ?_⟩
    rw [List.getElem?_take, if_pos (List.getElem?_eq_some_iff.1 hx).1]
    exact hy
  · rintro ⟨h1, h2⟩
    refine ⟨h1, by rw [List.length_take]; omega, fun k x y hx hy => h2 k x y hx ?_⟩
    rw [List.getElem?_take] at hy
    split at hy
    · exact hy
    · cases hy
theorem sameV_self (a : Vm) : sameV a a = true := by unfold sameV; rw [same_self, same_self]; rfl
theorem begL_self {α : Type} {p : α → α → Bool} (hp : ∀ x, p x x = true) (a : List α) : begL p a a = true := begL_iff.2 ⟨Nat.le_refl _, fun k x y hx hy => by rw [hx] at hy; cases hy; exact hp _⟩
theorem begT_self (a : Tm) : begT a a = true := by unfold begT; rw [same_self, begL_self sameV_self]; rfl
theorem extH_self (a : List Tm) : extH a a = true := begL_self begT_self a
theorem extH_nil (b : List Tm) : extH [] b = true := begL_iff.2 ⟨Nat.zero_le _, fun k x y hx => by simp at hx⟩
end Go.Proofs.YtnflbnchkcigiaaDoor
