/- What is true of the kinds, in plain words: names, what is valid, the order. No walk here. -/
import Derived.Test.YtijgcfnjbfaelaaDoorUtfPure
import Derived.Lib.Bytealg
import Derived.Lib.Small
import Derived.Sort.Walk0
namespace Go.Proofs.YtijgcfnjbfaelaaDoor
open Go.Lib (compareBytes compareInt)

/-- a value's parts -/
structure Val where
  k : Int
  n : Int
  s : ByteArray

/-- the bytes of the five names -/
def nUint : List UInt8 := [117, 105, 110, 116]
def nInt : List UInt8 := [105, 110, 116]
def nBool : List UInt8 := [98, 111, 111, 108]
def nText : List UInt8 := [116, 101, 120, 116]
def nBytes : List UInt8 := [98, 121, 116, 101, 115]
/-- a kind's name -/
def nameL (k : Int) : List UInt8 :=
  if k = 1 then nUint else if k = 2 then nInt else if k = 3 then nBool else if k = 4 then nText else if k = 5 then nBytes else []
/-- the number of the kind of this name -/
def ofL (l : List UInt8) : Int :=
  if l = nUint then 1 else if l = nInt then 2 else if l = nBool then 3 else if l = nText then 4 else if l = nBytes then 5 else 0

/-- what is valid -/
def okV (v : Val) : Bool :=
  if v.k = 1 ∨ v.k = 2 then decide (v.s.size = 0)
  else if v.k = 3 then decide (v.n ≤ 1) && decide (v.s.size = 0)
  else if v.k = 4 then decide (v.n = 0) && okL v.s.data.toList
  else if v.k = 5 then decide (v.n = 0)
  else false

/-- the number with a sign that 64 bits are -/
def sgn (n : Int) : Int := if 9223372036854775808 ≤ n then n - 18446744073709551616 else n
/-- the number by which a value of this kind is ordered -/
def key (k n : Int) : Int := if k = 2 then sgn n else n
def cmpN (k a b : Int) : Int := compareInt (key k a) (key k b)
/-- the order -/
def ordV (a b : Val) : Int :=
  if compareInt a.k b.k ≠ 0 then compareInt a.k b.k
  else if cmpN a.k a.n b.n ≠ 0 then cmpN a.k a.n b.n
  else compareBytes a.s.data.toList b.s.data.toList

theorem ci_eq (x y : Int) : compareInt x y = if x < y then -1 else if y < x then 1 else 0 := rfl
theorem ci_neg (x y : Int) : compareInt y x = - compareInt x y := by
  rw [ci_eq, ci_eq]; split <;> split <;> first | omega | rfl | (split <;> omega)
theorem ci_three (x y : Int) : (compareInt x y = -1 ∧ x < y) ∨ (compareInt x y = 0 ∧ x = y) ∨ (compareInt x y = 1 ∧ y < x) := by
  rw [ci_eq]
  rcases Int.lt_trichotomy x y with h | h | h
  · left; rw [if_pos h]; exact ⟨rfl, h⟩
  · right; left; rw [if_neg (by omega), if_neg (by omega)]; exact ⟨rfl, h⟩
  · right; right; rw [if_neg (by omega), if_pos h]; exact ⟨rfl, h⟩

theorem cb_three : ∀ (x y : List UInt8), (compareBytes x y = -1 ∧ x < y) ∨ (compareBytes x y = 0 ∧ x = y) ∨ (compareBytes x y = 1 ∧ y < x)
  | [], [] => .inr (.inl ⟨rfl, rfl⟩)
  | [], b :: bs => .inl ⟨rfl, List.nil_lt_cons b bs⟩
  | a :: r, [] => .inr (.inr ⟨rfl, List.nil_lt_cons a r⟩)
  | a :: r, b :: bs => by
    unfold compareBytes
    by_cases h : a < b
    · left; rw [if_pos h]; exact ⟨rfl, List.cons_lt_cons_iff.2 (.inl h)⟩
    · by_cases g : b < a
      · right; right; rw [if_neg h, if_pos g]; exact ⟨rfl, List.cons_lt_cons_iff.2 (.inl g)⟩
      · have e : a = b := UInt8.le_antisymm (UInt8.not_lt.1 g) (UInt8.not_lt.1 h)
        subst e
        rw [if_neg h, if_neg g]
        rcases cb_three r bs with ⟨q, u⟩ | ⟨q, u⟩ | ⟨q, u⟩
        · left; exact ⟨q, List.cons_lt_cons_iff.2 (.inr ⟨rfl, u⟩)⟩
        · right; left; exact ⟨q, by rw [u]⟩
        · right; right; exact ⟨q, List.cons_lt_cons_iff.2 (.inr ⟨rfl, u⟩)⟩
theorem ll_irrefl (x : List UInt8) : ¬ x < x := List.lt_irrefl x
theorem ll_trans {x y z : List UInt8} (h : x < y) (g : y < z) : x < z := List.lt_trans h g
theorem ll_asymm {x y : List UInt8} (h : x < y) : ¬ y < x := fun g => ll_irrefl x (ll_trans h g)

/-- one value ahead of the other, in plain words -/
def Ahead (a b : Val) : Prop :=
  a.k < b.k ∨ (a.k = b.k ∧ (key a.k a.n < key a.k b.n ∨ (key a.k a.n = key a.k b.n ∧ a.s.data.toList < b.s.data.toList)))
def Alike (a b : Val) : Prop := a.k = b.k ∧ key a.k a.n = key a.k b.n ∧ a.s.data.toList = b.s.data.toList
theorem ord_three (a b : Val) : (ordV a b = -1 ∧ Ahead a b) ∨ (ordV a b = 0 ∧ Alike a b) ∨ (ordV a b = 1 ∧ Ahead b a) := by
  unfold ordV Ahead Alike cmpN
  rcases ci_three a.k b.k with ⟨h, g⟩ | ⟨h, g⟩ | ⟨h, g⟩
  · left; rw [h]; exact ⟨by simp, .inl g⟩
  · rw [h, if_neg (by simp), ← g]
    rcases ci_three (key a.k a.n) (key a.k b.n) with ⟨h1, g1⟩ | ⟨h1, g1⟩ | ⟨h1, g1⟩
    · left; rw [h1]; exact ⟨by simp, .inr ⟨rfl, .inl g1⟩⟩
    · rw [h1, if_neg (by simp)]
      rcases cb_three a.s.data.toList b.s.data.toList with ⟨h2, g2⟩ | ⟨h2, g2⟩ | ⟨h2, g2⟩
      · left; exact ⟨h2, .inr ⟨rfl, .inr ⟨g1, g2⟩⟩⟩
      · right; left; exact ⟨h2, rfl, g1, g2⟩
      · right; right; exact ⟨h2, .inr ⟨rfl, .inr ⟨g1.symm, g2⟩⟩⟩
    · right; right; rw [h1]; exact ⟨by simp, .inr ⟨rfl, .inl g1⟩⟩
  · right; right; rw [h]; exact ⟨by simp, .inl g⟩
theorem ahead_not {a b : Val} (h : Ahead a b) : ¬ Ahead b a := by
  unfold Ahead at *
  intro g
  rcases h with h | ⟨h, h1⟩
  · rcases g with g | ⟨g, _⟩ <;> omega
  · rcases g with g | ⟨g, g1⟩
    · omega
    · rw [g] at g1
      rcases h1 with h1 | ⟨h1, h2⟩ <;> rcases g1 with g1 | ⟨g1, g2⟩ <;> first | omega | exact ll_asymm h2 g2
theorem alike_not {a b : Val} (h : Alike a b) : ¬ Ahead a b := by
  unfold Ahead Alike at *
  obtain ⟨h, h1, h2⟩ := h
  intro g
  rcases g with g | ⟨_, g | ⟨_, g⟩⟩
  · omega
  · omega
  · rw [h2] at g; exact ll_irrefl _ g
theorem alike_symm {a b : Val} (h : Alike a b) : Alike b a := by
  unfold Alike at *
  obtain ⟨h, h1, h2⟩ := h
  exact ⟨h.symm, by rw [← h]; exact h1.symm, h2.symm⟩
theorem ord_neg (a b : Val) : ordV b a = - ordV a b := by
  rcases ord_three a b with ⟨h, g⟩ | ⟨h, g⟩ | ⟨h, g⟩ <;> rcases ord_three b a with ⟨h1, g1⟩ | ⟨h1, g1⟩ | ⟨h1, g1⟩
  · exact absurd g1 (ahead_not g)
  · exact absurd g (alike_not (alike_symm g1))
  · omega
  · exact absurd g1 (alike_not (alike_symm g))
  · omega
  · exact absurd g1 (alike_not g)
  · omega
  · exact absurd g (alike_not g1)
  · exact absurd g1 (ahead_not g)
theorem ahead_trans {a b c : Val} (h : Ahead a b) (g : Ahead b c) : Ahead a c := by
  unfold Ahead at *
  rcases h with h | ⟨h, h1⟩
  · left; rcases g with g | ⟨g, _⟩ <;> omega
  · rcases g with g | ⟨g, g1⟩
    · left; omega
    · rw [← h] at g1
      right
      refine ⟨by omega, ?_⟩
      rcases h1 with h1 | ⟨h1, h2⟩ <;> rcases g1 with g1 | ⟨g1, g2⟩
      · left; omega
      · left; omega
      · left; omega
      · right; exact ⟨by omega, ll_trans h2 g2⟩
theorem alike_ahead {a b c : Val} (h : Alike a b) (g : Ahead b c) : Ahead a c := by
  unfold Ahead Alike at *
  obtain ⟨h, h1, h2⟩ := h
  rw [← h] at g
  rw [← h1, ← h2] at g
  exact g
theorem ahead_alike {a b c : Val} (h : Ahead a b) (g : Alike b c) : Ahead a c := by
  unfold Ahead Alike at *
  obtain ⟨g, g1, g2⟩ := g
  rcases h with h | ⟨h, h1⟩
  · left; omega
  · right
    rw [← h] at g1
    rw [← g1, ← g2]
    exact ⟨by omega, h1⟩
theorem alike_trans {a b c : Val} (h : Alike a b) (g : Alike b c) : Alike a c := by
  unfold Alike at *
  obtain ⟨h, h1, h2⟩ := h
  obtain ⟨g, g1, g2⟩ := g
  rw [← h] at g1
  exact ⟨by omega, by omega, h2.trans g2⟩
theorem ord_range (a b : Val) : -1 ≤ ordV a b ∧ ordV a b ≤ 1 := by
  rcases ord_three a b with ⟨h, _⟩ | ⟨h, _⟩ | ⟨h, _⟩ <;> omega
/-- it goes on from the first to the third through the second -/
theorem ord_trans (a b c : Val) : (ordV a b ≤ 0 → ordV b c ≤ 0 → ordV a c ≤ 0) ∧ (ordV a b < 0 → ordV b c ≤ 0 → ordV a c < 0) ∧ (ordV a b ≤ 0 → ordV b c < 0 → ordV a c < 0) := by
  rcases ord_three a b with ⟨h, g⟩ | ⟨h, g⟩ | ⟨h, g⟩ <;> rcases ord_three b c with ⟨h1, g1⟩ | ⟨h1, g1⟩ | ⟨h1, g1⟩ <;> rcases ord_three a c with ⟨h2, g2⟩ | ⟨h2, g2⟩ | ⟨h2, g2⟩ <;> refine ⟨fun x y => ?_, fun x y => ?_, fun x y => ?_⟩ <;> first | omega | (exfalso; first
    | exact ahead_not g2 (ahead_trans g g1) | exact alike_not g2 (ahead_trans g g1) | exact ahead_not g2 (ahead_alike g g1) | exact alike_not g2 (ahead_alike g g1)
    | exact ahead_not g2 (alike_ahead g g1) | exact alike_not g2 (alike_ahead g g1) | exact alike_not (alike_symm (alike_trans g g1)) g2)

theorem sgn_inj {a b : Int} (ha : 0 ≤ a ∧ a ≤ 18446744073709551615) (hb : 0 ≤ b ∧ b ≤ 18446744073709551615) (h : sgn a = sgn b) : a = b := by
  unfold sgn at h
  split at h <;> split at h <;> omega
theorem key_inj {k a b : Int} (ha : 0 ≤ a ∧ a ≤ 18446744073709551615) (hb : 0 ≤ b ∧ b ≤ 18446744073709551615) (h : key k a = key k b) : a = b := by
  unfold key at h
  split at h
  · exact sgn_inj ha hb h
  · exact h
theorem ord_zero {a b : Val} (ha : 0 ≤ a.n ∧ a.n ≤ 18446744073709551615) (hb : 0 ≤ b.n ∧ b.n ≤ 18446744073709551615) : ordV a b = 0 ↔ a.k = b.k ∧ a.n = b.n ∧ a.s = b.s := by
  constructor
  · intro h
    rcases ord_three a b with ⟨h1, _⟩ | ⟨_, g, g1, g2⟩ | ⟨h1, _⟩
    · omega
    · exact ⟨g, key_inj ha hb g1, ByteArray.ext (Array.toList_inj.1 g2)⟩
    · omega
  · rintro ⟨g, g1, g2⟩
    rcases ord_three a b with ⟨h1, h2⟩ | ⟨h1, _⟩ | ⟨h1, h2⟩
    · exact absurd h2 (alike_not ⟨g, by rw [g1], by rw [g2]⟩)
    · exact h1
    · exact absurd h2 (alike_not (alike_symm ⟨g, by rw [g1], by rw [g2]⟩))

/-- names and numbers, there and back -/
theorem of_cases (l : List UInt8) : (l = nUint ∧ ofL l = 1) ∨ (l = nInt ∧ ofL l = 2) ∨ (l = nBool ∧ ofL l = 3) ∨ (l = nText ∧ ofL l = 4) ∨ (l = nBytes ∧ ofL l = 5) ∨ (l ≠ nUint ∧ l ≠ nInt ∧ l ≠ nBool ∧ l ≠ nText ∧ l ≠ nBytes ∧ ofL l = 0) := by
  by_cases h1 : l = nUint
  · subst h1; exact .inl ⟨rfl, by decide⟩
  by_cases h2 : l = nInt
  · subst h2; exact .inr (.inl ⟨rfl, by decide⟩)
  by_cases h3 : l = nBool
  · subst h3; exact .inr (.inr (.inl ⟨rfl, by decide⟩))
  by_cases h4 : l = nText
  · subst h4; exact .inr (.inr (.inr (.inl ⟨rfl, by decide⟩)))
  by_cases h5 : l = nBytes
  · subst h5; exact .inr (.inr (.inr (.inr (.inl ⟨rfl, by decide⟩))))
  refine .inr (.inr (.inr (.inr (.inr ⟨h1, h2, h3, h4, h5, ?_⟩))))
  unfold ofL
  rw [if_neg h1, if_neg h2, if_neg h3, if_neg h4, if_neg h5]
theorem name_of (l : List UInt8) (h : ofL l ≠ 0) : nameL (ofL l) = l := by
  rcases of_cases l with ⟨g, e⟩ | ⟨g, e⟩ | ⟨g, e⟩ | ⟨g, e⟩ | ⟨g, e⟩ | ⟨_, _, _, _, _, e⟩
  · rw [e, g]; decide
  · rw [e, g]; decide
  · rw [e, g]; decide
  · rw [e, g]; decide
  · rw [e, g]; decide
  · exact absurd e h
theorem name_none (k : Int) : nameL k = [] ↔ (k < 1 ∨ 5 < k) := by
  unfold nameL
  constructor
  · intro h
    split at h
    · exact absurd h (by decide)
    · split at h
      · exact absurd h (by decide)
      · split at h
        · exact absurd h (by decide)
        · split at h
          · exact absurd h (by decide)
          · split at h
            · exact absurd h (by decide)
            · omega
  · intro h
    rw [if_neg (by omega), if_neg (by omega), if_neg (by omega), if_neg (by omega), if_neg (by omega)]
theorem of_name (k : Int) (h : nameL k ≠ []) : ofL (nameL k) = k := by
  have h1 : ¬ (k < 1 ∨ 5 < k) := fun g => h ((name_none k).2 g)
  have h2 : k = 1 ∨ k = 2 ∨ k = 3 ∨ k = 4 ∨ k = 5 := by omega
  rcases h2 with rfl | rfl | rfl | rfl | rfl <;> decide
theorem of_range (l : List UInt8) : 0 ≤ ofL l ∧ ofL l ≤ 5 := by
  unfold ofL
  repeat' split
  all_goals omega
end Go.Proofs.YtijgcfnjbfaelaaDoor
