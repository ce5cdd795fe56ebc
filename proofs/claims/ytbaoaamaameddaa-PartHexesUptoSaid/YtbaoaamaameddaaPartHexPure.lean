/- Bytes written as digits of base 16, and one of them spoilt. No walk here. -/
import Derived.Test.YtbaoaamaameddaaPartPure
namespace Go.Proofs.Ytbaoaamaameddaa
open Go.RowKit

/-- a digit, small or great -/
def dgt (b : Bool) (p : Nat) : UInt8 := if p < 10 then UInt8.ofNat (48 + p) else if b then UInt8.ofNat (55 + p) else UInt8.ofNat (87 + p)
theorem dv_dgt (b : Bool) {p : Nat} (h : p < 16) : dv (dgt b p).toNat = p := by
  have : ∀ b : Bool, ∀ p : Fin 16, dv (dgt b p).toNat = p := by decide
  exact this b ⟨p, h⟩

/-- the digits of bytes -/
def encL (b : Bool) : List UInt8 → List UInt8
  | [] => []
  | x :: r => dgt b (x.toNat / 16) :: dgt b (x.toNat % 16) :: encL b r
theorem encL_len (b : Bool) (l : List UInt8) : (encL b l).length = 2 * l.length := by
  induction l with
  | nil => rfl
  | cons x r ih => simp only [encL, List.length_cons, ih]; omega
theorem encL_append (b : Bool) (l r : List UInt8) : encL b (l ++ r) = encL b l ++ encL b r := by
  induction l with
  | nil => rfl
  | cons x l ih => simp only [List.cons_append, encL, ih]
theorem encL_take (b : Bool) (l : List UInt8) (k : Nat) (h : k < l.length) : encL b (l.take (k + 1)) = encL b (l.take k) ++ [dgt b (l[k].toNat / 16), dgt b (l[k].toNat % 16)] := by
  rw [List.take_succ_eq_append_getElem h, encL_append]
  rfl
theorem hexL_enc (b : Bool) (l : List UInt8) : hexL (encL b l) = some l := by
  induction l with
  | nil => rfl
  | cons x r ih =>
    have hx := x.toNat_lt
    have h1 := dv_dgt b (p := x.toNat / 16) (by omega)
    have h2 := dv_dgt b (p := x.toNat % 16) (by omega)
    unfold encL hexL
    rw [h1, h2, if_neg (by omega), ih, Option.map_some]
    congr 2
    rw [show 16 * (x.toNat / 16) + x.toNat % 16 = x.toNat by omega]
    simp
theorem hexL_more (b : Bool) (l : List UInt8) (x : UInt8) : hexL (encL b l ++ [x]) = none := hexL_odd (by rw [List.length_append, encL_len]; simp)

/-- a byte that is no digit -/
theorem hexL_bad : ∀ {l : List UInt8} (k : Nat) (h : k < l.length), dv l[k].toNat = 16 → hexL l = none
  | [], _, h, _ => absurd h (Nat.not_lt_zero _)
  | [_], _, _, _ => rfl
  | a :: b :: r, k, h, hd => by
    unfold hexL
    match k, h, hd with
    | 0, _, hd => rw [if_pos (.inl hd)]
    | 1, _, hd => rw [if_pos (.inr hd)]
    | k + 2, h, hd =>
      have hk : k < r.length := by simp only [List.length_cons] at h; omega
      rw [hexL_bad (l := r) k hk hd]
      simp
theorem hexL_set (l : List UInt8) (k : Nat) (h : k < l.length) (x : UInt8) (hd : dv x.toNat = 16) : hexL (l.set k x) = none :=
  hexL_bad k (by rw [List.length_set]; exact h) (by rw [List.getElem_set_self]; exact hd)

/-- whether a byte is a digit, as the statement asks it -/
theorem dv_digit (c : Nat) : dv c ≠ 16 ↔ (48 ≤ c ∧ c ≤ 57) ∨ (97 ≤ c ∧ c ≤ 102) ∨ (65 ≤ c ∧ c ≤ 70) := by
  unfold dv
  split
  · omega
  · split
    · omega
    · split <;> omega
end Go.Proofs.Ytbaoaamaameddaa
