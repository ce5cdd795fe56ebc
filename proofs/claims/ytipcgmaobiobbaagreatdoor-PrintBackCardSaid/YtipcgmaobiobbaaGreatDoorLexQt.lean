/- A text as one token, its bytes one by one: plain. No walk here. -/
import Derived.Test.YtipcgmaobiobbaaGreatDoorParGb
import Derived.Laws.OwnMore
namespace Go.Proofs.YtipcgmaobiobbaaGreatDoor
open Go.RowKit
open Go.Lib (byteCells)

theorem own_lit1 (w : World) (base : Nat) (hb : base ≤ w.heap.size) (x : UInt8) : OwnB (w.alloc (.cells #[.int .u8 (x.toNat : Nat)] 5)) base 5 (some ⟨w.heap.size, 0, none⟩) 1 [x] := World.ownsRow_lit w _ 1 hb (by decide) rfl
theorem lit_hexD (p : Nat) (h : p < 16) : (⟨#[48, 49, 50, 51, 52, 53, 54, 55, 56, 57, 97, 98, 99, 100, 101, 102]⟩ : ByteArray)[p]'h = qb.hexD p := by
  have : ∀ p : Fin 16, (⟨#[48, 49, 50, 51, 52, 53, 54, 55, 56, 57, 97, 98, 99, 100, 101, 102]⟩ : ByteArray)[(p : Nat)]'p.2 = qb.hexD p := by decide
  exact this ⟨p, h⟩
theorem wrap_u8q {x : Int} (h0 : 0 ≤ x) (h1 : x ≤ 255) : IntKind.u8.wrap x = x := by
  have h : IntKind.u8.wrap x = x % 256 := rfl
  rw [h]
  omega
theorem qb_esc {c : UInt8} (h : c.toNat = 92 ∨ c.toNat = 34) : qb c = [92, c] := by unfold qb; rw [if_pos h]
theorem qb_nl {c : UInt8} (h : c.toNat = 10) : qb c = [92, 110] := by unfold qb; rw [if_neg (by omega), if_pos h]
theorem qb_tab {c : UInt8} (h : c.toNat = 9) : qb c = [92, 116] := by unfold qb; rw [if_neg (by omega), if_neg (by omega), if_pos h]
theorem qb_self {c : UInt8} (h : ¬ (c.toNat = 92 ∨ c.toNat = 34)) (h2 : 32 ≤ c.toNat ∧ c.toNat ≤ 126) : qb c = [c] := by unfold qb; rw [if_neg h, if_neg (by omega), if_neg (by omega), if_pos h2]
theorem qb_hex {c : UInt8} (h : ¬ (c.toNat = 92 ∨ c.toNat = 34)) (h1 : c.toNat ≠ 10) (h3 : c.toNat ≠ 9) (h2 : ¬ (32 ≤ c.toNat ∧ c.toNat ≤ 126)) : qb c = [92, 120, qb.hexD (c.toNat / 16), qb.hexD (c.toNat % 16)] := by unfold qb; rw [if_neg h, if_neg h1, if_neg h3, if_neg h2]

/-- what the loop knows: what is written so far, and what is still to be written -/
def QInv (s : ByteArray) (pre : List UInt8) (k : Nat) : Prop := pre ++ qbs ((ls s).drop k) = 34 :: qbs (ls s)
theorem QInv.start (s : ByteArray) : QInv s [34] 0 := by unfold QInv; rw [List.drop_zero]; rfl
theorem QInv.end_ {s : ByteArray} {pre : List UInt8} {k : Nat} (h : QInv s pre k) (hk : s.size ≤ k) : pre ++ [34] = quoteL (ls s) := by
  unfold QInv at h
  rw [drop_end s hk] at h
  unfold quoteL
  rw [← List.cons_append, ← h]
  show _ = (pre ++ []) ++ [34]
  rw [List.append_nil]
theorem QInv.len {s : ByteArray} {pre : List UInt8} {k : Nat} (h : QInv s pre k) : pre.length ≤ 4 * s.size + 1 := by
  have e := congrArg List.length h
  rw [List.length_append, List.length_cons] at e
  have := (qbs_len (ls s)).2
  rw [ls_size] at this
  omega
theorem QInv.more {s : ByteArray} {pre : List UInt8} {k : Nat} (h : QInv s pre k) (hk : k < s.size) {c : UInt8} (hc : s[k]'hk = c) {l r : List UInt8} (hl : qb c = l) (hr : r = pre ++ l) : QInv s r (k + 1) := by
  unfold QInv at h ⊢
  rw [drop_at s hk, hc] at h
  have e : qbs (c :: (ls s).drop (k + 1)) = qb c ++ qbs ((ls s).drop (k + 1)) := rfl
  rw [e, hl, ← List.append_assoc, ← hr] at h
  exact h
end Go.Proofs.YtipcgmaobiobbaaGreatDoor
