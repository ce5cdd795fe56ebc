/- A character's bytes, number by number; their order. Plain. -/
import Derived.Test.YtijgcfnjbfaelaaDoorUtfPure
import Derived.WalkKit
namespace Go.Proofs.YtijgcfnjbfaelaaDoor
open Go.RowKit

theorem enc_form (C : Nat) (h : isC C) :
    (C ≤ 127 ∧ ∃ a : UInt8, Lib.encodeRune C = [a] ∧ a.toNat = C) ∨
    (128 ≤ C ∧ C ≤ 2047 ∧ ∃ a b : UInt8, Lib.encodeRune C = [a, b] ∧ a.toNat = 192 + C / 64 ∧ b.toNat = 128 + C % 64) ∨
    (2048 ≤ C ∧ C ≤ 65535 ∧ ∃ a b e : UInt8, Lib.encodeRune C = [a, b, e] ∧ a.toNat = 224 + C / 4096 ∧ b.toNat = 128 + C / 64 % 64 ∧ e.toNat = 128 + C % 64) ∨
    (65536 ≤ C ∧ ∃ a b e f : UInt8, Lib.encodeRune C = [a, b, e, f] ∧ a.toNat = 240 + C / 262144 ∧ b.toNat = 128 + C / 4096 % 64 ∧ e.toNat = 128 + C / 64 % 64 ∧ f.toNat = 128 + C % 64) := by
  obtain ⟨h0, h1, h2⟩ := h
  by_cases a1 : C ≤ 127
  · left
    exact ⟨a1, _, by unfold Lib.encodeRune; rw [Lib.encodeRuneZ_one h0 (by omega)]; rfl, u8 C C rfl (by omega)⟩
  · right
    by_cases a2 : C ≤ 2047
    · left
      exact ⟨by omega, a2, _, _, by unfold Lib.encodeRune; rw [Lib.encodeRuneZ_two (by omega) (by omega)]; rfl, u8 _ _ (by omega) (by omega), u8 _ _ (by omega) (by omega)⟩
    · right
      by_cases a3 : C ≤ 65535
      · left
        exact ⟨by omega, a3, _, _, _, by unfold Lib.encodeRune; rw [Lib.encodeRuneZ_three (by omega)]; rfl, u8 _ _ (by omega) (by omega), u8 _ _ (by omega) (by omega), u8 _ _ (by omega) (by omega)⟩
      · right
        exact ⟨by omega, _, _, _, _, by unfold Lib.encodeRune; rw [Lib.encodeRuneZ_four (by omega) (by omega)]; rfl, u8 _ _ (by omega) (by omega), u8 _ _ (by omega) (by omega), u8 _ _ (by omega) (by omega), u8 _ _ (by omega) (by omega)⟩

theorem bl_lt {a b : UInt8} {x y : List UInt8} (h : a.toNat < b.toNat) : Op.bytesLess (a :: x) (b :: y) = true := by
  have : a < b := UInt8.lt_iff_toNat_lt.2 h
  simp [Op.bytesLess, this]
theorem bl_eq {a b : UInt8} {x y : List UInt8} (h : a.toNat = b.toNat) (g : Op.bytesLess x y = true) : Op.bytesLess (a :: x) (b :: y) = true := by
  have : a = b := UInt8.toNat_inj.1 h
  simp [Op.bytesLess, this, g]
theorem bl_two {a b c d : UInt8} {x y : List UInt8} (h : a.toNat < b.toNat ∨ (a.toNat = b.toNat ∧ c.toNat < d.toNat)) : Op.bytesLess (a :: c :: x) (b :: d :: y) = true := by
  rcases h with h | ⟨h, g⟩
  · exact bl_lt h
  · exact bl_eq h (bl_lt g)
theorem bl_three {a b c d e f : UInt8} {x y : List UInt8} (h : a.toNat < b.toNat ∨ (a.toNat = b.toNat ∧ (c.toNat < d.toNat ∨ (c.toNat = d.toNat ∧ e.toNat < f.toNat)))) : Op.bytesLess (a :: c :: e :: x) (b :: d :: f :: y) = true := by
  rcases h with h | ⟨h, g⟩
  · exact bl_lt h
  · exact bl_eq h (bl_two g)
theorem bl_four {a b c d e f g i : UInt8} {x y : List UInt8} (h : a.toNat < b.toNat ∨ (a.toNat = b.toNat ∧ (c.toNat < d.toNat ∨ (c.toNat = d.toNat ∧ (e.toNat < f.toNat ∨ (e.toNat = f.toNat ∧ g.toNat < i.toNat)))))) : Op.bytesLess (a :: c :: e :: g :: x) (b :: d :: f :: i :: y) = true := by
  rcases h with h | ⟨h, g⟩
  · exact bl_lt h
  · exact bl_eq h (bl_three g)

theorem enc_lt (c d : Int) (hc : isC c) (hd : isC d) (hcd : c < d) : Op.bytesLess (Lib.encodeRune c) (Lib.encodeRune d) = true := by
  obtain ⟨C, rfl⟩ : ∃ C : Nat, c = C := ⟨c.toNat, by have := hc.1; omega⟩
  obtain ⟨D, rfl⟩ : ∃ D : Nat, d = D := ⟨d.toNat, by have := hd.1; omega⟩
  have hCD : C < D := by omega
  have hC1 := hc.2.1
  have hD1 := hd.2.1
  rcases enc_form C hc with ⟨k, a, ea, ha⟩ | ⟨k, k', a, b, ea, ha, hb⟩ | ⟨k, k', a, b, e, ea, ha, hb, he⟩ | ⟨k, a, b, e, f, ea, ha, hb, he, hf⟩ <;>
  rcases enc_form D hd with ⟨l, x, ex, hx⟩ | ⟨l, l', x, y, ex, hx, hy⟩ | ⟨l, l', x, y, z, ex, hx, hy, hz⟩ | ⟨l, x, y, z, v, ex, hx, hy, hz, hv⟩ <;>
  rw [ea, ex] <;>
  first
    | exact bl_lt (by omega)
    | exact bl_two (by omega)
    | exact bl_three (by omega)
    | exact bl_four (by omega)
    | omega
theorem enc_apart (c d : Int) (hc : isC c) (hd : isC d) (hcd : c ≠ d) : (Lib.encodeRune d).take (Lib.encodeRune c).length ≠ Lib.encodeRune c := by
  intro h
  have e1 := nx_put d [] hd
  have e2 := nx_put c ((Lib.encodeRune d).drop (Lib.encodeRune c).length) hc
  have e3 : Lib.encodeRune c ++ (Lib.encodeRune d).drop (Lib.encodeRune c).length = Lib.encodeRune d := by
    have := List.take_append_drop (Lib.encodeRune c).length (Lib.encodeRune d)
    rwa [h] at this
  rw [e3] at e2
  rw [List.append_nil, e2] at e1
  simp only [Prod.mk.injEq] at e1
  exact hcd e1.1
end Go.Proofs.YtijgcfnjbfaelaaDoor
