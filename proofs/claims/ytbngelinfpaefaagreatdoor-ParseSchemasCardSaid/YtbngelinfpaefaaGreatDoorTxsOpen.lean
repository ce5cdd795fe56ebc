/- A row of texts that came in: as it reads, and opened out of an argument. -/
import Derived.Test.YtbngelinfpaefaaGreatDoorBytOpen
import Derived.Test.YtbngelinfpaefaaGreatDoorStructs
import Derived.SliceStrings
namespace Go.Proofs.YtbngelinfpaefaaGreatDoor
open Go.ChangeShapes Go.WideShapes Go.RowKit

/-- At the address A stand the texts ss, below block B. -/
def Txs (w : World) (B : Nat) (A : Option Addr) (ss : List ByteArray) : Prop :=
  ss = [] ∨ ∃ b o, A = some ⟨b, o, none⟩ ∧ b < B ∧ ∀ j (h : j < ss.length), w.cell? ⟨b, o + j, none⟩ = some (.string ss[j])
section
variable {w w' : World} {B : Nat} {A : Option Addr} {ss : List ByteArray}
theorem Txs.at_ (h : Txs w B A ss) (hl : 0 < ss.length) : ∃ b o, A = some ⟨b, o, none⟩ ∧ b < B ∧ ∀ j (h : j < ss.length), w.cell? ⟨b, o + j, none⟩ = some (.string ss[j]) := by
  rcases h with rfl | h
  · simp at hl
  · exact h
theorem Txs.below (h : Txs w B A ss) (hb : Below B w w') : Txs w' B A ss := by
  rcases h with rfl | ⟨b, o, rfl, hB, hc⟩
  · exact .inl rfl
  · exact .inr ⟨b, o, rfl, hB, fun j hj => (hb.cell (p := ⟨b, o + j, none⟩) hB).trans (hc j hj)⟩
theorem Txs.grow {B' : Nat} (h : Txs w B A ss) (hB : B ≤ B') : Txs w B' A ss := by
  rcases h with rfl | ⟨b, o, rfl, hb, hc⟩
  · exact .inl rfl
  · exact .inr ⟨b, o, rfl, by omega, hc⟩
end
theorem open_texts {H : Type} {enc : TypeId × Value → H} {P : Program} {W : World} {t e : TypeId} {base : Nat} {v : Value} {d : DataW H} {p : List MemPlace} (ht : P.underlying t = some (.slice e)) (he : P.underlying e = some .string) (hc : P.cellsOf e = 1)
    (hval : Value.okWide P W .any base t v) (h : DataW.Trod enc P W 0 (fun _ => true) true t v d p) :
    ∃ A c ss, v = .slice A (List.length (α := ByteArray) ss) c ∧ ss.length ≤ c ∧ c ≤ maxLen ∧ Txs W W.heap.size A ss ∧ ∀ s ∈ ss, s.size ∈ d.weights P t := by
  obtain ⟨a1, len, cap, rfl⟩ := okWide_slice ht hval
  obtain ⟨fuel, hf⟩ := h
  rcases open_strings ht he hc hf with ⟨hcs, hx⟩ | ⟨a, len', cap', ss, hcs, _, hl, hm, hz, hx, hcell, hws⟩
  · simp [Value.cells] at hcs
    obtain ⟨rfl, rfl, rfl⟩ := hcs
    exact ⟨none, 0, [], rfl, Nat.le_refl _, Nat.zero_le _, .inl rfl, by simp⟩
  · simp [Value.cells] at hcs
    obtain ⟨rfl, rfl, rfl⟩ := hcs
    simp only [if_true] at hz
    have hlen : (ss.take len).length = len := by simp; omega
    refine ⟨some a, cap, ss.take len, by rw [hlen], by omega, hm, ?_, fun s hs => ?_⟩
    rotate_left
    · simp only [Prod.mk.injEq] at hx
      rw [hx.1]
      simp only [DataW.weights, ht, List.mem_cons, List.mem_append]
      refine .inr (.inl (weights_all (d := .lit (.string s.data.toList)) (List.mem_map.2 ⟨s, hs, rfl⟩) ?_))
      have : s.data.toList.length = s.size := Array.length_toList
      rw [← this]
      exact weight_string
    rcases Nat.eq_zero_or_pos len with h0 | h0
    · exact .inl (List.eq_nil_of_length_eq_zero (by omega))
    · obtain ⟨ab, ao, spot⟩ := a
      have hspot : spot = none := by simpa [Addr.add] using World.cell?_spot (hcell 0 (by omega))
      subst hspot
      have hb : ab < W.heap.size := by
        have := World.block_lt_of_cell? W _ (hcell 0 (by omega))
        simpa [Addr.add] using this
      refine .inr ⟨ab, ao, rfl, hb, fun j hj => ?_⟩
      have hj2 : j < ss.length := by omega
      have := hcell j hj2
      rw [Addr.add_lit, List.getD_eq_getElem?_getD, List.getElem?_eq_getElem hj2] at this
      rw [List.getElem_take]
      exact this
end Go.Proofs.YtbngelinfpaefaaGreatDoor
