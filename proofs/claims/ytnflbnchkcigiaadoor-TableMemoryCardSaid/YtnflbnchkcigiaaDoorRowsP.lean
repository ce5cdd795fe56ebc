/- Rows of structs in memory. No walk here. -/
import Derived.Test.YtnflbnchkcigiaaDoorTaGa
namespace Go.Proofs.YtnflbnchkcigiaaDoor
open Go.RowKit

/-- rows of structs below block B -/
def Rows {α : Type} (f : α → Array Value) (s : Nat) (w : World) (B : Nat) (A : Option Addr) (l : List α) : Prop :=
  l = [] ∨ ∃ b o, A = some ⟨b, o, none⟩ ∧ b < B ∧ ∀ i x, l[i]? = some x → ∀ j v, (f x)[j]? = some v → w.cell? ⟨b, o + i * s + j, none⟩ = some v
section
variable {α : Type} {f : α → Array Value} {s : Nat} {w w' : World} {B B' : Nat} {A : Option Addr} {l : List α}
theorem Rows.below (h : Rows f s w B A l) (hb : Below B w w') : Rows f s w' B A l := by
  rcases h with h | ⟨b, o, rfl, hB, hc⟩
  · exact .inl h
  · exact .inr ⟨b, o, rfl, hB, fun i x hx j v hv => (hb.cell (p := ⟨b, o + i * s + j, none⟩) hB).trans (hc i x hx j v hv)⟩
theorem Rows.more (h : Rows f s w B A l) (hB : B ≤ B') : Rows f s w B' A l := by
  rcases h with h | ⟨b, o, rfl, hb, hc⟩
  · exact .inl h
  · exact .inr ⟨b, o, rfl, by omega, hc⟩
theorem Rows.at_ (h : Rows f s w B A l) {i : Nat} {x : α} (hx : l[i]? = some x) : ∃ b o, A = some ⟨b, o, none⟩ ∧ b < B ∧ ∀ j v, (f x)[j]? = some v → w.cell? ⟨b, o + i * s + j, none⟩ = some v := by
  rcases h with rfl | ⟨b, o, rfl, hb, hc⟩
  · simp at hx
  · exact ⟨b, o, rfl, hb, fun j v hv => hc i x hx j v hv⟩
theorem Rows.take (h : Rows f s w B A l) (k : Nat) : Rows f s w B A (l.take k) := by
  rcases h with rfl | ⟨b, o, rfl, hb, hc⟩
  · exact .inl (by simp)
  · refine .inr ⟨b, o, rfl, hb, fun i x hx => hc i x ?_⟩
    rw [List.getElem?_take] at hx
    split at hx
    · exact hx
    · cases hx
end
end Go.Proofs.YtnflbnchkcigiaaDoor
