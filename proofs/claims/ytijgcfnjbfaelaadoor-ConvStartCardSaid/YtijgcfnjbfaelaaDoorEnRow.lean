/- Lists of entries in memory (four cells each): what stands there, kept while the world only grows. No walk here. -/
import Derived.Test.YtijgcfnjbfaelaaDoorBytMem
namespace Go.Proofs.YtijgcfnjbfaelaaDoor
open Go.RowKit

/-- an entry's parts -/
structure En where
  f : Int
  n : Int
  s : ByteArray
  z : Int
/-- an entry's cells -/
def En.cells (e : En) : List Value := [.int .i64 e.f, .int .i64 e.n, .string e.s, .int .i64 e.z]
/-- at block g, from offset o on, stand these entries -/
def ERow (w : World) (g o : Nat) (l : List En) : Prop :=
  ∀ (i : Nat) (e : En), l[i]? = some e → w.cell? ⟨g, o + i * 4, none⟩ = some (.int .i64 e.f) ∧ w.cell? ⟨g, o + i * 4 + 1, none⟩ = some (.int .i64 e.n) ∧ w.cell? ⟨g, o + i * 4 + 2, none⟩ = some (.string e.s) ∧ w.cell? ⟨g, o + i * 4 + 3, none⟩ = some (.int .i64 e.z)
theorem ERow.keep {w w' : World} {g o : Nat} {l : List En} (h : ERow w g o l) (hk : ∀ j, w'.cell? ⟨g, j, none⟩ = w.cell? ⟨g, j, none⟩) : ERow w' g o l := fun i e he => by
  obtain ⟨a, b, c, d⟩ := h i e he
  exact ⟨(hk _).trans a, (hk _).trans b, (hk _).trans c, (hk _).trans d⟩
theorem ERow.below {w w' : World} {g o : Nat} {l : List En} (h : ERow w g o l) (hg : g < w.heap.size) (hb : Below w.heap.size w w') : ERow w' g o l := h.keep fun j => (Below.cells hb).1 g j hg
theorem flat_get : ∀ (l : List En) (i : Nat) (e : En) (k : Nat), l[i]? = some e → k < 4 → (l.flatMap En.cells)[i * 4 + k]? = e.cells[k]?
  | [], i, e, k, h, _ => by simp at h
  | x :: r, 0, e, k, h, hk => by
    simp at h
    subst h
    rw [List.flatMap_cons, Nat.zero_mul, Nat.zero_add, List.getElem?_append_left (by simpa [En.cells] using hk)]
  | x :: r, i + 1, e, k, h, hk => by
    rw [List.flatMap_cons, List.getElem?_append_right (by simp [En.cells]; omega)]
    have : (i + 1) * 4 + k - x.cells.length = i * 4 + k := by simp [En.cells]; omega
    rw [this]
    exact flat_get r i e k (by simpa using h) hk
/-- out of the cells, one by one -/
theorem ERow.of_cells {w : World} {g : Nat} {l : List En} {n : Nat} (hn : n = l.length * 4) (h : ∀ j, j < n → w.cell? ⟨g, j, none⟩ = (l.flatMap En.cells)[j]?) : ERow w g 0 l := by
  intro i e he
  have hi : i < l.length := (List.getElem?_eq_some_iff.1 he).1
  have q := fun k (hk : k < 4) => (h (i * 4 + k) (by omega)).trans (flat_get l i e k he hk)
  refine ⟨?_, ?_, ?_, ?_⟩
  · have := q 0 (by omega); rw [Nat.zero_add]; exact this
  · have := q 1 (by omega); rw [Nat.zero_add]; exact this
  · have := q 2 (by omega); rw [Nat.zero_add]; exact this
  · have := q 3 (by omega); rw [Nat.zero_add]; exact this
/-- a row that was known when the world only grew -/
theorem row_cells {W W' : World} {b : Nat} {cs : Array Value} {T : TypeId} (hb : Below W.heap.size W W') (hr : W.heap[b]? = some (.cells cs T (0, 0))) (j : Nat) (v : Value) (hv : cs[j]? = some v) : W'.cell? ⟨b, j, none⟩ = some v := by
  have hlt : b < W.heap.size := (Array.getElem?_eq_some_iff.1 hr).1
  rw [(Below.cells hb).1 b j hlt, cell_of_row W b j cs T (0, 0) hr, hv]
end Go.Proofs.YtijgcfnjbfaelaaDoor
