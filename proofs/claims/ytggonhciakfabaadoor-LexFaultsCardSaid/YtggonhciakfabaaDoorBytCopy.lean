/- copy out of bytes that came in, into a row of the call's own. No walk here. -/
import Derived.Test.YtggonhciakfabaaDoorBytMem
import Derived.Laws.CopyOwn
import Derived.Laws.MakeOwn
import Derived.Laws.IdiomCopy
import Derived.OwnWalk
namespace Go.Proofs.YtggonhciakfabaaDoor
open Go.RowKit
open Go.Lib (byteCells)

theorem byteCells_at (l : List UInt8) (j : Nat) (v : Value) (h : (byteCells l)[j]? = some v) : ∃ hj : j < l.length, v = .int .u8 (l[j].toNat : Nat) := by
  rcases Nat.lt_or_ge j l.length with hj | hj
  · refine ⟨hj, ?_⟩
    rw [byteCells_get l j hj] at h
    exact (Option.some.inj h).symm
  · rw [List.getElem?_eq_none (by rw [Go.Lib.byteCells_length]; exact hj)] at h
    cases h

theorem run_copy_byt {P : Program} {w : World} {B : Nat} {A : Option Addr} {l : List UInt8} (h : Byt w B A l) (T ty e : TypeId) (hu : P.underlying T = some (.slice e)) (hs : (P.info? e).map (·.size) = some 1)
    (g off dLen dCap c : Nat) (t : TypeId) (cur : List Value) (hg : w.heap[g]? = some (.cells cur.toArray t (0, 0))) (hn : l.length ≤ dLen) (hfit : off + l.length ≤ cur.length) :
    ∃ w1, (Builtin.copy_ #[T, T] ty #[.slice (some ⟨g, off, none⟩) dLen dCap, .slice A l.length c]).run P w = .ok (.int .i64 (l.length : Nat)) w1 ∧
      w1.heap[g]? = some (.cells (splice cur off (byteCells l)).toArray t (0, 0)) ∧ Below g w w1 ∧ w1.heap.size = w.heap.size := by
  have hlen := Go.Lib.byteCells_length l
  rcases Nat.eq_zero_or_pos l.length with h0 | h0
  · obtain rfl := List.eq_nil_of_length_eq_zero h0
    refine ⟨w, run_copy_none w T T ty e _ _ _ _ _ _ hu hs (by simp), ?_, Below.refl _ _, rfl⟩
    simpa [splice, byteCells] using hg
  · obtain ⟨b, o, rfl, _, hc⟩ := h.at_ h0
    have hmin : Nat.min l.length dLen = l.length := Nat.min_eq_left hn
    have hr := run_copy_row (P := P) w T T ty e g off dLen dCap ⟨b, o, none⟩ l.length c cur.toArray t (byteCells l) hu hs hg (by rw [hmin, hlen]) (fun j v hv => by
      obtain ⟨hj, rfl⟩ := byteCells_at l j v hv
      rw [Addr.add_lit]; exact hc j hj) (by rw [hlen]; simpa using hfit) (byteCells_one l)
    rw [hlen] at hr
    refine ⟨_, hr, ?_, below_setRow (Below.refl _ _) (Nat.le_refl _) _, by simp [World.setRow]⟩
    rw [setRow_heap w g _ _ t _ hg]
    simp [splice, hlen]

/-- into a new row -/
theorem run_copy_fresh {P : Program} {w : World} {A : Option Addr} {l : List UInt8} (h : Byt w w.heap.size A l) (T ty e : TypeId) (hu : P.underlying T = some (.slice e)) (hs : (P.info? e).map (·.size) = some 1)
    (z : Value) (m c cap : Nat) (hcap : cap = l.length + m) (hmax : cap ≤ maxLen) :
    ∃ w1, (Builtin.copy_ #[T, T] ty #[.slice (some ⟨w.heap.size, 0, none⟩) l.length cap, .slice A l.length c]).run P (w.alloc (.cells (Array.replicate cap z) e)) = .ok (.int .i64 (l.length : Nat)) w1 ∧
      w1.ownsRow w.heap.size e 1 (.slice (some ⟨w.heap.size, 0, none⟩) l.length cap) l.length (byteCells l) ∧ Below w.heap.size w w1 := by
  have hlen := Go.Lib.byteCells_length l
  subst hcap
  obtain ⟨w1, hr, hh, hb, hz⟩ := run_copy_byt (P := P) (h.below ((Below.refl _ w).alloc (Nat.le_refl _) (.cells (Array.replicate (l.length + m) z) e))) T ty e hu hs w.heap.size 0 l.length (l.length + m) c e
    (List.replicate (l.length + m) z) (by simpa using heap_alloc_new w _) (Nat.le_refl _) (by simp)
  refine ⟨w1, hr, ⟨by rw [hlen]; omega, .inr ⟨w.heap.size, l.length + m, _, rfl, Nat.le_refl _, hh, by omega, hmax, by simp [splice, hlen], ?_⟩⟩, ((Below.refl _ w).alloc (Nat.le_refl _) _).trans (hb.mono (Nat.le_refl _))⟩
  simp [splice, ← hlen]
end Go.Proofs.YtggonhciakfabaaDoor
