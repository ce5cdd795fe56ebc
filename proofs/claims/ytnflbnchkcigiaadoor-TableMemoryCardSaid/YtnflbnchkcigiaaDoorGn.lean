/- All blocks but one stand. No walk here. -/
import Derived.Test.YtnflbnchkcigiaaDoorTurned
namespace Go.Proofs.YtnflbnchkcigiaaDoor
open Go.RowKit

/-- all blocks but g stand -/
abbrev Gn (g : Nat) (w w' : World) : Prop := w.grownBy w' (some g)
theorem Gn.refl (g : Nat) (w : World) : Gn g w w := below_grown (Below.refl _ w) _
theorem Gn.of {g : Nat} {w w' : World} (h : Below w.heap.size w w') : Gn g w w' := below_grown h _
theorem Gn.trans {g : Nat} {a b c : World} (h : Gn g a b) (k : Gn g b c) : Gn g a c := grown_trans h k
theorem Gn.set {g : Nat} {a w : World} (h : Gn g a w) (o : Nat) (v : Value) : Gn g a (w.setCell ⟨g, o, none⟩ v) := grown_set h v
theorem Gn.below {g B : Nat} {w w' : World} (h : Gn g w w') (hB : B ≤ w.heap.size) (hg : B ≤ g) : Below B w w' := ⟨h.os, h.tape, h.output, h.size, fun k hk => h.block k (by omega) (fun e => by have := Option.some.inj e; omega)⟩
theorem Gn.other {g b : Nat} {w w' : World} (h : Gn g w w') (hb : b < w.heap.size) (hne : b ≠ g) : w'.heap[b]? = w.heap[b]? := h.block b hb fun e => hne (Option.some.inj e)
end Go.Proofs.YtnflbnchkcigiaaDoor
