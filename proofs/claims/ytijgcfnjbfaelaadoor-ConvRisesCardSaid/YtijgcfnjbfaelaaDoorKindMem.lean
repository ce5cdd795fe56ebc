/- Words on memory for the walks of this layer: the kinds' variables hold what was laid, and what stood stands. No walk here. -/
import Derived.Test.YtijgcfnjbfaelaaDoorUtfMem
import Derived.Test.YtijgcfnjbfaelaaDoorKindPure
import Derived.Test.YtijgcfnjbfaelaaDoorKindVars
namespace Go.Proofs.YtijgcfnjbfaelaaDoor
open Go.RowKit

/-- what stood when the call began stands, the library's tables and the kinds' variables are as they were laid -/
structure KSt (w0 w : World) : Prop where
  st : St w0 w
  k : KVars w
theorem KSt.first {w : World} (h : St w w) (k : KVars w) : KSt w w := ⟨h, k⟩
theorem KSt.then_ {w0 w w' : World} (h : KSt w0 w) (hb : Below w.heap.size w w') : KSt w0 w' := ⟨h.st.then_ hb, h.k.below hb⟩
theorem KSt.drew {w0 w : World} (h : KSt w0 w) : KSt w0 w.drew := h.then_ (Below.thenN (Below.refl _ _) 1)
theorem KSt.newN {w0 w : World} (h : KSt w0 w) (n : Nat) : KSt w0 (w.drewN n) := h.then_ (Below.newN w n)
theorem KSt.self {w0 w : World} (h : KSt w0 w) : KSt w w := ⟨⟨Below.refl _ _, h.st.tabs⟩, h.k⟩
theorem KSt.below {w0 w : World} (h : KSt w0 w) : Below w0.heap.size w0 w := h.st.below
theorem KSt.new {w0 w : World} (h : KSt w0 w) (o : Obj) : KSt w0 (w.alloc o) := h.then_ ((Below.refl _ _).alloc (Nat.le_refl _) _)
/-- a contract on what only grows the memory, as one on KSt -/
theorem KSt.of {P : Program} {f : FuncId} {args : Array Value} {w0 w : World} {Q : Ending → Prop} (h : KSt w0 w) (hc : Calls P f args w fun e w' => Q e ∧ Below w.heap.size w w') :
    Calls P f args w fun e w' => Q e ∧ KSt w0 w' := hc.mono fun _ _ ⟨he, hb⟩ => ⟨he, h.then_ hb⟩
end Go.Proofs.YtijgcfnjbfaelaaDoor
