/- One book of the call's own, and further blocks of the call's own that stay what they are while the book is written to. -/
import Derived.Test.YtgdeeojamnbakaaRollSame
import Derived.Test.YtgdeeojamnbakaaRollScript
namespace Go.Proofs.Ytgdeeojamnbakaa
open Go.RowKit

def Rel (w : World) (K : List (Nat × Obj)) (p : Nat) (es : List Ent) (cl : Nat → Bool) (wr : World) : Prop :=
  ∃ S, Book wr p S es cl ∧ (∀ k ∈ S, w.heap.size ≤ k) ∧ (∀ x ∈ K, wr.heap[x.1]? = some x.2 ∧ x.1 ∉ S ∧ w.heap.size ≤ x.1) ∧ Below w.heap.size w wr

theorem Rel.below {w wr w' : World} {K : List (Nat × Obj)} {p : Nat} {es : List Ent} {cl : Nat → Bool} (h : Rel w K p es cl wr) (hB : Below wr.heap.size wr w') : Rel w K p es cl w' := by
  obtain ⟨S, hb, hs, hk, hw⟩ := h
  exact ⟨S, hb.below hB, hs, fun x hx => ⟨by rw [hB.block _ (lt_of_block (hk x hx).1)]; exact (hk x hx).1, (hk x hx).2⟩, hw.trans (hB.mono hw.size)⟩

/-- What is done to the book. -/
theorem Rel.step {w wr w' : World} {K : List (Nat × Obj)} {p : Nat} {es' : List Ent} {cl' : Nat → Bool} {S S' : List Nat} (hs : ∀ k ∈ S, w.heap.size ≤ k) (hk : ∀ x ∈ K, wr.heap[x.1]? = some x.2 ∧ x.1 ∉ S ∧ w.heap.size ≤ x.1)
    (hw : Below w.heap.size w wr) (hb' : Book w' p S' es' cl') (ho : Only S wr w') (hm : ∀ k ∈ S', k ∈ S ∨ wr.heap.size ≤ k) : Rel w K p es' cl' w' := by
  have hz := hw.size
  refine ⟨S', hb', fun k h => ?_, fun x hx => ?_, ?_⟩
  · rcases hm k h with h | h
    · exact hs k h
    · omega
  · obtain ⟨h1, h2, h3⟩ := hk x hx
    have hlt := lt_of_block h1
    refine ⟨by rw [ho.block _ hlt h2]; exact h1, fun h => ?_, h3⟩
    rcases hm _ h with h | h
    · exact h2 h
    · omega
  · refine hw.trans ⟨ho.os, ho.tape, ho.output, ho.size, fun k hk => ho.block k (by omega) (fun hm2 => ?_)⟩
    have := hs k hm2
    omega

theorem Rel.enter {w wr w' : World} {K : List (Nat × Obj)} {p : Nat} {es es' : List Ent} {cl cl' : Nat → Bool} {S : List Nat} (h : Rel w K p es cl wr) (hb : Book wr p S es cl) (he : ∀ T, Book wr p T es cl → T = S)
    {S' : List Nat} (hb' : Book w' p S' es' cl') (ho : Only S wr w') (hm : ∀ k ∈ S', k ∈ S ∨ wr.heap.size ≤ k) : Rel w K p es' cl' w' := by
  obtain ⟨T, hb1, hs, hk, hw⟩ := h
  obtain rfl := he T hb1
  exact Rel.step hs hk hw hb' ho hm

/-- The blocks that a book rests on are told by its cells. -/
theorem Book.one {w : World} {b : Nat} {S T : List Nat} {es es' : List Ent} {cl cl' : Nat → Bool} (h : Book w b S es cl) (g : Book w b T es' cl') : T = S := by
  obtain ⟨v, hh, _, _, rfl, _⟩ := h
  obtain ⟨v', hh', _, _, rfl, _⟩ := g
  rw [hh] at hh'
  simp only [Option.some.injEq, Obj.cells.injEq] at hh'
  have : v = v' := by
    have h0 := congrArg (fun a : Array Value => a[0]?) hh'.1
    simpa using h0
  rw [this]

theorem Rel.entered {w wr w' : World} {K : List (Nat × Obj)} {p : Nat} {es es' : List Ent} {cl cl' : Nat → Bool} {S : List Nat} (h : Rel w K p es cl wr) (hb : Book wr p S es cl)
    {S' : List Nat} (hb' : Book w' p S' es' cl') (ho : Only S wr w') (hm : ∀ k ∈ S', k ∈ S ∨ wr.heap.size ≤ k) : Rel w K p es' cl' w' :=
  h.enter hb (fun _ hT => hb.one hT) hb' ho hm

theorem Rel.closed {w wr w' : World} {K : List (Nat × Obj)} {p : Nat} {es es' : List Ent} {cl cl' : Nat → Bool} {S : List Nat} (h : Rel w K p es cl wr) (hb : Book wr p S es cl)
    (hb' : Book w' p S es' cl') (ho : Only [p] wr w') : Rel w K p es' cl' w' :=
  h.entered hb hb' (ho.weaken (fun k _ hk => by simp at hk; subst hk; exact hb.self)) (fun _ hk => .inl hk)

theorem Rel.book {w wr : World} {K : List (Nat × Obj)} {p : Nat} {es : List Ent} {cl : Nat → Bool} (h : Rel w K p es cl wr) : ∃ S, Book wr p S es cl := by
  obtain ⟨S, hb, _⟩ := h
  exact ⟨S, hb⟩

theorem Rel.outer {w wr : World} {K : List (Nat × Obj)} {p : Nat} {es : List Ent} {cl : Nat → Bool} (h : Rel w K p es cl wr) : Below w.heap.size w wr := by
  obtain ⟨S, _, _, _, hw⟩ := h
  exact hw

theorem Rel.keep {w wr : World} {K : List (Nat × Obj)} {p : Nat} {es : List Ent} {cl : Nat → Bool} (h : Rel w K p es cl wr) {x : Nat × Obj} (hx : x ∈ K) : wr.heap[x.1]? = some x.2 := by
  obtain ⟨S, _, _, hk, _⟩ := h
  exact (hk x hx).1

/-- A block that is new. -/
theorem Rel.alloc {w wr : World} {K : List (Nat × Obj)} {p : Nat} {es : List Ent} {cl : Nat → Bool} (h : Rel w K p es cl wr) (o : Obj) : Rel w ((wr.heap.size, o) :: K) p es cl (wr.alloc o) := by
  obtain ⟨S, hb, hs, hk, hw⟩ := h.below (below_alloc wr o)
  refine ⟨S, hb, hs, fun x hx => ?_, hw⟩
  rcases List.mem_cons.1 hx with rfl | hx
  · have hb0 := h.book
    obtain ⟨T, hT⟩ := hb0
    have hTS : S = T := (hT.below (below_alloc wr o)).one hb
    exact ⟨heap_alloc_new wr o, fun hm => by rw [hTS] at hm; have := hT.mem _ hm; simp at this, h.outer.size⟩
  · exact hk x hx

/-- A row of entries that All has laid. -/
theorem Rel.row {w wr w' : World} {K : List (Nat × Obj)} {p : Nat} {es : List Ent} {cl : Nat → Bool} (h : Rel w K p es cl wr) (hB : Below wr.heap.size wr w') {t : TypeId} {size n : Nat} {v : Value} {xs : List Value}
    (hv : w'.ownsRow wr.heap.size t size v n xs) : ∃ K', (∀ x ∈ K, x ∈ K') ∧ Rel w K' p es cl w' ∧ ∀ w2 : World, (∀ x ∈ K', w2.heap[x.1]? = some x.2) → w2.ownsRow wr.heap.size t size v n xs := by
  rcases hv.2 with hn | ⟨g, cap, cur, hvg, hg, hh, r⟩
  · exact ⟨K, fun x hx => hx, h.below hB, fun w2 _ => ⟨hv.1, .inl hn⟩⟩
  · refine ⟨(g, .cells cur t (0, 0)) :: K, fun x hx => List.mem_cons_of_mem _ hx, ?_, fun w2 hw2 => ⟨hv.1, .inr ⟨g, cap, cur, hvg, hg, hw2 (g, .cells cur t (0, 0)) (by simp), r⟩⟩⟩
    obtain ⟨S, hb, hs, hk, hw⟩ := h
    refine ⟨S, hb.below hB, hs, fun x hx => ?_, hw.trans (hB.mono hw.size)⟩
    rcases List.mem_cons.1 hx with rfl | hx
    · exact ⟨hh, fun hm => by have := hb.mem _ hm; omega, Nat.le_trans hw.size hg⟩
    · exact ⟨by rw [hB.block _ (lt_of_block (hk x hx).1)]; exact (hk x hx).1, (hk x hx).2⟩

/-- A store into a kept block. -/
theorem Rel.store {w wr : World} {K : List (Nat × Obj)} {p : Nat} {es : List Ent} {cl : Nat → Bool} {b i : Nat} {cs : Array Value} {t : TypeId} (h : Rel w ((b, .cells cs t (0, 0)) :: K) p es cl wr) (hn : ∀ x ∈ K, x.1 ≠ b) (u : Value) :
    Rel w ((b, .cells (cs.setIfInBounds i u) t (0, 0)) :: K) p es cl (wr.setCell ⟨b, i, none⟩ u) := by
  obtain ⟨S, hb, hs, hk, hw⟩ := h
  obtain ⟨h1, h2, h3⟩ := hk (b, .cells cs t (0, 0)) (by simp)
  refine ⟨S, hb.kept (fun k hm => heap_setCell_other wr _ k _ (by rintro rfl; exact h2 hm)), hs, fun x hx => ?_, hw.setCell h3 u⟩
  rcases List.mem_cons.1 hx with rfl | hx
  · exact ⟨heap_setCell_same wr b i cs t u h1, h2, h3⟩
  · obtain ⟨k1, k2⟩ := hk x (List.mem_cons_of_mem _ hx)
    exact ⟨by rw [heap_setCell_other wr _ _ _ (hn x hx)]; exact k1, k2⟩

/-- What At answers, field by field. -/
def AtGives (o : Option Ent) (w : World) (e : Ending) (w' : World) : Prop :=
  ∃ (xf xn : Int) (xm : ByteArray) (xs : Int) (y : Bool), Hid (o.getD Ent.none = ⟨xf, xn, xm, xs⟩ ∧ o.isSome = y) ∧ e = .returned (.tuple #[.agg #[.int .i64 xf, .int .i64 xn, .string xm, .int .i64 xs], .bool y]) ∧ Below w.heap.size w w'

theorem at_gives {w : World} {b : Nat} {S : List Nat} {es : List Ent} {cl : Nat → Bool} (h : Book w b S es cl) (f m : Int) :
    Calls Try.prog 23 #[.pointer (some ⟨b, 0, none⟩), .int .i64 f, .int .i64 m] w (AtGives (findAt f m es) w) := by
  refine (at_any h f m).mono ?_
  rintro e w' ⟨rfl, hB⟩
  exact ⟨_, _, _, _, _, ⟨rfl, rfl⟩, rfl, hB⟩

end Go.Proofs.Ytgdeeojamnbakaa
