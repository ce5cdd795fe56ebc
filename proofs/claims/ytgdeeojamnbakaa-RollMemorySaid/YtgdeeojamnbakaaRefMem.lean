/- The reference's book in memory. No walk here. -/
import Derived.Test.YtgdeeojamnbakaaRollKeep
namespace Go.Proofs.Ytgdeeojamnbakaa
open Go.RowKit

/-- How many families are open still. -/
def oc (cl : Nat → Bool) : Nat := (if cl 1 then 0 else 1) + (if cl 2 then 0 else 1) + (if cl 3 then 0 else 1) + (if cl 4 then 0 else 1) + (if cl 5 then 0 else 1)

theorem oc_shut (cl : Nat → Bool) (j : Nat) (h1 : 1 ≤ j) (h5 : j ≤ 5) (hc : cl j = false) : oc (shutF cl j) + 1 ≤ oc cl := by
  have ht : famOk (j : Int) = true := by simp [famOk]; omega
  have e : ∀ i : Nat, shutF cl j i = if i = j then true else cl i := fun i => by
    simp only [shutF, ht, and_true]
    by_cases h : i = j
    · rw [if_pos (by omega), if_pos h]
    · rw [if_neg (by omega), if_neg h]
  simp only [oc, e]
  match j, h1, h5 with
  | 1, _, _ => simp [hc]; omega
  | 2, _, _ => simp [hc]; omega
  | 3, _, _ => simp [hc]; omega
  | 4, _, _ => simp [hc]; omega
  | 5, _, _ => simp [hc]

def ints (cs : List Int) : List Value := cs.map (Value.int .i64)

def RBook (w : World) (b : Nat) (S : List Nat) (es : List Ent) (cl : Nat → Bool) : Prop :=
  ∃ (v1 v2 : Value) (cs : List Int), w.heap[b]? = some (.cells #[v1, v2] 58 (0, 0)) ∧
    w.ownsRow 0 40 4 v1 es.length (flat es) ∧ w.ownsRow 0 3 1 v2 cs.length (ints cs) ∧ v1.ownBlock ≠ some b ∧ v2.ownBlock ≠ some b ∧ (∀ g, v1.ownBlock = some g → v2.ownBlock ≠ some g) ∧
    S = b :: (v1.ownBlock.toList ++ v2.ownBlock.toList) ∧ es.length ≤ 64 ∧ cs.length + oc cl ≤ 5 ∧ ∀ f : Int, famOk f = true → (cl f.toNat = true ↔ f ∈ cs)

theorem own_mem {v : Value} {k : Nat} (h : k ∈ v.ownBlock.toList) : v.ownBlock = some k := by
  cases hv : v.ownBlock with
  | none => simp [hv] at h
  | some g => simp [hv] at h; rw [h]

theorem RBook.mem {w : World} {b : Nat} {S : List Nat} {es : List Ent} {cl : Nat → Bool} (h : RBook w b S es cl) : ∀ k ∈ S, k < w.heap.size := by
  obtain ⟨v1, v2, cs, hh, h1, h2, _, _, _, rfl, _⟩ := h
  intro k hk
  rcases List.mem_cons.1 hk with rfl | hk
  · exact lt_of_block hh
  · rcases List.mem_append.1 hk with hk | hk
    · exact (h1.lt _ (own_mem hk)).2
    · exact (h2.lt _ (own_mem hk)).2

theorem RBook.self {w : World} {b : Nat} {S : List Nat} {es : List Ent} {cl : Nat → Bool} (h : RBook w b S es cl) : b ∈ S := by
  obtain ⟨v1, v2, cs, hh, h1, h2, _, _, _, rfl, _⟩ := h
  simp

theorem RBook.small {w : World} {b : Nat} {S : List Nat} {es : List Ent} {cl : Nat → Bool} (h : RBook w b S es cl) : es.length ≤ 64 := by
  obtain ⟨v1, v2, cs, hh, h1, h2, _, _, _, _, h64, _⟩ := h
  exact h64

theorem RBook.kept {w w' : World} {b : Nat} {S : List Nat} {es : List Ent} {cl : Nat → Bool} (h : RBook w b S es cl) (hk : ∀ k ∈ S, w'.heap[k]? = w.heap[k]?) : RBook w' b S es cl := by
  obtain ⟨v1, v2, cs, hh, h1, h2, a1, a2, a3, rfl, r⟩ := h
  refine ⟨v1, v2, cs, ?_, rows_kept h1 (fun g hg => hk g (by simp [hg])), rows_kept h2 (fun g hg => hk g (by simp [hg])), a1, a2, a3, rfl, r⟩
  rw [hk b (by simp)]
  exact hh

theorem RBook.below {w w' : World} {b : Nat} {S : List Nat} {es : List Ent} {cl : Nat → Bool} (h : RBook w b S es cl) (hB : Below w.heap.size w w') : RBook w' b S es cl :=
  h.kept fun k hk => hB.block k (h.mem k hk)

theorem RBook.only {w w' : World} {b : Nat} {S T : List Nat} {es : List Ent} {cl : Nat → Bool} (h : RBook w b S es cl) (hB : Only T w w') (hd : ∀ k ∈ S, k ∉ T) : RBook w' b S es cl :=
  h.kept fun k hk => hB.block k (h.mem k hk) (hd k hk)

/-- One entry appended. -/
theorem RBook.grown {w3 w4 : World} {b : Nat} {es : List Ent} {cl : Nat → Bool} {v1 v2 : Value} {cs : List Int}
    (hh : w3.heap[b]? = some (.cells #[v1, v2] 58 (0, 0)))
    (_h1 : w3.ownsRow 0 40 4 v1 es.length (flat es)) (h2 : w3.ownsRow 0 3 1 v2 cs.length (ints cs)) (a1 : v1.ownBlock ≠ some b) (a2 : v2.ownBlock ≠ some b) (a3 : ∀ g, v1.ownBlock = some g → v2.ownBlock ≠ some g)
    (hl : es.length < 64) (hc : cs.length + oc cl ≤ 5) (hf : ∀ f : Int, famOk f = true → (cl f.toNat = true ↔ f ∈ cs)) (x : Ent) (o : Obj)
    (hgrow : (w3.alloc o).grownBy w4 v1.ownBlock) (gg cap : Nat)
    (hown : w4.ownsRow 0 40 4 (.slice (some ⟨gg, 0, none⟩) (es.length + 1) cap) (es.length + 1) (flat es ++ flat [x])) (hat : v1.ownBlock = some gg ∨ gg = w3.heap.size + 1) :
    ∃ S', RBook (w4.setCell ⟨b, 0, none⟩ (.slice (some ⟨gg, 0, none⟩) (es.length + 1) cap)) b S' (es ++ [x]) cl ∧
      Only (b :: (v1.ownBlock.toList ++ v2.ownBlock.toList)) w3 (w4.setCell ⟨b, 0, none⟩ (.slice (some ⟨gg, 0, none⟩) (es.length + 1) cap)) ∧ ∀ k ∈ S', k ∈ b :: (v1.ownBlock.toList ++ v2.ownBlock.toList) ∨ w3.heap.size ≤ k := by
  have hb := lt_of_block hh
  have hne : gg ≠ b := by
    rintro rfl
    rcases hat with h | h
    · exact a1 h
    · omega
  have hh4 : w4.heap[b]? = w3.heap[b]? := (hgrow.block b (by simp; omega) (Ne.symm a1)).trans (heap_alloc_old w3 o hb)
  have hn : (es ++ [x]).length = es.length + 1 := by simp
  have hk2 : ∀ g, v2.ownBlock = some g → (w4.setCell ⟨b, 0, none⟩ (.slice (some ⟨gg, 0, none⟩) (es.length + 1) cap)).heap[g]? = w3.heap[g]? := fun g hg => by
    have hgl := (h2.lt _ hg).2
    rw [heap_setCell_other w4 _ g _ (by rintro rfl; exact a2 hg)]
    exact (hgrow.block g (by simp; omega) (fun e => a3 g e.symm hg)).trans (heap_alloc_old w3 o hgl)
  refine ⟨b :: ([gg] ++ v2.ownBlock.toList), ⟨.slice (some ⟨gg, 0, none⟩) (es.length + 1) cap, v2, cs, ?_, ?_, rows_kept h2 hk2, ?_, a2, ?_, rfl, by omega, hc, hf⟩, ⟨?_, ?_, ?_, ?_, ?_⟩, ?_⟩
  · rw [heap_setCell_same w4 b 0 _ _ _ (hh4.trans hh)]
    rfl
  · rw [hn, flat_append]
    exact rows_kept hown (fun g hg => heap_setCell_other w4 _ g _ (by rintro rfl; simp [Value.ownBlock] at hg; exact hne hg))
  · simpa [Value.ownBlock] using hne
  · intro g hg hg2
    simp [Value.ownBlock] at hg
    subst hg
    rcases hat with h | h
    · exact a3 gg h hg2
    · have := (h2.lt _ hg2).2; omega
  · exact hgrow.os
  · exact hgrow.tape
  · exact hgrow.output
  · have := hgrow.size
    simp at this ⊢
    omega
  · intro k hk hm
    have hkb : k ≠ b := by rintro rfl; simp at hm
    have hkv : some k ≠ v1.ownBlock := by intro e; rw [← e] at hm; simp at hm
    rw [heap_setCell_other w4 _ k _ hkb]
    exact (hgrow.block k (by simp; omega) hkv).trans (heap_alloc_old w3 o hk)
  · intro k hk
    simp only [List.mem_cons, List.mem_append, List.not_mem_nil, or_false] at hk ⊢
    rcases hk with rfl | rfl | hk
    · exact .inl (.inl rfl)
    · rcases hat with h | h
      · exact .inl (.inr (.inl (by simp [h])))
      · right; omega
    · exact .inl (.inr (.inr hk))

/-- One family closed. -/
theorem RBook.shut {w3 w4 : World} {b : Nat} {es : List Ent} {cl : Nat → Bool} {v1 v2 : Value} {cs : List Int}
    (hh : w3.heap[b]? = some (.cells #[v1, v2] 58 (0, 0)))
    (h1 : w3.ownsRow 0 40 4 v1 es.length (flat es)) (_h2 : w3.ownsRow 0 3 1 v2 cs.length (ints cs)) (a1 : v1.ownBlock ≠ some b) (a2 : v2.ownBlock ≠ some b) (a3 : ∀ g, v1.ownBlock = some g → v2.ownBlock ≠ some g)
    (hl : es.length ≤ 64) (hc : cs.length + oc cl ≤ 5) (hf : ∀ f : Int, famOk f = true → (cl f.toNat = true ↔ f ∈ cs)) (j : Nat) (hj1 : 1 ≤ j) (hj5 : j ≤ 5) (hcj : cl j = false) (o : Obj)
    (hgrow : (w3.alloc o).grownBy w4 v2.ownBlock) (gg cap : Nat)
    (hown : w4.ownsRow 0 3 1 (.slice (some ⟨gg, 0, none⟩) (cs.length + 1) cap) (cs.length + 1) (ints cs ++ [.int .i64 j])) (hat : v2.ownBlock = some gg ∨ gg = w3.heap.size + 1) :
    ∃ S', RBook (w4.setCell ⟨b, 1, none⟩ (.slice (some ⟨gg, 0, none⟩) (cs.length + 1) cap)) b S' es (shutF cl j) ∧
      Only (b :: (v1.ownBlock.toList ++ v2.ownBlock.toList)) w3 (w4.setCell ⟨b, 1, none⟩ (.slice (some ⟨gg, 0, none⟩) (cs.length + 1) cap)) ∧ ∀ k ∈ S', k ∈ b :: (v1.ownBlock.toList ++ v2.ownBlock.toList) ∨ w3.heap.size ≤ k := by
  have hb := lt_of_block hh
  have hne : gg ≠ b := by
    rintro rfl
    rcases hat with h | h
    · exact a2 h
    · omega
  have hh4 : w4.heap[b]? = w3.heap[b]? := (hgrow.block b (by simp; omega) (Ne.symm a2)).trans (heap_alloc_old w3 o hb)
  have hn : (cs ++ [(j : Int)]).length = cs.length + 1 := by simp
  have hk1 : ∀ g, v1.ownBlock = some g → (w4.setCell ⟨b, 1, none⟩ (.slice (some ⟨gg, 0, none⟩) (cs.length + 1) cap)).heap[g]? = w3.heap[g]? := fun g hg => by
    have hgl := (h1.lt _ hg).2
    rw [heap_setCell_other w4 _ g _ (by rintro rfl; exact a1 hg)]
    exact (hgrow.block g (by simp; omega) (fun e => a3 g hg e.symm)).trans (heap_alloc_old w3 o hgl)
  have ht : famOk (j : Int) = true := by simp [famOk]; omega
  have hoc := oc_shut cl j hj1 hj5 hcj
  refine ⟨b :: (v1.ownBlock.toList ++ [gg]), ⟨v1, .slice (some ⟨gg, 0, none⟩) (cs.length + 1) cap, cs ++ [(j : Int)], ?_, rows_kept h1 hk1, ?_, a1, ?_, ?_, rfl, hl, by omega, ?_⟩, ⟨?_, ?_, ?_, ?_, ?_⟩, ?_⟩
  · rw [heap_setCell_same w4 b 1 _ _ _ (hh4.trans hh)]
    rfl
  · rw [hn, show ints (cs ++ [(j : Int)]) = ints cs ++ [.int .i64 j] from by simp [ints]]
    exact rows_kept hown (fun g hg => heap_setCell_other w4 _ g _ (by rintro rfl; simp [Value.ownBlock] at hg; exact hne hg))
  · simpa [Value.ownBlock] using hne
  · intro g hg hg2
    simp [Value.ownBlock] at hg2
    subst hg2
    rcases hat with h | h
    · exact a3 gg hg h
    · have := (h1.lt _ hg).2; omega
  · intro f hfo
    have h15 : 1 ≤ f := by simp [famOk] at hfo; omega
    simp only [shutF, ht, and_true, List.mem_append, List.mem_singleton]
    by_cases hfj : f = j
    · subst hfj
      simp
    · rw [if_neg (by omega), hf f hfo]
      simp [hfj]
  · exact hgrow.os
  · exact hgrow.tape
  · exact hgrow.output
  · have := hgrow.size
    simp at this ⊢
    omega
  · intro k hk hm
    have hkb : k ≠ b := by rintro rfl; simp at hm
    have hkv : some k ≠ v2.ownBlock := by intro e; rw [← e] at hm; simp at hm
    rw [heap_setCell_other w4 _ k _ hkb]
    exact (hgrow.block k (by simp; omega) hkv).trans (heap_alloc_old w3 o hk)
  · intro k hk
    simp only [List.mem_cons, List.mem_append, List.not_mem_nil, or_false] at hk ⊢
    rcases hk with rfl | hk | rfl
    · exact .inl (.inl rfl)
    · exact .inl (.inr (.inl hk))
    · rcases hat with h | h
      · exact .inl (.inr (.inr (by simp [h])))
      · right; omega

end Go.Proofs.Ytgdeeojamnbakaa
