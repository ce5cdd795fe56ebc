/- Rows of subtrees: in a block, of the call's own; one more appended. No walk here. -/
import Derived.Test.YtmbiompmhaiehaaDoorPoRow
import Derived.Deep.AppendLies
import Derived.Test.YtmbiompmhaiehaaDoorExGb
namespace Go.Proofs.YtmbiompmhaiehaaDoor
open Go.RowKit

/-- a block with subtrees of x in front: these roots -/
def KR (w : World) (gk x : Nat) (l : List Nat) : Prop := ∃ cur, CB w gk 43 cur ∧ ∀ j (h : j < l.length), cur[j * 2]? = some (.pointer (some ⟨x, 0, none⟩)) ∧ cur[j * 2 + 1]? = some (.int .i64 ((l[j] : Nat) : Int))
section
variable {w w' : World} {gk x : Nat} {l : List Nat}
theorem KR.len (h : KR w gk x l) : gk < w.heap.size := by
  obtain ⟨cur, h, _⟩ := h
  exact h.len
theorem KR.keep (h : KR w gk x l) (hb : w'.heap[gk]? = w.heap[gk]?) : KR w' gk x l := by
  obtain ⟨cur, h, hc⟩ := h
  exact ⟨cur, h.keep hb, hc⟩
theorem KR.at_ (h : KR w gk x l) {j : Nat} (hj : j < l.length) : w.cell? ⟨gk, j * 2, none⟩ = some (.pointer (some ⟨x, 0, none⟩)) ∧ w.cell? ⟨gk, j * 2 + 1, none⟩ = some (.int .i64 ((l[j] : Nat) : Int)) ∧ w.frozen? ⟨gk, j * 2, none⟩ = false ∧ w.frozen? ⟨gk, j * 2 + 1, none⟩ = false := by
  obtain ⟨cur, h, hc⟩ := h
  obtain ⟨h1, h2⟩ := hc j hj
  exact ⟨by rw [h.at_]; exact h1, by rw [h.at_]; exact h2, h.frozen _, h.frozen _⟩
theorem KR.set (h : KR w gk x l) (i v : Nat) (v' : Int) (hv : v' = (v : Nat)) : KR ((w.setCell ⟨gk, i * 2, none⟩ (.pointer (some ⟨x, 0, none⟩))).setCell ⟨gk, i * 2 + 1, none⟩ (.int .i64 v')) gk x (l.set i v) := by
  subst hv
  obtain ⟨cur, h, hc⟩ := h
  have h1 := heap_setCell_same w gk (i * 2) _ _ (.pointer (some ⟨x, 0, none⟩)) h
  have h2 := heap_setCell_same _ gk (i * 2 + 1) _ _ (.int .i64 (v : Nat)) h1
  refine ⟨_, h2, fun j hj => ?_⟩
  rw [List.length_set] at hj
  obtain ⟨k1, k2⟩ := hc j hj
  have s1 := (Array.getElem?_eq_some_iff.1 k1).1
  have s2 := (Array.getElem?_eq_some_iff.1 k2).1
  by_cases hji : j = i
  · subst hji
    refine ⟨?_, ?_⟩
    · rw [Array.getElem?_setIfInBounds_ne (by omega), Array.getElem?_setIfInBounds_self_of_lt s1]
    · rw [Array.getElem?_setIfInBounds_self_of_lt (by rw [Array.size_setIfInBounds]; exact s2), List.getElem_set_self]
  · refine ⟨?_, ?_⟩
    · rw [Array.getElem?_setIfInBounds_ne (by omega), Array.getElem?_setIfInBounds_ne (by omega)]
      exact k1
    · rw [Array.getElem?_setIfInBounds_ne (by omega), Array.getElem?_setIfInBounds_ne (by omega), List.getElem_set_ne (by omega)]
      exact k2
end
def flatK (x : Nat) (l : List Nat) : List Value := flatR (fun r : Nat => #[.pointer (some ⟨x, 0, none⟩), .int .i64 (r : Nat)]) l
def OwnK (w : World) (B : Nat) (A : Option Addr) (c x : Nat) (l : List Nat) : Prop := w.ownsRow B 43 2 (.slice A l.length c) l.length (flatK x l)
theorem infoK : (Tryd.prog.info? 43).map (fun i => (i.zero, i.size, i.bytes)) = some (some (.agg #[.pointer none, .int .i64 0]), 2, 16) := by kernel_rfl
theorem flatK_at (x : Nat) (l : List Nat) (j : Nat) (h : j < l.length) : (flatK x l)[j * 2]? = some (.pointer (some ⟨x, 0, none⟩)) ∧ (flatK x l)[j * 2 + 1]? = some (.int .i64 ((l[j] : Nat) : Int)) := by
  have hx : l[j]? = some l[j] := List.getElem?_eq_getElem h
  have q := flatR_at (f := fun r : Nat => #[Value.pointer (some ⟨x, 0, none⟩), .int .i64 (r : Nat)]) (s := 2) (fun _ => rfl) l j l[j] hx
  exact ⟨q 0 (by decide), q 1 (by decide)⟩
theorem OwnK.kr {w : World} {B c x : Nat} {A : Option Addr} {l : List Nat} (h : OwnK w B A c x l) (h0 : 0 < l.length) : ∃ gk, A = some ⟨gk, 0, none⟩ ∧ B ≤ gk ∧ gk < w.heap.size ∧ KR w gk x l := by
  rcases h.2 with ⟨_, hz⟩ | ⟨g, cap, cur, hv, hg, hc, _, _, hs, ht⟩
  · omega
  · injection hv with e1 e2 e3
    refine ⟨g, e1, hg, (Array.getElem?_eq_some_iff.1 hc).1, cur, hc, fun j hj => ?_⟩
    obtain ⟨k1, k2⟩ := flatK_at x l j hj
    rw [← ht] at k1 k2
    rw [List.getElem?_take] at k1 k2
    split at k1
    · split at k2
      · exact ⟨by rw [← Array.getElem?_toList]; exact k1, by rw [← Array.getElem?_toList]; exact k2⟩
      · cases k2
    · cases k1
theorem OwnK.nil (w : World) (B x : Nat) : OwnK w B none 0 x [] := World.ownsRow_nil w B _ 2
theorem OwnK.keep {w w' : World} {B : Nat} {A : Option Addr} {c x : Nat} {l : List Nat} (h : OwnK w B A c x l) (hk : ∀ b, B ≤ b → b < w.heap.size → w'.heap[b]? = w.heap[b]?) : OwnK w' B A c x l :=
  ownsRow_keep h fun b hb => by
    have := World.ownsRow.lt h b (by rw [obk_own]; exact hb)
    exact hk b this.1 this.2
/-- one more, just laid and appended -/
theorem run_app_sub {w : World} {B : Nat} {A : Option Addr} {c x : Nat} {l : List Nat} (h : OwnK w B A c x l) (r : Nat) (hl : (l.length + 1) * 16 ≤ 140737488355328) (hB : B ≤ w.heap.size) :
    ∃ g c' w', (Builtin.append_ #[57, 57] 57 #[.slice A l.length c, .slice (some ⟨w.heap.size, 0, none⟩) 1 1]).run Tryd.prog (w.alloc (.cells #[.pointer (some ⟨x, 0, none⟩), .int .i64 (r : Nat)] 43)) = .ok (.slice (some ⟨g, 0, none⟩) (l.length + 1) c') w' ∧
      OwnK w' B (some ⟨g, 0, none⟩) c' x (l ++ [r]) ∧ Below B w w' := by
  obtain ⟨i, hi, hz, hs, hby⟩ := info_three infoK
  have ho := h.alloc (.cells #[.pointer (some ⟨x, 0, none⟩), .int .i64 (r : Nat)] 43)
  obtain ⟨g, c', w', hr, hown, hg, hat, hlt⟩ := run_append_lies (P := Tryd.prog) (w.alloc (.cells #[.pointer (some ⟨x, 0, none⟩), .int .i64 (r : Nat)] 43)) 57 57 B 43 i _ 2 16 Tryd.underlying57 hi hz hs hby rfl (by decide) _ l.length (flatK x l) ho ⟨w.heap.size, 0, none⟩ 1 1 [.pointer (some ⟨x, 0, none⟩), .int .i64 (r : Nat)]
    rfl (fun j u hu => by rw [Addr.add_lit, Nat.zero_add, cell_of_row _ w.heap.size _ _ 43 (0, 0) (heap_alloc_new w _), ← Array.getElem?_toList]; exact hu)
    (fun u hu => by simp only [List.mem_cons, List.not_mem_nil, or_false] at hu; rcases hu with rfl | rfl <;> rfl) (by decide) (by simp only [maxLen]; omega) (by omega) (by simp; omega) _ rfl
  refine ⟨g, c', w', hr, ?_, ?_⟩
  · unfold OwnK flatK
    rw [flatR_snoc, List.length_append]
    exact hown
  · have hg2 : w.grownBy w' (Value.slice A l.length c).ownBlock := grown_trans (below_grown ((Below.refl _ w).alloc (Nat.le_refl _) _) _) hg
    exact ⟨hg2.os, hg2.tape, hg2.output, hg2.size, fun k hk => hg2.block k (by omega) fun e => by
      have := (World.ownsRow.lt h k e.symm).1
      omega⟩
end Go.Proofs.YtmbiompmhaiehaaDoor
