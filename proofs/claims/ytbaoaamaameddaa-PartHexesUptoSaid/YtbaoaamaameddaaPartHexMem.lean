/- Two rows of bytes of the call's own, written in turn. No walk here. -/
import Derived.Test.YtbaoaamaameddaaPartDig
namespace Go.Proofs.Ytbaoaamaameddaa
open Go.RowKit
open Go.Lib (byteCells)

/-- the row v has grown into r; beside its block only new ones have turned -/
structure AppTo (w : World) (base : Nat) (v : Value) (r : List UInt8) (A' : Option Addr) (c' : Nat) (w' : World) : Prop where
  own : OwnB w' base 5 A' c' r
  grown : w.grownBy w' v.ownBlock
  blk : ∀ k, (Value.slice A' r.length c').ownBlock = some k → v.ownBlock = some k ∨ w.heap.size ≤ k

/-- a block just made, appended -/
theorem run_app_two {w : World} {base : Nat} {A : Option Addr} {c : Nat} {pre : List UInt8} (ho : OwnB w base 5 A c pre) (cs : Array Value) (l : List UInt8) (n : Nat) (hn : n = l.length) (h : cs.toList = byteCells l) (T : TypeId)
    (r : List UInt8) (hr : r = pre ++ l) (hm : r.length ≤ 140737488355328) (hbase : base ≤ w.heap.size) :
    ∃ A' c' w', (Builtin.append_ #[39, 39] 39 #[.slice A pre.length c, .slice (some ⟨w.heap.size, 0, none⟩) n n]).run Try.prog (w.alloc (.cells cs T)) = .ok (.slice A' r.length c') w' ∧
      AppTo (w.alloc (.cells cs T)) base (.slice A pre.length c) r A' c' w' := by
  obtain ⟨i0, hi, hz0, hz1, hz2⟩ := info_parts infoB
  subst hr
  subst hn
  have hln : (pre ++ l).length = pre.length + l.length := List.length_append
  have hcell : ∀ j u, (byteCells l)[j]? = some u → (w.alloc (.cells cs T)).cell? ((⟨w.heap.size, 0, none⟩ : Addr).add j) = some u := fun j u hu => by
    rw [Addr.add_lit, cell_of_row _ w.heap.size _ cs T (0, 0) (heap_alloc_new w _), Nat.zero_add, ← Array.getElem?_toList, h]
    exact hu
  obtain ⟨v', w', hr, hown, hg, _, hblk⟩ := run_append_own_at (P := Try.prog) (w.alloc (.cells cs T)) base 39 39 5 i0 _ 1 1 Try.underlying39 hi hz0 hz1 hz2 rfl (by decide) _ pre.length (byteCells pre) (ho.new _) ⟨w.heap.size, 0, none⟩ l.length l.length (byteCells l)
    (by rw [Go.Lib.byteCells_length]; omega) hcell (byteCells_one l) (by simp only [maxLen]; omega) (by omega) (by simp; omega)
  rw [← Go.Lib.byteCells_append, ← hln] at hown
  rcases hown.2 with ⟨rfl, h0⟩ | ⟨g, cap, cur, rfl, rest⟩
  · exact ⟨none, 0, w', by rw [hr, h0], ⟨by unfold OwnB; rw [h0] at hown ⊢; exact hown, hg, fun k hk => by simp [Value.ownBlock] at hk⟩⟩
  · refine ⟨some ⟨g, 0, none⟩, cap, w', hr, ⟨hown, hg, fun k hk => ?_⟩⟩
    rcases hblk with h | h
    · left; rw [← h]; exact hk
    · right
      have e : some k = some (w.alloc (.cells cs T)).heap.size := by rw [← h, ← hk]
      have := Option.some.inj e; omega

/-- At a step of a region that draws, out of a run equation. -/
theorem step_append_run {P : Program} {w w' : World} {ops : Array Oper} {o : Oper} {a : Act} {K : Act → World → Prop} {Q : Exit → Act → World → Prop} {E : Prop} (hgd : o.guard = none) (s x : Operand) (T : TypeId)
    (ho : o.op = .call { callee := .builtin .append, args := #[s, x], argTypes := #[T, T] }) {u v v' : Value} (hs : a.eval s = u) (hx : a.eval x = v)
    (hrun : (Builtin.append_ #[T, T] o.type #[u, v]).run P w = .ok v' w') (h : K (a.put o.dst v') w') : if Region.wanted o (yielded ops a.tmps) = true then Oper.wp P o a w K Q else E := by
  have hw : Region.wanted o (yielded ops a.tmps) = true := by simp [Region.wanted, hgd]
  rw [if_pos hw]
  unfold Oper.wp execOp
  simp only [ho, resolve, invoke, builtin, Sem.run_bind, Sem.run_pure, Result.andThen_ok, List.map_toArray, List.map_cons, List.map_nil, hs, hx, hrun]
  exact h

/-- two rows of the call's own, in blocks of their own -/
structure Two (w0 w : World) (A : Option Addr) (c : Nat) (l : List UInt8) (A2 : Option Addr) (c2 : Nat) (l2 : List UInt8) : Prop where
  one : OwnB w w0.heap.size 5 A c l
  two : OwnB w w0.heap.size 5 A2 c2 l2
  apart : ∀ k, (Value.slice A l.length c).ownBlock = some k → (Value.slice A2 l2.length c2).ownBlock ≠ some k
  below : Below w0.heap.size w0 w

theorem Two.swap {w0 w : World} {A : Option Addr} {c : Nat} {l : List UInt8} {A2 : Option Addr} {c2 : Nat} {l2 : List UInt8} (h : Two w0 w A c l A2 c2 l2) : Two w0 w A2 c2 l2 A c l :=
  ⟨h.two, h.one, fun k hk e => h.apart k e hk, h.below⟩
theorem Two.nil (w : World) : Two w w none 0 [] none 0 [] := ⟨OwnB.nil _ _ _, OwnB.nil _ _ _, fun k hk => by simp [Value.ownBlock] at hk, Below.refl _ _⟩
theorem Two.then_ {w0 w w' : World} {A : Option Addr} {c : Nat} {l : List UInt8} {A2 : Option Addr} {c2 : Nat} {l2 : List UInt8} (h : Two w0 w A c l A2 c2 l2) (hb : Below w.heap.size w w') : Two w0 w' A c l A2 c2 l2 :=
  ⟨h.one.then_ hb, h.two.then_ hb, h.apart, h.below.trans (hb.mono h.below.size)⟩

/-- a row of the call's own stands where its block stands -/
theorem own_kept {w w' : World} {base : Nat} {e : TypeId} {v : Value} {n : Nat} {xs : List Value} (h : w.ownsRow base e 1 v n xs) (hk : ∀ k, v.ownBlock = some k → k < w.heap.size → w'.heap[k]? = w.heap[k]?) : w'.ownsRow base e 1 v n xs := by
  refine ⟨h.1, ?_⟩
  rcases h.2 with h0 | ⟨g, cap, cur, hv, hg, hc, rest⟩
  · exact .inl h0
  · refine .inr ⟨g, cap, cur, hv, hg, (hk g (by rw [hv]; rfl) (Array.getElem?_eq_some_iff.1 hc).1).trans hc, rest⟩

/-- the first one has grown -/
theorem Two.grow {w0 w w' : World} {A : Option Addr} {c : Nat} {l : List UInt8} {A2 : Option Addr} {c2 : Nat} {l2 : List UInt8} (h : Two w0 w A c l A2 c2 l2) {cs : Array Value} {T : TypeId} {r : List UInt8} {A' : Option Addr} {c' : Nat}
    (ha : AppTo (w.alloc (.cells cs T)) w0.heap.size (.slice A l.length c) r A' c' w') : Two w0 w' A' c' r A2 c2 l2 := by
  have hB := h.below.size
  have h2 := h.two.new (.cells cs T)
  refine ⟨ha.own, own_kept h2 fun k hk hlt => ha.grown.block k hlt fun e => h.apart k e.symm hk, fun k hk e => ?_, (h.below.alloc hB _).grown ha.grown (by simp; omega) fun k hk => (h.one.lt k hk).1⟩
  rcases ha.blk k hk with g | g
  · exact h.apart k g e
  · have := (h.two.lt k e).2
    simp at g
    omega

/-- the first one has grown, in a region that draws: what its append does, and what stands behind it -/
theorem Two.append {w0 w : World} {A : Option Addr} {c : Nat} {l : List UInt8} {A2 : Option Addr} {c2 : Nat} {l2 : List UInt8} (h : Two w0 w A c l A2 c2 l2) (cs : Array Value) (u : List UInt8) (n : Nat) (hn : n = u.length) (hu : cs.toList = byteCells u)
    (r : List UInt8) (hr : r = l ++ u) (hm : r.length ≤ 140737488355328) :
    ∃ A' c' w', (Builtin.append_ #[39, 39] 39 #[.slice A l.length c, .slice (some ⟨w.heap.size, 0, none⟩) n n]).run Try.prog (w.alloc (.cells cs 5)).drew = .ok (.slice A' r.length c') w' ∧ Two w0 w' A' c' r A2 c2 l2 := by
  have h1 : Two w0 (w.drewN 1) A c l A2 c2 l2 := h.then_ (Below.newN w 1)
  obtain ⟨A', c', w', h2, h3⟩ := run_app_two h1.one cs u n hn hu 5 r hr hm h1.below.size
  exact ⟨A', c', w', h2, h1.grow h3⟩

/-- one byte of a row of the call's own written over -/
theorem own_set {w : World} {base : Nat} {A : Option Addr} {c : Nat} {l : List UInt8} (h : OwnB w base 5 A c l) (k : Nat) (hk : k < l.length) (x : UInt8) :
    ∃ g, A = some ⟨g, 0, none⟩ ∧ base ≤ g ∧ w.cell? ⟨g, k, none⟩ = some (.int .u8 (l[k].toNat : Nat)) ∧ w.frozen? ⟨g, k, none⟩ = false ∧ Byt (w.setCell ⟨g, k, none⟩ (.int .u8 (x.toNat : Nat))) (w.setCell ⟨g, k, none⟩ (.int .u8 (x.toNat : Nat))).heap.size A (l.set k x) := by
  rcases h.2 with ⟨hv, h0⟩ | ⟨g, cap, cur, hv, hb, hg, rest⟩
  · omega
  · injection hv with h1 h2 h3
    subst h1
    have hr := h.reads
    obtain ⟨b, o, hA, hbl, hc⟩ := hr.at_ (by omega)
    obtain ⟨rfl, rfl⟩ : g = b ∧ 0 = o := by
      have := Option.some.inj hA
      injection this with p q
      exact ⟨p, q⟩
    have hck := hc k hk
    rw [Nat.zero_add] at hck
    refine ⟨g, rfl, hb, hck, Lib.frozen_of_heap hg k, .inr ⟨g, 0, rfl, by simpa [World.setCell] using hbl, fun j hj => ?_⟩⟩
    rw [List.length_set] at hj
    rw [Nat.zero_add]
    by_cases hjk : k = j
    · subst hjk
      rw [World.cell?_setCell_same _ _ _ hck, List.getElem_set_self]
    · rw [World.cell?_setCell_other _ _ _ _ (by simp), List.getElem_set_ne hjk]
      have := hc j hj
      rwa [Nat.zero_add] at this
end Go.Proofs.Ytbaoaamaameddaa
