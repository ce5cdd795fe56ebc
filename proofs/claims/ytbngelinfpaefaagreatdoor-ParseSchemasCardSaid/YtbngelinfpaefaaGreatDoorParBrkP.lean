/- What ParseBrackets walks on: nodes put one behind the other; how many tokens open a level. No walk here. -/
import Derived.Test.YtbngelinfpaefaaGreatDoorParGl
import Derived.Test.YtbngelinfpaefaaGreatDoorParGm
import Derived.Test.YtbngelinfpaefaaGreatDoorParGk
namespace Go.Proofs.YtbngelinfpaefaaGreatDoor
open Go.RowKit

theorem run_app_none {P : Program} {w : World} {s : Nat} (base : Nat) (T ty e : TypeId) (i : TypeInfo) (ht : P.underlying T = some (.slice e)) (hi : P.info? e = some i) (v : Value) (n c : Nat) (xs : List Value)
    (hown : w.ownsRow base e s v n xs) : (Builtin.append_ #[T, T] ty #[v, .slice none 0 c]).run P w = .ok v w := by
  rcases hown.2 with ⟨rfl, rfl⟩ | ⟨g, cap, cur, rfl, _, _, hnc, _⟩ <;>
    simp [Builtin.append_, run_underlying ht, sizeOf, typeInfo, Builtin.lenOf, Builtin.firstCells, *, storeCells]
/-- nodes, and nodes behind them -/
theorem run_app_nds {w : World} {base : Nat} {A A2 : Option Addr} {c c2 : Nat} {l m : List Nd} (ho : OwnN w base A c l) (h2 : NRow w w.heap.size A2 m) (r : List Nd) (hr : r = l ++ m) (n : Nat) (hn : n = m.length) (hm : r.length ≤ 2000000000) (hbase : base ≤ w.heap.size) :
    ∃ A' c' w', (Builtin.append_ #[32, 32] 32 #[.slice A l.length c, .slice A2 n c2]).run Tryz.prog w = .ok (.slice A' r.length c') w' ∧ OwnN w' base A' c' r ∧ Below base w w' := by
  subst hr
  subst hn
  obtain ⟨i, hi, hz, hs, hb⟩ := info_three infoN
  have hln : (l ++ m).length = l.length + m.length := List.length_append
  have hown : w.ownsRow base 53 5 (.slice A l.length c) l.length (flatN l) := ho
  rcases A2 with _ | a
  · have e : m = [] := by
      rcases h2 with e | ⟨g, o, e, _⟩
      · exact e
      · cases e
    subst e
    refine ⟨A, c, w, ?_, by rw [List.append_nil]; exact ho, Below.refl _ _⟩
    rw [List.append_nil]
    exact run_app_none (P := Tryz.prog) base 32 32 53 i Tryz.underlying32 hi _ _ c2 _ hown
  · have hc : ∀ j u, (flatN m)[j]? = some u → w.cell? (a.add j) = some u := fun j u hu => by
      have hj : j < m.length * 5 := by
        have := (List.getElem?_eq_some_iff.1 hu).1
        rwa [flatN_len] at this
      have hd : j / 5 < m.length := by omega
      obtain ⟨x, hx⟩ : ∃ x, m[j / 5]? = some x := ⟨_, List.getElem?_eq_getElem hd⟩
      obtain ⟨g, o, e, _, c0, c1, c2, c3, c4⟩ := h2.at_ hx
      cases e
      have hf := flatN_at m (j / 5) x hx (j % 5) (by omega)
      rw [show j / 5 * 5 + j % 5 = j by omega, hu] at hf
      rw [Addr.add_lit, show o + j = o + j / 5 * 5 + j % 5 by omega]
      rcases (by omega : j % 5 = 0 ∨ j % 5 = 1 ∨ j % 5 = 2 ∨ j % 5 = 3 ∨ j % 5 = 4) with z | z | z | z | z <;> rw [z] at hf ⊢
      · exact c0.trans hf.symm
      · exact c1.trans hf.symm
      · exact c2.trans hf.symm
      · exact c3.trans hf.symm
      · exact c4.trans hf.symm
    obtain ⟨v', w', hr, ho', hg, _, _⟩ := run_append_own_at (P := Tryz.prog) w base 32 32 53 i _ 5 48 Tryz.underlying32 hi hz hs hb rfl (by decide) _ l.length (flatN l) hown a m.length c2 (flatN m) (flatN_len m) hc
      (fun u hu => by
        unfold flatN at hu
        obtain ⟨x, _, hx⟩ := List.mem_flatMap.1 hu
        have hx2 : u ∈ [Value.int .i64 (x.op : Nat), .int .i64 (x.n : Nat), .int .u64 (x.num : Nat), .string (str x.t), .int .i64 (x.a : Nat)] := hx
        simp only [List.mem_cons, List.not_mem_nil, or_false] at hx2
        rcases hx2 with rfl | rfl | rfl | rfl | rfl <;> rfl) (by simp only [maxLen]; omega) (by omega) hbase
    rw [← flatN_append, ← hln] at ho'
    have hB : Below base w w' := ⟨hg.os, hg.tape, hg.output, hg.size, fun x hx => hg.block x (by omega) fun e => by have := (World.ownsRow.lt hown x e.symm).1; omega⟩
    rcases ho'.2 with ⟨rfl, h0⟩ | ⟨g, cap, cur, rfl, rest⟩
    · exact ⟨none, 0, w', by rw [hr, h0], by unfold OwnN; rw [h0] at ho' ⊢; exact ho', hB⟩
    · exact ⟨some ⟨g, 0, none⟩, cap, w', hr, ho', hB⟩
theorem own_nds0 (w : World) (base : Nat) (hb : base ≤ w.heap.size) : OwnN (w.alloc (.cells #[] 53)) base (some ⟨w.heap.size, 0, none⟩) 0 [] :=
  ⟨rfl, .inr ⟨w.heap.size, 0, _, rfl, hb, heap_alloc_new w _, Nat.le_refl _, Nat.zero_le _, rfl, rfl⟩⟩
theorem nr_func {R : Nat → Nat → Prop} (hR : ∀ a b c, R a b → R a c → c = b) {n m m' : List Nd} (h : Rel2 (Nr R) n m) (h' : Rel2 (Nr R) n m') : m' = m := by
  induction h generalizing m' with
  | nil => cases h'; rfl
  | @cons a b l q h1 _ ih =>
    cases h' with
    | @cons _ b' _ q' k1 k2 =>
      rw [ih k2]
      obtain ⟨o, n, u, t, p⟩ := b
      obtain ⟨o', n', u', t', p'⟩ := b'
      obtain ⟨a1, a2, a3, a4, a5⟩ := h1
      obtain ⟨c1, c2, c3, c4, c5⟩ := k1
      dsimp only at a1 a2 a3 a4 a5 c1 c2 c3 c4 c5
      rw [c1, c2, c3, c4, a1, a2, a3, a4, hR _ _ _ a5 c5]
theorem cnt_zero (T : List Tk) : cnt T 0 = 0 := rfl
theorem cnt_next {T : List Tk} {k : Nat} {x : Tk} (h : T[k]? = some x) : cnt T (k + 1) = cnt T k + (if opk x then 1 else 0) := by
  obtain ⟨hk, e⟩ := List.getElem?_eq_some_iff.1 h
  unfold cnt
  rw [List.take_succ_eq_append_getElem hk, List.filter_append, List.length_append, e]
  cases hx : opk x <;> simp [hx]
theorem cnt_le (T : List Tk) (k : Nat) : cnt T k ≤ k := by
  unfold cnt
  have := List.length_filter_le opk (T.take k)
  rw [List.length_take] at this
  omega
/-- the nodes of a text are alike themselves -/
theorem val_more (r : ByteArray) (hr : r.size ≤ 9000000000000000000) : Rel2 (Nr (More 0 true)) (valS r).nds (valS r).nds :=
  Rel2.comp (val_self r) (val_self r) fun _ _ _ => Nr.comp fun a b c h1 h2 => by
    obtain ⟨rfl, h1⟩ := h1
    exact more_zero hr ⟨h2.1, h1⟩
theorem val_more1 {s : ByteArray} (hs : s.size ≤ 131072) {m : List Nd} (h : Rel2 (Nr fun a a' => a' = a + 1) (valS s).nds m) : Rel2 (Nr (More 1 true)) (valS s).nds m :=
  Rel2.comp (val_self s) h fun _ _ _ => Nr.comp fun a b c h1 h2 => by
    obtain ⟨rfl, h1⟩ := h1
    unfold More
    rw [if_pos rfl, h2]
    unfold wrap64
    omega
theorem bad_nds {s : ByteArray} (h : (valS s).err ≠ 0) : (valS s).nds = [] := by
  cases hs : valS s with
  | ok l => rw [hs] at h; exact absurd rfl h
  | bad a e => rfl
end Go.Proofs.YtbngelinfpaefaaGreatDoor
