/- Lists of one kind, each of the call's own: filled with marks, grown; rows of slices. No walk here. -/
import Derived.Test.YtbngelinfpaefaaGreatDoorParGh
import Derived.Test.YtbngelinfpaefaaGreatDoorParGk
import Derived.Test.YtbngelinfpaefaaGreatDoorParGl
namespace Go.Proofs.YtbngelinfpaefaaGreatDoor
open Go.RowKit

/-- a slice -/
structure Sl where
  A : Option Addr
  n : Nat
  c : Nat
def Sl.v (r : Sl) : Value := .slice r.A r.n r.c
def Sl.C (r : Sl) : Array Value := #[r.v]
/-- one kind of lists: the elements' type, how many cells they have, the mark of each list -/
structure Kd where
  T : TypeId
  s : Nat
  me : Nat → Array Value
structure Kd.Ok (K : Kd) : Prop where
  pos : 0 < K.s
  size : ∀ m, (K.me m).size = K.s
  one : ∀ m, ∀ u ∈ (K.me m).toList, u.oneCell' = true
/-- the first k elements are the mark m -/
def MkL (K : Kd) (m k : Nat) (xs : List Value) : Prop := ∀ q, q < k → ∀ j v, (K.me m)[j]? = some v → xs[q * K.s + j]? = some v
def Fil (K : Kd) (w : World) (B : Nat) (r : Sl) (m k : Nat) : Prop := ∃ xs, w.ownsRow B K.T K.s (.slice r.A r.n r.c) r.n xs ∧ k ≤ r.n ∧ MkL K m k xs
/-- n elements at an address are the mark m -/
def Vw (K : Kd) (w : World) (A : Option Addr) (n m : Nat) : Prop := n = 0 ∨ ∃ g, A = some ⟨g, 0, none⟩ ∧ g < w.heap.size ∧ ∀ q, q < n → ∀ j v, (K.me m)[j]? = some v → w.cell? ⟨g, q * K.s + j, none⟩ = some v
theorem Vw.keep {K : Kd} {w w' : World} {A : Option Addr} {n m : Nat} (h : Vw K w A n m) (hs : w.heap.size ≤ w'.heap.size) (hk : ∀ b, obk A = some b → b < w.heap.size → w'.heap[b]? = w.heap[b]?) : Vw K w' A n m := by
  rcases h with h | ⟨g, rfl, hg, hc⟩
  · exact .inl h
  · exact .inr ⟨g, rfl, Nat.lt_of_lt_of_le hg hs, fun q hq j v hv => (World.cell?_of_block (w := w) (hk g rfl hg)).trans (hc q hq j v hv)⟩
section
variable {K : Kd} {w w' : World} {B : Nat} {r : Sl} {m k : Nat}
theorem Fil.of {xs : List Value} (h : w.ownsRow B K.T K.s (.slice r.A r.n r.c) r.n xs) : Fil K w B r m 0 := ⟨xs, h, Nat.zero_le _, fun _ z => absurd z (Nat.not_lt_zero _)⟩
theorem Fil.none_ (h : Fil K w B r m k) (m' : Nat) : Fil K w B r m' 0 := by
  obtain ⟨xs, h1, _, _⟩ := h
  exact Fil.of h1
theorem Fil.low {B' : Nat} (h : Fil K w B r m k) (hB : B' ≤ B) : Fil K w B' r m k := by
  obtain ⟨xs, h1, h2, h3⟩ := h
  exact ⟨xs, ownsRow_low h1 hB, h2, h3⟩
theorem Fil.keep (h : Fil K w B r m k) (hk : ∀ b, obk r.A = some b → w'.heap[b]? = w.heap[b]?) : Fil K w' B r m k := by
  obtain ⟨xs, h1, h2, h3⟩ := h
  exact ⟨xs, ownsRow_keep h1 hk, h2, h3⟩
theorem Fil.bd (h : Fil K w B r m k) {b : Nat} (hb : obk r.A = some b) : B ≤ b ∧ b < w.heap.size := by
  obtain ⟨xs, h1, _⟩ := h
  exact World.ownsRow.lt h1 b (by rw [obk_own]; exact hb)
theorem Fil.form (h : Fil K w B r m k) (hn : 0 < r.n) : ∃ g, r.A = some ⟨g, 0, none⟩ ∧ B ≤ g ∧ g < w.heap.size := by
  obtain ⟨xs, h1, _⟩ := h
  obtain ⟨g, cap, hv, h2, h3⟩ := h1.form hn
  injection hv with e1 e2 e3
  exact ⟨g, e1, h2, h3⟩
theorem Fil.view (h : Fil K w B r m r.n) : Vw K w r.A r.n m := by
  by_cases hn : r.n = 0
  · exact .inl hn
  obtain ⟨g, e, h1, h2⟩ := h.form (by omega)
  obtain ⟨xs, h3, _, h4⟩ := h
  rw [e] at h3
  refine .inr ⟨g, e, h2, fun q hq j v hv => ?_⟩
  have := World.ownsRow.cells h3 (g := g) rfl _ _ (h4 q hq j v hv)
  rwa [Addr.add_lit, Nat.zero_add] at this
theorem MkL.set {xs : List Value} (h : MkL K m k xs) (j : Nat) (u : Value) (hj : k * K.s ≤ j) (hK : K.Ok) : MkL K m k (xs.set j u) := fun q hq i v hv => by
  have hi : i < K.s := by rw [← hK.size m]; exact (Array.getElem?_eq_some_iff.1 hv).1
  have h1 : (q + 1) * K.s ≤ k * K.s := Nat.mul_le_mul_right _ hq
  rw [Nat.add_mul, Nat.one_mul] at h1
  rw [List.getElem?_set_ne (by omega)]
  exact h q hq i v hv
/-- cells written one by one into an own row -/
theorem own_sets {g n cap : Nat} {e : TypeId} {s : Nat} : ∀ (vs : List Value) (o : Nat) (w : World) (xs : List Value), w.ownsRow B e s (.slice (some ⟨g, 0, none⟩) n cap) n xs → o + vs.length ≤ xs.length →
    ∃ ys, (w.setCells g o vs).ownsRow B e s (.slice (some ⟨g, 0, none⟩) n cap) n ys ∧ (∀ j, j < o ∨ o + vs.length ≤ j → ys[j]? = xs[j]?) ∧ ∀ j u, vs[j]? = some u → ys[o + j]? = some u
  | [], o, w, xs, h, _ => ⟨xs, h, fun _ _ => rfl, fun j u hu => by cases hu⟩
  | v :: l, o, w, xs, h, hl => by
    rw [World.setCells]
    rw [List.length_cons] at hl
    obtain ⟨ys, h1, h2, h3⟩ := own_sets l (o + 1) _ _ (h.stored o v).1 (by rw [List.length_set]; omega)
    refine ⟨ys, h1, fun j hj => ?_, fun j u hu => ?_⟩
    · rw [List.length_cons] at hj
      rw [h2 j (by omega), List.getElem?_set_ne (by omega)]
    · cases j with
      | zero =>
        rw [List.getElem?_cons_zero] at hu
        cases hu
        rw [h2 (o + 0) (.inl (by omega)), Nat.add_zero, List.getElem?_set_self (by omega)]
      | succ j =>
        rw [List.getElem?_cons_succ] at hu
        have := h3 j u hu
        rwa [show o + 1 + j = o + (j + 1) by omega] at this
theorem Fil.put (hK : K.Ok) (h : Fil K w B r m k) {g : Nat} (hA : r.A = some ⟨g, 0, none⟩) (hk : k < r.n) : Fil K (w.setCells g (k * K.s) (K.me m).toList) B r m (k + 1) := by
  obtain ⟨xs, h1, h2, h3⟩ := h
  have hs : (K.me m).toList.length = K.s := by rw [Array.length_toList, hK.size]
  have hx := h1.1
  have hm : (k + 1) * K.s ≤ r.n * K.s := Nat.mul_le_mul_right _ hk
  rw [Nat.add_mul, Nat.one_mul] at hm
  rw [hA] at h1
  obtain ⟨ys, g1, g2, g3⟩ := own_sets (K.me m).toList (k * K.s) w xs h1 (by omega)
  rw [← hA] at g1
  refine ⟨ys, g1, hk, fun q hq j v hv => ?_⟩
  have hj : j < K.s := by rw [← hK.size m]; exact (Array.getElem?_eq_some_iff.1 hv).1
  rcases Nat.lt_or_eq_of_le (Nat.le_of_lt_succ hq) with z | z
  · have h4 : (q + 1) * K.s ≤ k * K.s := Nat.mul_le_mul_right _ z
    rw [Nat.add_mul, Nat.one_mul] at h4
    rw [g2 _ (.inl (by omega))]
    exact h3 q z j v hv
  · subst z
    exact g3 j v (by rw [Array.getElem?_toList]; exact hv)
theorem Fil.there (hK : K.Ok) (h : Fil K w B r m k) {g : Nat} (hA : r.A = some ⟨g, 0, none⟩) (hk : k < r.n) : w.there g (k * K.s) (K.me m).size := fun j hj => by
  obtain ⟨xs, h1, h2, h3⟩ := h
  have hx := h1.1
  have hm : (k + 1) * K.s ≤ r.n * K.s := Nat.mul_le_mul_right _ hk
  rw [Nat.add_mul, Nat.one_mul] at hm
  rw [hK.size] at hj
  rw [hA] at h1
  refine ⟨?_, h1.frozenAt _⟩
  have hj2 : k * K.s + j < xs.length := by omega
  have := World.ownsRow.cells h1 (g := g) rfl _ _ (List.getElem?_eq_getElem hj2)
  rw [Addr.add_lit, Nat.zero_add] at this
  rw [this]
  rfl
/-- at the store of a mark -/
theorem wpList_store_fil {P : Program} {ops : Array Oper} {rest : List Oper} {op : Oper} {a : Act} {Q : Exit → Act → World → Prop} (hgd : op.guard = none) (x y : Operand) (hK : K.Ok) (ho : op.op = .store K.T x y)
    (h : Fil K w B r m k) (hk : k < r.n) (g o : Nat) (hA : r.A = some ⟨g, 0, none⟩) (ho2 : o = k * K.s) (hx : a.eval x = .pointer (some ⟨g, o, none⟩)) (hy : a.eval y = .agg (K.me m)) (hi : (P.info? K.T).map (·.size) = some K.s)
    (hn : ∀ w2, Fil K w2 B r m (k + 1) → Turned g w w2 → wpList P ops Q rest (a.put op.dst undef) w2) : wpList P ops Q (op :: rest) a w := by
  subst ho2
  refine wpList_store_mid hgd K.T x y ho g (k * K.s) (K.me m) hx hy (h.there hK hA hk) (by rw [hi, hK.size]) ?_ (hn _ (h.put hK hA hk) (Turned.setCells _ _ _ (Turned.refl g w)))
  have := all_oneCell_toArray (hK.one m)
  simpa using this
/-- one mark more -/
theorem run_app_fil {P : Program} (hK : K.Ok) (t : TypeId) (i : TypeInfo) (z : Value) (bytes : Nat) (ht : P.underlying t = some (.slice K.T)) (hi : P.info? K.T = some i) (hz : i.zero = some z) (hs : i.size = K.s) (hby : i.bytes = bytes) (hzs : z.cells.size = K.s) (hbs : bytes ≤ 1000)
    (h : Fil K w B r m r.n) (hl : r.n ≤ 3000000) (hB : B ≤ w.heap.size) :
    ∃ g c' w', (Builtin.append_ #[t, t] t #[.slice r.A r.n r.c, .slice (some ⟨w.heap.size, 0, none⟩) 1 1]).run P (w.alloc (.cells (K.me m) K.T)) = .ok (.slice (some ⟨g, 0, none⟩) (r.n + 1) c') w' ∧
      Fil K w' B ⟨some ⟨g, 0, none⟩, r.n + 1, c'⟩ m (r.n + 1) ∧ (obk r.A = some g ∨ w.heap.size ≤ g) ∧ w.grownBy w' (obk r.A) ∧ (∀ n, n ≤ r.n → Vw K w r.A n m → Vw K w' r.A n m) := by
  obtain ⟨xs, h1, h2, h3⟩ := h
  have hby2 : (r.n + 1) * bytes ≤ 3000001 * 1000 := Nat.mul_le_mul (by omega) hbs
  have ho := h1.alloc (.cells (K.me m) K.T)
  have hlen := h1.1
  obtain ⟨g, c', w', hr, hown, hg, hat, hlt⟩ := run_append_lies (P := P) (w.alloc (.cells (K.me m) K.T)) t t B K.T i z K.s bytes ht hi hz hs hby hzs hK.pos _ r.n xs ho ⟨w.heap.size, 0, none⟩ 1 1 (K.me m).toList
    (by rw [Array.length_toList, hK.size, Nat.one_mul]) (fun j u hu => by rw [Addr.add_lit, Nat.zero_add, cell_of_row _ w.heap.size _ (K.me m) K.T (0, 0) (heap_alloc_new w _), ← Array.getElem?_toList]; exact hu)
    (hK.one m) (by decide) (by simp only [maxLen]; omega) (by omega) (by simp; omega) _ rfl
  rw [obk_own] at hg hat
  have hg2 : w.grownBy w' (obk r.A) := grown_trans (below_grown ((Below.refl _ w).alloc (Nat.le_refl _) _) _) hg
  have hat2 : obk r.A = some g ∨ w.heap.size ≤ g := hat.imp id fun e => by rw [e]; simp
  refine ⟨g, c', w', hr, ⟨xs ++ (K.me m).toList, hown, Nat.le_refl _, fun q hq j v hv => ?_⟩, hat2, hg2, fun n hn hv => ?_⟩
  · have hj : j < K.s := by rw [← hK.size m]; exact (Array.getElem?_eq_some_iff.1 hv).1
    rcases Nat.lt_or_eq_of_le (Nat.le_of_lt_succ hq) with z | z
    · have h4 : (q + 1) * K.s ≤ r.n * K.s := Nat.mul_le_mul_right _ z
      rw [Nat.add_mul, Nat.one_mul] at h4
      rw [List.getElem?_append_left (by omega)]
      exact h3 q z j v hv
    · subst z
      rw [List.getElem?_append_right (by omega), hlen, Nat.add_sub_cancel_left, Array.getElem?_toList]
      exact hv
  · -- what stood there stands there
    rcases hv with hv | ⟨g0, e0, hg0, hc0⟩
    · exact .inl hv
    by_cases hn0 : n = 0
    · exact .inl hn0
    refine .inr ⟨g0, e0, Nat.lt_of_lt_of_le hg0 hg2.size, fun q hq j v hv => ?_⟩
    have hj : j < K.s := by rw [← hK.size m]; exact (Array.getElem?_eq_some_iff.1 hv).1
    have h4 : (q + 1) * K.s ≤ r.n * K.s := Nat.mul_le_mul_right _ (by omega)
    rw [Nat.add_mul, Nat.one_mul] at h4
    have hx := h3 q (by omega) j v hv
    -- the row that was: where it is
    have key : ∀ (u : Value) (w9 : World), (Builtin.append_ #[t, t] t #[.slice r.A r.n r.c, .slice (some ⟨w.heap.size, 0, none⟩) 1 1]).run P (w.alloc (.cells (K.me m) K.T)) = .ok u w9 → w9.cell? ⟨g0, q * K.s + j, none⟩ = some v := by
      intro u w9 h9
      rw [e0] at h9 ho
      rcases ho.2 with ⟨hv0, _⟩ | ⟨g', cap, cur, hv0, hbg, hg', hnc, hcm, hcs, htake⟩
      · cases hv0
      · injection hv0 with e1 e2 e3
        injection e1 with e1
        injection e1 with e1
        subst e1
        subst e3
        by_cases hroom : r.n + 1 ≤ r.c
        · have hfit : r.n * i.size + (K.me m).toList.length ≤ cur.size := by
            have : (r.n + 1) * K.s ≤ r.c * K.s := Nat.mul_le_mul_right _ hroom
            rw [Nat.add_mul, Nat.one_mul] at this
            rw [Array.length_toList, hK.size, hs, hcs]
            exact this
          have hr2 := run_append_room (P := P) (w.alloc (.cells (K.me m) K.T)) t t K.T i ht hi g0 r.n r.c cur hg' ⟨w.heap.size, 0, none⟩ 1 1 (K.me m).toList (by rw [Array.length_toList, hK.size, Nat.one_mul, hs]) (fun j u hu => by rw [Addr.add_lit, Nat.zero_add, cell_of_row _ w.heap.size _ (K.me m) K.T (0, 0) (heap_alloc_new w _), ← Array.getElem?_toList]; exact hu) (hK.one m) hroom hfit
          rw [hr2] at h9
          injection h9 with _ h9
          rw [← h9, cell_of_row _ g0 _ _ K.T (0, 0) (setRow_heap _ g0 cur _ K.T (0, 0) hg')]
          have hx2 : (cur.toList.take (r.n * K.s))[q * K.s + j]? = some v := by rw [htake]; exact hx
          rw [hs, List.append_assoc, ← Array.getElem?_toList]
          show (cur.toList.take (r.n * K.s) ++ _)[q * K.s + j]? = some v
          rw [List.getElem?_append_left (List.getElem?_eq_some_iff.1 hx2).1]
          exact hx2
        · have holds : ∀ j u, xs[j]? = some u → (w.alloc (.cells (K.me m) K.T)).cell? ((⟨g0, 0, none⟩ : Addr).add j) = some u := ho.cells (g := g0) rfl
          have hr2 := run_append_grow (P := P) (w.alloc (.cells (K.me m) K.T)) t t K.T i z ht hi hz ⟨g0, 0, none⟩ r.n r.c xs (by rw [hs]; exact hlen) holds ⟨w.heap.size, 0, none⟩ 1 1 (K.me m).toList (by rw [Array.length_toList, hK.size, Nat.one_mul, hs]) (fun j u hu => by rw [Addr.add_lit, Nat.zero_add, cell_of_row _ w.heap.size _ (K.me m) K.T (0, 0) (heap_alloc_new w _), ← Array.getElem?_toList]; exact hu) (by omega) (by omega) (growslice_fits (by omega) (by rw [hby]; omega))
          rw [hr2] at h9
          injection h9 with _ h9
          rw [← h9]
          have := holds _ _ hx
          rw [Addr.add_lit, Nat.zero_add] at this
          rw [← this]
          exact World.cell?_of_block (w := w.alloc (.cells (K.me m) K.T)) (heap_alloc_old (w.alloc (.cells (K.me m) K.T)).drew _ (by show g0 < (w.alloc (.cells (K.me m) K.T)).heap.size; simp; omega))
    exact key _ _ hr
end

/-! ### only these blocks are written -/
structure On (P : Nat → Prop) (a w : World) : Prop where
  os : w.os = a.os
  tape : w.tape = a.tape
  output : w.output = a.output
  size : a.heap.size ≤ w.heap.size
  block : ∀ b, b < a.heap.size → ¬ P b → w.heap[b]? = a.heap[b]?
section
variable {P P' : Nat → Prop} {a b c : World}
theorem On.refl (P : Nat → Prop) (a : World) : On P a a := ⟨rfl, rfl, rfl, Nat.le_refl _, fun _ _ _ => rfl⟩
theorem On.trans (h : On P a b) (k : On P b c) : On P a c := ⟨k.os.trans h.os, k.tape.trans h.tape, k.output.trans h.output, Nat.le_trans h.size k.size, fun x hx hp => (k.block x (Nat.lt_of_lt_of_le hx h.size) hp).trans (h.block x hx hp)⟩
theorem On.mono (h : On P a b) (hp : ∀ x, P x → P' x) : On P' a b := ⟨h.os, h.tape, h.output, h.size, fun x hx z => h.block x hx fun y => z (hp x y)⟩
theorem On.of_grown {row : Option Nat} (h : a.grownBy b row) (hp : ∀ x, row = some x → x < a.heap.size → P x) : On P a b := ⟨h.os, h.tape, h.output, h.size, fun x hx z => h.block x hx fun y => z (hp x y.symm hx)⟩
theorem On.of_below (h : Below a.heap.size a b) : On P a b := ⟨h.os, h.tape, h.output, h.size, fun x hx _ => h.block x hx⟩
theorem On.below {B : Nat} (h : On P a b) (hB : B ≤ a.heap.size) (hp : ∀ x, P x → B ≤ x) : Below B a b := ⟨h.os, h.tape, h.output, h.size, fun x hx => h.block x (by omega) fun z => by have := hp x z; omega⟩
end
/-- the blocks of lists -/
def Bs (L : List Sl) (b : Nat) : Prop := ∃ r ∈ L, obk r.A = some b
/-- no two of them share a block -/
def Ap (L : List Sl) : Prop := ∀ (i j : Nat) (r r' : Sl), L[i]? = some r → L[j]? = some r' → i ≠ j → ∀ k, obk r.A = some k → obk r'.A ≠ some k
def Dj (L M : List Sl) : Prop := ∀ k, Bs L k → ¬ Bs M k
end Go.Proofs.YtbngelinfpaefaaGreatDoor
/- Relations of trees: wider ones, one behind the other; a tree is like itself, its places within the text. No walk here. -/
namespace Go.Proofs.YtbngelinfpaefaaGreatDoor
open Go.RowKit

theorem Rel2.comp {α β γ : Type} {r : α → β → Prop} {r' : β → γ → Prop} {q : α → γ → Prop} : ∀ {x : List α} {y : List β} {z : List γ}, Rel2 r x y → Rel2 r' y z → (∀ a b c, r a b → r' b c → q a c) → Rel2 q x z
  | _, _, _, .nil, .nil, _ => .nil
  | _, _, _, .cons a b, .cons c d, h => .cons (h _ _ _ a c) (Rel2.comp b d h)
section
variable {R R' Q : Nat → Nat → Prop} (h : ∀ a b c, R a b → R' b c → Q a c)
include h
theorem Nr.comp {x y z : Nd} (a : Nr R x y) (b : Nr R' y z) : Nr Q x z := ⟨b.op.trans a.op, b.n.trans a.n, b.num.trans a.num, b.t.trans a.t, h _ _ _ a.a b.a⟩
theorem StR.comp {x y z : St} (a : StR R x y) (b : StR R' y z) : StR Q x z := by
  obtain ⟨a1, a2, a3, a4, a5, a6, a7, a8⟩ := a
  obtain ⟨b1, b2, b3, b4, b5, b6, b7, b8⟩ := b
  exact ⟨b1.trans a1, b2.trans a2, b3.trans a3, b4.trans a4, b5.trans a5, b6.trans a6, Rel2.comp a7 b7 fun _ _ _ => Nr.comp h, h _ _ _ a8 b8⟩
theorem VeR.comp {x y z : Ve} (a : VeR R x y) (b : VeR R' y z) : VeR Q x z := by
  obtain ⟨a1, a2, a3⟩ := a
  obtain ⟨b1, b2, b3⟩ := b
  exact ⟨b1.trans a1, Rel2.comp a2 b2 fun _ _ _ => StR.comp h, h _ _ _ a3 b3⟩
theorem EvR.comp {x y z : Ev} (a : EvR R x y) (b : EvR R' y z) : EvR Q x z := by
  obtain ⟨a1, a2, a3⟩ := a
  obtain ⟨b1, b2, b3⟩ := b
  exact ⟨b1.trans a1, Rel2.comp a2 b2 fun _ _ _ => VeR.comp h, h _ _ _ a3 b3⟩
end
/-- a tree is like itself, its places within the text -/
theorem sch_self (s : ByteArray) : Rel2 (EvR fun a a' => a' = a ∧ a ≤ s.size) (schS s).evs (schS s).evs := by
  have hs : (ls s).length = s.size := ls_size s
  unfold schS lexS
  by_cases hb : 1048576 < s.size
  · rw [if_pos hb]
    exact .nil
  rw [if_neg hb]
  cases hL : lexL (ls s) 0 with
  | bad a e => exact .nil
  | ok T =>
    have hE := lex_ends _ _ _ (Nat.le_refl _) hL
    have hN : ∀ x ∈ T, x.a ≤ s.size := fun x hx => by
      have := lex_order _ _ _ (Nat.le_refl _) hL x hx
      omega
    have hT : 0 < T.length := by
      obtain ⟨t, rfl⟩ := lex_last _ _ _ (Nat.le_refl _) hL
      simp
    have h := sch_all (place_ok hE hN) rfl hT rfl fun {p p'} h => by
      have e : p'.tok T = p.tok T := by unfold PS.tok; rw [h.i]; rfl
      show Tr _ (p.tok T) (p'.tok T)
      rw [e]
      exact ⟨rfl, rfl, rfl, rfl, hN _ (List.mem_of_getElem? (tok_at (T := T) (p := p) h.inn))⟩
    dsimp only
    rcases h with ⟨h, e⟩ | z
    · have q : ((eventsL T (T.length + 1) PS.zero).1.end_ T).flt = 0 := h.f
      rw [if_neg (fun z => z q)]
      exact e
    · have q : ((eventsL T (T.length + 1) PS.zero).1.end_ T).flt ≠ 0 := z.1
      rw [if_pos q]
      exact .nil
theorem val_self (s : ByteArray) : Rel2 (Nr fun a a' => a' = a ∧ a ≤ s.size) (valS s).nds (valS s).nds := by
  have hs : (ls s).length = s.size := ls_size s
  unfold valS lexS
  by_cases hb : 1048576 < s.size
  · rw [if_pos hb]
    exact .nil
  rw [if_neg hb]
  cases hL : lexL (ls s) 0 with
  | bad a e => exact .nil
  | ok T =>
    have hE := lex_ends _ _ _ (Nat.le_refl _) hL
    have hN : ∀ x ∈ T, x.a ≤ s.size := fun x hx => by
      have := lex_order _ _ _ (Nat.le_refl _) hL x hx
      omega
    have hT : 0 < T.length := by
      obtain ⟨t, rfl⟩ := lex_last _ _ _ (Nat.le_refl _) hL
      simp
    have h := val_all (place_ok hE hN) rfl hT rfl fun {p p'} h => by
      have e : p'.tok T = p.tok T := by unfold PS.tok; rw [h.i]; rfl
      show Tr _ (p.tok T) (p'.tok T)
      rw [e]
      exact ⟨rfl, rfl, rfl, rfl, hN _ (List.mem_of_getElem? (tok_at (T := T) (p := p) h.inn))⟩
    dsimp only
    rcases h with ⟨h, h2 | z⟩ | z
    · have q : ((PS.zero.value T).end_ T).flt = 0 := h2.f
      rw [if_neg (fun z => z q)]
      exact h.n trivial
    · have q : ((PS.zero.value T).end_ T).flt ≠ 0 := z.1
      rw [if_pos q]
      exact .nil
    · have q : ((PS.zero.value T).end_ T).flt ≠ 0 := z.1
      rw [if_pos q]
      exact .nil
theorem w64_nat {n : Nat} (h : n ≤ 9000000000000000000) : wrap64 ((n : Int)) = (n : Int) := by unfold wrap64; omega
theorem more_zero {a a' N : Nat} (hN : N ≤ 9000000000000000000) (h : a' = a ∧ a ≤ N) : More 0 true a a' := by
  unfold More
  rw [if_pos rfl, Int.add_zero, w64_nat (by omega), h.1]
/-- a tree of the one text, in another world -/
theorem self_ev {s : ByteArray} {a b : List LEv} (hs : s.size ≤ 9000000000000000000) (ha : a.map (·.ev) = (schS s).evs) (hb : b.map (·.ev) = (schS s).evs) : Rel2 (fun x y : LEv => EvR (More 0 true) x.ev y.ev) a b := by
  refine Rel2.of_map (f := fun x : LEv => x.ev) (g := fun x : LEv => x.ev) ?_
  have h := sch_self s
  have e : Rel2 (EvR (More 0 true)) (schS s).evs (schS s).evs := Rel2.comp h h fun _ _ _ => EvR.comp fun a b c h1 h2 => by
    obtain ⟨rfl, h1⟩ := h1
    exact more_zero hs ⟨h2.1, h1⟩
  show Rel2 _ (a.map (·.ev)) (b.map (·.ev))
  rw [ha, hb]
  exact e
end Go.Proofs.YtbngelinfpaefaaGreatDoor
/- How much a schema holds: no more than there are tokens. No walk here. -/
namespace Go.Proofs.YtbngelinfpaefaaGreatDoor
open Go.RowKit

def wS (l : List St) : Nat := (l.map fun s => 1 + s.v.length).sum
def wV (l : List Ve) : Nat := (l.map fun v => 1 + wS v.st).sum
def wE (l : List Ev) : Nat := (l.map fun e => 1 + wV e.vs).sum
theorem wS_cons (s : St) (l : List St) : wS (s :: l) = 1 + s.v.length + wS l := by unfold wS; rw [List.map_cons, List.sum_cons]
theorem wV_cons (s : Ve) (l : List Ve) : wV (s :: l) = 1 + wS s.st + wV l := by unfold wV; rw [List.map_cons, List.sum_cons]
theorem wE_cons (s : Ev) (l : List Ev) : wE (s :: l) = 1 + wV s.vs + wE l := by unfold wE; rw [List.map_cons, List.sum_cons]
theorem value_few (T : List Tk) (p : PS) : (p.value T).nds.length + p.i ≤ (p.value T).i := by
  have h := (ex_exprW (T := T) (fac := factorF T (T.length + 1)) (m := 0) (fun q _ => ex_factorF _ q (.inr (by omega))) { p with nds := [], dps := [], opn := 0 } (.inr (Nat.zero_le _))).ln.1
  have e : p.value T = exprW T (factorF T (T.length + 1)) { p with nds := [], dps := [], opn := 0 } := rfl
  rw [← e] at h
  dsimp only at h
  rw [List.length_nil] at h
  omega
section
variable {T : List Tk}
theorem step_few {q : PS} (h : stepK T q ≠ 0) : q.i + 1 + (q.step T).2.v.length ≤ (q.step T).1.i := by
  have hg := (go_step h).1
  by_cases k1 : stepK T q = 1
  · rw [step_eq h, if_pos k1] at hg ⊢
    unfold step1 at hg ⊢
    by_cases hb : (((q.next.name T).1.mark T 58).name T).1.is T 4 [61] = true
    · rw [if_pos hb]
      have a := value_few T (((q.next.name T).1.mark T 58).name T).1.next
      have b := (go_mark T ((((q.next.name T).1.mark T 58).name T).1.next.value T) 59).1
      have c := (gn (T := T) (gm (T := T) (m := 58) (go_name (T := T) q.next))).1
      dsimp only
      have d : (((q.next.name T).1.mark T 58).name T).1.next.i = (((q.next.name T).1.mark T 58).name T).1.i + 1 := rfl
      have d2 : q.next.i = q.i + 1 := rfl
      omega
    · rw [if_neg hb] at hg ⊢
      exact hg
  · have hv : (q.step T).2.v = [] := by
      rw [step_eq h, if_neg k1]
      by_cases k2 : stepK T q = 2
      · rw [if_pos k2]; rfl
      rw [if_neg k2]
      by_cases k3 : stepK T q = 3
      · rw [if_pos k3]; rfl
      rw [if_neg k3]
      by_cases k4 : stepK T q = 4
      · rw [if_pos k4]; rfl
      rw [if_neg k4]
      by_cases k5 : stepK T q = 5
      · rw [if_pos k5]; rfl
      rw [if_neg k5]
      rfl
    rw [hv]
    exact hg
theorem steps_few : ∀ (f : Nat) (q : PS), (stepsL T f q).1.flt = 0 → q.i + wS (stepsL T f q).2 ≤ (stepsL T f q).1.i
  | 0, q, _ => Nat.le_refl _
  | f + 1, q, h0 => by
    by_cases hk : stepK T q = 0
    · unfold stepsL at h0 ⊢
      by_cases hc : q.flt = 0 ∧ q.is T 4 [125] = false
      · rw [if_pos hc] at h0
        have es : q.step T = (q.fail (q.tok T).a 90, ⟨0, [], [], [], [], [], [], (q.tok T).a⟩) := step_eq0 hk
        have hnf := fail_flt (p := q) (a := (q.tok T).a) (e := 90) (by decide)
        rw [es] at h0
        dsimp only at h0
        rw [steps_stuck hnf] at h0
        exact absurd h0 hnf
      · rw [if_neg hc]
        exact Nat.le_refl _
    · rw [steps_on hk] at h0 ⊢
      have ih := steps_few f _ h0
      have := step_few hk
      show q.i + wS ((q.step T).2 :: _) ≤ _
      rw [wS_cons]
      dsimp only
      omega
theorem version_few {q : PS} (h : q.is T 1 [118, 101, 114, 115, 105, 111, 110] = true) (h0 : (q.version T).1.flt = 0) : q.i + 1 + wS (q.version T).2.st ≤ (q.version T).1.i := by
  rw [version_eq, word_next h] at h0 ⊢
  dsimp only at h0 ⊢
  have g := go_mark T (stepsL T (T.length + 1) ((q.next.number T).1.mark T 123)).1 125
  have a := steps_few (T.length + 1) ((q.next.number T).1.mark T 123) (flt_back g h0)
  have b := ((go_number T q.next).trans (go_mark T _ 123)).1
  have d2 : q.next.i = q.i + 1 := rfl
  have := g.1
  omega
theorem vers_few : ∀ (f : Nat) (q : PS), (versL T f q).1.flt = 0 → q.i + wV (versL T f q).2 ≤ (versL T f q).1.i
  | 0, q, _ => Nat.le_refl _
  | f + 1, q, h0 => by
    by_cases hk : q.is T 1 [118, 101, 114, 115, 105, 111, 110] = true
    · rw [vers_on hk] at h0 ⊢
      have ih := vers_few f _ h0
      have := version_few hk (flt_back (go_vers (T := T) f (q.version T).1) h0)
      show q.i + wV ((q.version T).2 :: _) ≤ _
      rw [wV_cons]
      dsimp only
      omega
    · have hkf : q.is T 1 [118, 101, 114, 115, 105, 111, 110] = false := by simpa using hk
      unfold versL at h0 ⊢
      by_cases hc : q.flt = 0 ∧ q.is T 4 [125] = false
      · rw [if_pos hc] at h0
        have hnf := fail_flt (p := q) (a := (q.tok T).a) (e := 90) (by decide)
        have e := version_bad hkf
        dsimp only at h0
        rw [e, vers_stuck hnf] at h0
        exact absurd h0 hnf
      · rw [if_neg hc]
        exact Nat.le_refl _
theorem event_few {q : PS} (h : q.is T 1 [101, 118, 101, 110, 116] = true) (h0 : (q.event T).1.flt = 0) : q.i + 1 + wV (q.event T).2.vs ≤ (q.event T).1.i := by
  rw [event_eq, word_next h] at h0 ⊢
  dsimp only at h0 ⊢
  obtain ⟨u, hu⟩ : ∃ u, ((q.next.name T).1.mark T 123) = u := ⟨_, rfl⟩
  have b : q.next.i ≤ u.i := by rw [← hu]; exact ((go_name (T := T) q.next).trans (go_mark T _ 123)).1
  rw [hu] at h0 ⊢
  have g := go_mark T (versL T (T.length + 1) (u.version T).1).1 125
  have f1 := flt_back g h0
  have a := vers_few (T.length + 1) (u.version T).1 f1
  have f2 := flt_back (go_vers (T := T) (T.length + 1) (u.version T).1) f1
  have c : u.i + 1 + wS (u.version T).2.st ≤ (u.version T).1.i := by
    by_cases hk : u.is T 1 [118, 101, 114, 115, 105, 111, 110] = true
    · exact version_few hk f2
    · rw [version_bad (by simpa using hk)] at f2
      exact absurd f2 (fail_flt (by decide))
  rw [wV_cons]
  have d2 : q.next.i = q.i + 1 := rfl
  have := g.1
  omega
theorem events_few : ∀ (f : Nat) (q : PS), (eventsL T f q).1.flt = 0 → q.i + wE (eventsL T f q).2 ≤ (eventsL T f q).1.i
  | 0, q, _ => Nat.le_refl _
  | f + 1, q, h0 => by
    by_cases hk : q.is T 1 [101, 118, 101, 110, 116] = true
    · rw [events_on hk] at h0 ⊢
      have ih := events_few f _ h0
      have := event_few hk (flt_back (go_events (T := T) f (q.event T).1) h0)
      show q.i + wE ((q.event T).2 :: _) ≤ _
      rw [wE_cons]
      dsimp only
      omega
    · rw [events_end (by simpa using hk)]
      exact Nat.le_refl _
end
/-- what a text's tree holds -/
theorem sch_few (s : ByteArray) : wE (schS s).evs ≤ s.size + 1 := by
  by_cases he : (schS s).err = 0
  · obtain ⟨T, hL, hs, h0, hv, _⟩ := sch_ok he
    have hl := lex_len _ _ _ (Nat.le_refl _) hL
    rw [ls_size] at hl
    have h1 := flt_back (go_end T (eventsL T (T.length + 1) PS.zero).1) h0
    have a := events_few (T := T) (T.length + 1) PS.zero h1
    rw [hv]
    have hE := lex_ends _ _ _ (Nat.le_refl _) hL
    have hT : 0 < T.length := by
      obtain ⟨t, rfl⟩ := lex_last _ _ _ (Nat.le_refl _) hL
      simp
    have h := sch_all (place_ok (N := s.size) hE (fun x hx => by
      have := lex_order _ _ _ (Nat.le_refl _) hL x hx
      rw [ls_size] at this
      omega)) rfl hT rfl fun {p p'} h => by
      have e : p'.tok T = p.tok T := by unfold PS.tok; rw [h.i]; rfl
      show Tr _ (p.tok T) (p'.tok T)
      rw [e]
      refine ⟨rfl, rfl, rfl, rfl, ?_⟩
      have := lex_order _ _ _ (Nat.le_refl _) hL _ (List.mem_of_getElem? (tok_at (T := T) (p := p) h.inn))
      rw [ls_size] at this
      omega
    rcases h with ⟨h, _⟩ | z
    · have hin : ((eventsL T (T.length + 1) PS.zero).1.end_ T).i < T.length := h.inn
      have hgo := (go_end T (eventsL T (T.length + 1) PS.zero).1).1
      have hz : PS.zero.i = 0 := rfl
      omega
    · exact absurd h0 z.1
  · rw [show (schS s).evs = [] from by
      cases hs : schS s with
      | ok l => rw [hs] at he; exact absurd rfl he
      | bad a e => rfl]
    exact Nat.zero_le _
end Go.Proofs.YtbngelinfpaefaaGreatDoor
/- The lists of a tree, of each kind: their blocks, how many there are. No walk here. -/
namespace Go.Proofs.YtbngelinfpaefaaGreatDoor
open Go.RowKit

def slV (x : LEv) : Sl := ⟨x.A, x.vs.length, x.c⟩
def slS (v : LVe) : Sl := ⟨v.A, v.st.length, v.c⟩
def slN (s : LSt) : Sl := ⟨s.A, s.s.v.length, s.c⟩
def stN : List LSt → List Sl
  | [] => []
  | s :: r => if s.s.v.length = 0 then stN r else slN s :: stN r
def veN : List LVe → List Sl
  | [] => []
  | v :: r => stN v.st ++ veN r
def VL (es : List LEv) : List Sl := es.map slV
def SL : List LEv → List Sl
  | [] => []
  | x :: r => x.vs.map slS ++ SL r
def NL : List LEv → List Sl
  | [] => []
  | x :: r => veN x.vs ++ NL r

def KN : Kd := ⟨53, 5, fun m => #[.int .i64 (1000 + (m : Int)), .int .i64 0, .int .u64 0, .string ⟨#[]⟩, .int .i64 0]⟩
def KS : Kd := ⟨51, 8, fun m => #[.int .i64 (1000 + (m : Int)), .string ⟨#[]⟩, .string ⟨#[]⟩, .string ⟨#[]⟩, .string ⟨#[]⟩, .string ⟨#[]⟩, .slice none 0 0, .int .i64 0]⟩
def KV : Kd := ⟨49, 3, fun m => #[.int .u64 0, .slice none 0 0, .int .i64 (1000 + (m : Int))]⟩
theorem kN : KN.Ok := ⟨by decide, fun _ => rfl, fun m u hu => by
  have hu2 : u ∈ [Value.int .i64 (1000 + (m : Int)), .int .i64 0, .int .u64 0, .string ⟨#[]⟩, .int .i64 0] := hu
  simp only [List.mem_cons, List.not_mem_nil, or_false] at hu2
  rcases hu2 with rfl | rfl | rfl | rfl | rfl <;> rfl⟩
theorem kS : KS.Ok := ⟨by decide, fun _ => rfl, fun m u hu => by
  have hu2 : u ∈ [Value.int .i64 (1000 + (m : Int)), .string ⟨#[]⟩, .string ⟨#[]⟩, .string ⟨#[]⟩, .string ⟨#[]⟩, .string ⟨#[]⟩, .slice none 0 0, .int .i64 0] := hu
  simp only [List.mem_cons, List.not_mem_nil, or_false] at hu2
  rcases hu2 with rfl | rfl | rfl | rfl | rfl | rfl | rfl | rfl <;> rfl⟩
theorem kV : KV.Ok := ⟨by decide, fun _ => rfl, fun m u hu => by
  have hu2 : u ∈ [Value.int .u64 0, .slice none 0 0, .int .i64 (1000 + (m : Int))] := hu
  simp only [List.mem_cons, List.not_mem_nil, or_false] at hu2
  rcases hu2 with rfl | rfl | rfl <;> rfl⟩

/-! ### how many -/
theorem few_st (l : List LSt) : (stN l).length ≤ wS (l.map (·.s)) ∧ l.length ≤ wS (l.map (·.s)) ∧ (∀ r ∈ stN l, r.n ≤ wS (l.map (·.s))) := by
  induction l with
  | nil => exact ⟨Nat.le_refl _, Nat.le_refl _, nofun⟩
  | cons s r ih =>
    obtain ⟨h1, h2, h3⟩ := ih
    rw [List.map_cons, wS_cons]
    refine ⟨?_, by rw [List.length_cons]; omega, fun q hq => ?_⟩
    · unfold stN
      split
      · omega
      · rw [List.length_cons]; omega
    · unfold stN at hq
      split at hq
      · have := h3 q hq; omega
      · rcases List.mem_cons.1 hq with rfl | hq
        · show s.s.v.length ≤ _
          omega
        · have := h3 q hq; omega
theorem few_ve (l : List LVe) : (l.map slS).length ≤ wV (l.map (·.ve)) ∧ (veN l).length ≤ wV (l.map (·.ve)) ∧ (∀ r ∈ l.map slS, r.n ≤ wV (l.map (·.ve))) ∧ (∀ r ∈ veN l, r.n ≤ wV (l.map (·.ve))) := by
  induction l with
  | nil => exact ⟨Nat.le_refl _, Nat.le_refl _, nofun, nofun⟩
  | cons v r ih =>
    obtain ⟨h1, h2, h3, h4⟩ := ih
    obtain ⟨g1, g2, g3⟩ := few_st v.st
    have e : v.ve.st = v.st.map (·.s) := rfl
    rw [List.map_cons, List.map_cons, wV_cons, e]
    refine ⟨by rw [List.length_cons]; omega, by unfold veN; rw [List.length_append]; omega, fun q hq => ?_, fun q hq => ?_⟩
    · rcases List.mem_cons.1 hq with rfl | hq
      · show v.st.length ≤ _
        omega
      · have := h3 q hq; omega
    · unfold veN at hq
      rcases List.mem_append.1 hq with hq | hq
      · have := g3 q hq; omega
      · have := h4 q hq; omega
theorem few_es (l : List LEv) : (VL l).length ≤ wE (l.map (·.ev)) ∧ (SL l).length ≤ wE (l.map (·.ev)) ∧ (NL l).length ≤ wE (l.map (·.ev)) ∧ (∀ r ∈ VL l, r.n ≤ wE (l.map (·.ev))) ∧ (∀ r ∈ SL l, r.n ≤ wE (l.map (·.ev))) ∧ (∀ r ∈ NL l, r.n ≤ wE (l.map (·.ev))) := by
  induction l with
  | nil => exact ⟨Nat.le_refl _, Nat.le_refl _, Nat.le_refl _, nofun, nofun, nofun⟩
  | cons x r ih =>
    obtain ⟨h1, h2, h3, h4, h5, h6⟩ := ih
    obtain ⟨g1, g2, g3, g4⟩ := few_ve x.vs
    have e : x.ev.vs = x.vs.map (·.ve) := rfl
    have el : x.vs.length = (x.vs.map slS).length := by rw [List.length_map]
    rw [List.map_cons, wE_cons, e]
    refine ⟨by show (VL r).length + 1 ≤ _; omega, by unfold SL; rw [List.length_append]; omega, by unfold NL; rw [List.length_append]; omega, fun q hq => ?_, fun q hq => ?_, fun q hq => ?_⟩
    · rcases List.mem_cons.1 hq with rfl | hq
      · show x.vs.length ≤ _
        omega
      · have := h4 q hq; omega
    · unfold SL at hq
      rcases List.mem_append.1 hq with hq | hq
      · have := g3 q hq; omega
      · have := h5 q hq; omega
    · unfold NL at hq
      rcases List.mem_append.1 hq with hq | hq
      · have := g4 q hq; omega
      · have := h6 q hq; omega

/-! ### their blocks -/
def bk (L : List Sl) : List Nat := L.flatMap fun r => (obk r.A).toList
theorem bs_mem {L : List Sl} {b : Nat} : Bs L b ↔ b ∈ bk L := by
  unfold Bs bk
  rw [List.mem_flatMap]
  simp only [Option.mem_toList]
theorem bk_append (L M : List Sl) : bk (L ++ M) = bk L ++ bk M := List.flatMap_append
theorem bk_cons (r : Sl) (L : List Sl) : bk (r :: L) = (obk r.A).toList ++ bk L := List.flatMap_cons
theorem cnt_st (b : Nat) (l : List LSt) : (bk (stN l)).count b ≤ (l.flatMap StLev.bl).count b := by
  induction l with
  | nil => exact Nat.le_refl _
  | cons s r ih =>
    have e : StLev.bl s = (obk s.A).toList := rfl
    rw [List.flatMap_cons, List.count_append, e]
    unfold stN
    split
    · omega
    · rw [bk_cons, List.count_append]
      show ((obk s.A).toList).count b + _ ≤ _
      omega
theorem cnt_ve (b : Nat) (l : List LVe) : (bk (l.map slS)).count b + (bk (veN l)).count b ≤ (l.flatMap VeLev.bl).count b := by
  induction l with
  | nil => exact Nat.le_refl _
  | cons v r ih =>
    have e : VeLev.bl v = (obk v.A).toList ++ v.st.flatMap StLev.bl := rfl
    have := cnt_st b v.st
    rw [List.flatMap_cons, List.count_append, e, List.map_cons, bk_cons, List.count_append, List.count_append]
    unfold veN
    rw [bk_append, List.count_append]
    show ((obk v.A).toList).count b + _ + _ ≤ _
    omega
theorem cnt_es (b : Nat) (l : List LEv) : (bk (VL l)).count b + (bk (SL l)).count b + (bk (NL l)).count b ≤ (l.flatMap EvLev.bl).count b := by
  induction l with
  | nil => exact Nat.le_refl _
  | cons x r ih =>
    have e : EvLev.bl x = (obk x.A).toList ++ x.vs.flatMap VeLev.bl := rfl
    have := cnt_ve b x.vs
    have e2 : VL (x :: r) = slV x :: VL r := rfl
    rw [List.flatMap_cons, List.count_append, e, e2, bk_cons, List.count_append, List.count_append]
    unfold SL NL
    rw [bk_append, List.count_append, bk_append, List.count_append]
    show ((obk x.A).toList).count b + _ + _ + _ ≤ _
    omega
theorem count_nd {l : List Nat} (h : l.Nodup) (b : Nat) : l.count b ≤ 1 := by
  induction l with
  | nil => exact Nat.zero_le _
  | cons a r ih =>
    rw [List.nodup_cons] at h
    rw [List.count_cons]
    have := ih h.2
    by_cases e : a = b
    · subst e
      have := List.count_eq_zero.2 h.1
      split <;> omega
    · rw [if_neg (by simpa using e)]
      exact this
theorem ap_of {L : List Sl} (h : ∀ b, (bk L).count b ≤ 1) : Ap L := by
  have main : ∀ (i j : Nat) (r r' : Sl), L[i]? = some r → L[j]? = some r' → i < j → ∀ k, obk r.A = some k → obk r'.A ≠ some k := fun i j r r' hi hj hij k hk hk' => by
    have e : bk L = bk (L.take j) ++ bk (L.drop j) := by rw [← bk_append, List.take_append_drop]
    have h1 : 0 < (bk (L.take j)).count k := List.count_pos_iff.2 (bs_mem.1 ⟨r, List.mem_of_getElem? (by rw [List.getElem?_take, if_pos hij]; exact hi), hk⟩)
    have h2 : 0 < (bk (L.drop j)).count k := List.count_pos_iff.2 (bs_mem.1 ⟨r', List.mem_of_getElem? (i := 0) (by rw [List.getElem?_drop, Nat.add_zero]; exact hj), hk'⟩)
    have := h k
    rw [e, List.count_append] at this
    omega
  intro i j r r' hi hj hne k hk hk'
  rcases Nat.lt_or_gt_of_ne hne with z | z
  · exact main i j r r' hi hj z k hk hk'
  · exact main j i r' r hj hi z k hk' hk
theorem dj_of {L M : List Sl} (h : ∀ b, (bk L).count b + (bk M).count b ≤ 1) : Dj L M := fun k hL hM => by
  have h1 := List.count_pos_iff.2 (bs_mem.1 hL)
  have h2 := List.count_pos_iff.2 (bs_mem.1 hM)
  have := h k
  omega
/-- each list is a row of the call's own -/
theorem fil_st {w : World} {B : Nat} {l : List LSt} (h : ∀ x ∈ l, StLev.H w B x) : ∀ r ∈ stN l, ∀ m, Fil KN w B r m 0 := by
  induction l with
  | nil => exact nofun
  | cons s t ih =>
    intro r hr m
    have ih2 := ih fun x hx => h x (List.mem_cons_of_mem _ hx)
    unfold stN at hr
    split at hr
    · exact ih2 r hr m
    · rcases List.mem_cons.1 hr with rfl | hr
      · exact Fil.of (K := KN) (r := slN s) (h s (List.mem_cons_self ..))
      · exact ih2 r hr m
theorem fil_ve {w : World} {B : Nat} {l : List LVe} (h : ∀ x ∈ l, VeLev.H w B x) : (∀ r ∈ l.map slS, ∀ m, Fil KS w B r m 0) ∧ ∀ r ∈ veN l, ∀ m, Fil KN w B r m 0 := by
  induction l with
  | nil => exact ⟨nofun, nofun⟩
  | cons v t ih =>
    obtain ⟨i1, i2⟩ := ih fun x hx => h x (List.mem_cons_of_mem _ hx)
    have hv : Built StLev w B v.A v.c v.st := h v (List.mem_cons_self ..)
    refine ⟨fun r hr m => ?_, fun r hr m => ?_⟩
    · rw [List.map_cons] at hr
      rcases List.mem_cons.1 hr with rfl | hr
      · exact Fil.of (K := KS) (r := slS v) hv.own
      · exact i1 r hr m
    · unfold veN at hr
      rcases List.mem_append.1 hr with hr | hr
      · exact fil_st hv.each r hr m
      · exact i2 r hr m
theorem fil_es {w : World} {B : Nat} {l : List LEv} (h : ∀ x ∈ l, EvLev.H w B x) : (∀ r ∈ VL l, ∀ m, Fil KV w B r m 0) ∧ (∀ r ∈ SL l, ∀ m, Fil KS w B r m 0) ∧ ∀ r ∈ NL l, ∀ m, Fil KN w B r m 0 := by
  induction l with
  | nil => exact ⟨nofun, nofun, nofun⟩
  | cons x t ih =>
    obtain ⟨i1, i2, i3⟩ := ih fun x hx => h x (List.mem_cons_of_mem _ hx)
    have hx : Built VeLev w B x.A x.c x.vs := h x (List.mem_cons_self ..)
    obtain ⟨j1, j2⟩ := fil_ve hx.each
    refine ⟨fun r hr m => ?_, fun r hr m => ?_, fun r hr m => ?_⟩
    · rcases List.mem_cons.1 hr with rfl | hr
      · exact Fil.of (K := KV) (r := slV x) hx.own
      · exact i1 r hr m
    · unfold SL at hr
      rcases List.mem_append.1 hr with hr | hr
      · exact j1 r hr m
      · exact i2 r hr m
    · unfold NL at hr
      rcases List.mem_append.1 hr with hr | hr
      · exact j2 r hr m
      · exact i3 r hr m
/-- a tree's blocks lie from B on -/
theorem bd_es {w : World} {B : Nat} {A : Option Addr} {c : Nat} {l : List LEv} (h : Built EvLev w B A c l) (b : Nat) : (bk (VL l)).count b + (bk (SL l)).count b + (bk (NL l)).count b ≤ 1 ∧ (0 < (bk (VL l)).count b + (bk (SL l)).count b + (bk (NL l)).count b → B ≤ b ∧ b < w.heap.size) := by
  have h1 := cnt_es b l
  have h2 := count_nd h.nd b
  unfold Lev.bls at h2
  rw [List.count_append] at h2
  refine ⟨by omega, fun z => h.bd evLev b ?_⟩
  have : 0 < (l.flatMap EvLev.bl).count b := by omega
  unfold Lev.bls
  exact List.mem_append.2 (.inr (List.count_pos_iff.1 this))
/-- the lists of two trees -/
theorem two_trees {w : World} {B H : Nat} {A A' : Option Addr} {c c' : Nat} {a b : List LEv} (ha : Built EvLev w B A c a) (haH : ∀ x ∈ EvLev.bls A a, x < H) (hb : Built EvLev w H A' c' b) (k : Nat) :
    (bk (VL a ++ VL b)).count k + (bk (SL a ++ SL b)).count k + (bk (NL a ++ NL b)).count k ≤ 1 := by
  obtain ⟨a1, a2⟩ := bd_es ha k
  obtain ⟨b1, b2⟩ := bd_es hb k
  have a3 := cnt_es k a
  simp only [bk_append, List.count_append]
  by_cases z : 0 < (bk (VL a)).count k + (bk (SL a)).count k + (bk (NL a)).count k
  · have hk : k < H := haH k (by
      unfold Lev.bls
      exact List.mem_append.2 (.inr (List.count_pos_iff.1 (by omega))))
    have : ¬ 0 < (bk (VL b)).count k + (bk (SL b)).count k + (bk (NL b)).count k := fun y => by have := (b2 y).1; omega
    omega
  · omega
end Go.Proofs.YtbngelinfpaefaaGreatDoor
