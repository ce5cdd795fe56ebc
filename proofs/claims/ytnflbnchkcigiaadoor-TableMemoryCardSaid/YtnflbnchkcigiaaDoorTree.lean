/- Blocks, rows of structs, trees in memory: rows within rows, each of the call's own, each by itself. No walk here. -/
import Derived.Test.YtnflbnchkcigiaaDoorGn
namespace Go.Proofs.YtnflbnchkcigiaaDoor
open Go.RowKit

def obk (A : Option Addr) : Option Nat := A.map (·.block)
theorem obk_own (A : Option Addr) (n c : Nat) : (Value.slice A n c).ownBlock = obk A := by cases A <;> rfl
theorem info_three {P : Program} {T : TypeId} {z : Value} {s b : Nat} (h : (P.info? T).map (fun i => (i.zero, i.size, i.bytes)) = some (some z, s, b)) : ∃ i, P.info? T = some i ∧ i.zero = some z ∧ i.size = s ∧ i.bytes = b := by
  cases hq : P.info? T with
  | none => rw [hq] at h; cases h
  | some i =>
    rw [hq] at h
    simp only [Option.map_some, Option.some.injEq, Prod.mk.injEq] at h
    exact ⟨i, rfl, h.1, h.2.1, h.2.2⟩
/-! ### a block that holds just these cells -/
def CB (w : World) (b : Nat) (T : TypeId) (cs : Array Value) : Prop := w.heap[b]? = some (.cells cs T (0, 0))
section
variable {w w' : World} {b : Nat} {T : TypeId} {cs : Array Value}
theorem CB.len (h : CB w b T cs) : b < w.heap.size := (Array.getElem?_eq_some_iff.1 h).1
theorem CB.at_ (h : CB w b T cs) (j : Nat) : w.cell? ⟨b, j, none⟩ = cs[j]? := cell_of_row w b j cs T (0, 0) h
theorem CB.frozen (h : CB w b T cs) (i : Nat) : w.frozen? ⟨b, i, none⟩ = false := by
  unfold CB at h
  simp [World.frozen?, h]
theorem CB.keep (h : CB w b T cs) (hb : w'.heap[b]? = w.heap[b]?) : CB w' b T cs := hb.trans h
theorem CB.new (w : World) (T : TypeId) (cs : Array Value) : CB (w.alloc (.cells cs T)) w.heap.size T cs := heap_alloc_new w _
theorem CB.below (h : CB w b T cs) (hb : Below w.heap.size w w') : CB w' b T cs := h.keep (hb.block b h.len)
theorem CB.there (h : CB w b T cs) {n : Nat} (hn : n ≤ cs.size) : w.there b 0 n := fun j hj => by
  refine ⟨?_, h.frozen _⟩
  rw [h.at_, Nat.zero_add, Array.getElem?_eq_getElem (show j < cs.size by omega)]
  rfl
theorem CB.load {P : Program} (h : CB w b T cs) {d : TypeDesc} (hu : P.underlying T = some d) (hd : d.isRow = true) (hi : (P.info? T).map (·.size) = some cs.size) : (loadVar T ⟨b, 0, none⟩).run P w = .ok (.agg cs) w := by
  have hc : w.rangeAt b 0 cs.toList := fun j y hy => by
    rw [h.at_, Nat.zero_add, ← Array.getElem?_toList]; exact hy
  have := run_loadVar_mid w b 0 T cs.toList d hc hu hd (by simpa using hi)
  simpa using this
end
/-- a struct out of a block, answered by itself -/
theorem results_cb {P : Program} {fn : Func} {s : Tmp} {T : TypeId} (h : fn.results = #[.cell s T]) (tmps : Array Value) (w : World) (b : Nat) (cs : Array Value)
    (hp : tmps.getD s undef = .pointer (some ⟨b, 0, none⟩)) (hb : CB w b T cs) {d : TypeDesc} (hu : P.underlying T = some d) (hd : d.isRow = true) (hi : (P.info? T).map (·.size) = some cs.size) : (results fn tmps).run P w = .ok (.agg cs) w := by
  unfold results
  rw [h]
  have hp' : tmps[s]?.getD undef = .pointer (some ⟨b, 0, none⟩) := by simpa [Array.getD_eq_getD_getElem?] using hp
  simp [hp', asAddr, hb.load hu hd hi]
/-- cells stored whole, one by one -/
theorem setCells_all {b : Nat} {T : TypeId} : ∀ (vs : List Value) (cs : List Value) (w : World) (k : Nat), CB w b T cs.toArray → k + vs.length ≤ cs.length → CB (w.setCells b k vs) b T (cs.take k ++ vs ++ cs.drop (k + vs.length)).toArray
  | [], cs, w, k, h, _ => by
    have : cs.take k ++ [] ++ cs.drop (k + ([] : List Value).length) = cs := by simp
    rw [this]
    exact h
  | v :: r, cs, w, k, h, hk => by
    rw [World.setCells]
    rw [List.length_cons] at hk
    have h1 : CB (w.setCell ⟨b, k, none⟩ v) b T (cs.set k v).toArray := by
      have := heap_setCell_same w b k _ _ v h
      unfold CB
      rw [this]
      simp
    have h2 := setCells_all r (cs.set k v) _ (k + 1) h1 (by rw [List.length_set]; omega)
    have e : (cs.set k v).take (k + 1) ++ r ++ (cs.set k v).drop (k + 1 + r.length) = cs.take k ++ (v :: r) ++ cs.drop (k + (v :: r).length) := by
      rw [List.length_cons, show k + (r.length + 1) = k + 1 + r.length by omega]
      have hk2 : k < cs.length := by omega
      rw [List.set_eq_take_append_cons_drop, if_pos hk2]
      have hl : (cs.take k).length = k := by rw [List.length_take]; omega
      have e1 : (cs.take k ++ v :: cs.drop (k + 1)).take (k + 1) = cs.take k ++ [v] := by
        rw [List.take_append, hl, List.take_of_length_le (by omega)]
        congr 1
        rw [show k + 1 - k = 1 by omega]
        rfl
      have e2 : (cs.take k ++ v :: cs.drop (k + 1)).drop (k + 1 + r.length) = cs.drop (k + 1 + r.length) := by
        rw [List.drop_append, hl, List.drop_of_length_le (by omega), List.nil_append, show k + 1 + r.length - k = r.length + 1 by omega, List.drop_succ_cons, List.drop_drop]
      rw [e1, e2]
      simp
    rw [← e]
    exact h2
theorem CB.store {w : World} {b : Nat} {T : TypeId} {cs0 cs : Array Value} (h : CB w b T cs0) (hs : cs.size = cs0.size) : CB (w.setCells b 0 cs.toList) b T cs := by
  have := setCells_all cs.toList cs0.toList w 0 (by simpa using h) (by simp [hs])
  have e : (cs0.toList.take 0 ++ cs.toList ++ cs0.toList.drop (0 + cs.toList.length)).toArray = cs := by
    rw [List.drop_of_length_le (by simp [hs])]
    simp
  rwa [e] at this
/-- a struct stored whole into its block -/
theorem wpList_store_cb {P : Program} {ops : Array Oper} {rest : List Oper} {op : Oper} {a : Act} {w : World} {Q : Exit → Act → World → Prop} (hgd : op.guard = none) (T : TypeId) (x y : Operand) (ho : op.op = .store T x y)
    (b : Nat) (cs0 cs : Array Value) (hx : a.eval x = .pointer (some ⟨b, 0, none⟩)) (hy : a.eval y = .agg cs) (hB : CB w b T cs0) (hs : cs.size = cs0.size) (hi : (P.info? T).map (·.size) = some cs.size) (h1 : cs.all (·.oneCell') = true)
    (h : ∀ w2, CB w2 b T cs → Turned b w w2 → wpList P ops Q rest (a.put op.dst undef) w2) : wpList P ops Q (op :: rest) a w :=
  wpList_store_mid hgd T x y ho b 0 cs hx hy (hB.there (by omega)) hi h1 (h _ (hB.store hs) (Turned.setCells _ _ _ (Turned.refl b w)))
/-- a struct loaded whole out of its block -/
theorem wpList_load_cb {P : Program} {ops : Array Oper} {rest : List Oper} {op : Oper} {a : Act} {w : World} {Q : Exit → Act → World → Prop} (hgd : op.guard = none) (T : TypeId) (x : Operand) (ho : op.op = .load T x)
    (b : Nat) (cs : Array Value) (hx : a.eval x = .pointer (some ⟨b, 0, none⟩)) (hB : CB w b T cs) {d : TypeDesc} (hu : P.underlying T = some d) (hd : d.isRow = true) (hi : (P.info? T).map (·.size) = some cs.size)
    (h : wpList P ops Q rest (a.put op.dst (.agg cs)) w) : wpList P ops Q (op :: rest) a w :=
  wpList_plain hgd fun _ hK => by
    unfold Oper.wp execOp
    simp only [ho, hx, Instr.loadAt, Instr.sureAddr, Sem.run_bind, Sem.run_pure, Result.andThen_ok, hB.load hu hd hi]
    exact hK _ _ h

/-! ### rows of structs -/
def flatR {α : Type} (f : α → Array Value) (l : List α) : List Value := l.flatMap fun x => (f x).toList
section
variable {α : Type} {f : α → Array Value} {s : Nat}
theorem flatR_len (hs : ∀ x, (f x).size = s) (l : List α) : (flatR f l).length = l.length * s := by
  induction l with
  | nil => simp [flatR]
  | cons x r ih =>
    show ((f x).toList ++ flatR f r).length = _
    rw [List.length_append, ih, Array.length_toList, hs, List.length_cons, Nat.add_mul, Nat.one_mul, Nat.add_comm]
theorem flatR_snoc (l : List α) (x : α) : flatR f (l ++ [x]) = flatR f l ++ (f x).toList := by unfold flatR; rw [List.flatMap_append]; simp
theorem flatR_at (hs : ∀ x, (f x).size = s) : ∀ (l : List α) (i : Nat) (x : α), l[i]? = some x → ∀ j, j < s → (flatR f l)[i * s + j]? = (f x)[j]?
  | [], _, _, h, _, _ => by simp at h
  | y :: r, 0, x, h, j, hj => by
    simp only [List.getElem?_cons_zero, Option.some.injEq] at h
    subst h
    show ((f y).toList ++ flatR f r)[0 * s + j]? = _
    rw [Nat.zero_mul, Nat.zero_add, List.getElem?_append_left (by rw [Array.length_toList, hs]; exact hj), Array.getElem?_toList]
  | y :: r, i + 1, x, h, j, hj => by
    simp only [List.getElem?_cons_succ] at h
    show ((f y).toList ++ flatR f r)[(i + 1) * s + j]? = _
    have e : (i + 1) * s + j - s = i * s + j := by rw [Nat.add_mul]; omega
    rw [List.getElem?_append_right (by rw [Array.length_toList, hs, Nat.add_mul]; omega), Array.length_toList, hs, e]
    exact flatR_at hs r i x h j hj
end

/-- what rows of one kind are made of -/
structure Lev (α : Type) where
  T : TypeId
  s : Nat
  f : α → Array Value
  H : World → Nat → α → Prop
  bl : α → List Nat
def Lev.bls {α : Type} (L : Lev α) (A : Option Addr) (l : List α) : List Nat := (obk A).toList ++ l.flatMap L.bl
structure Lev.Ok {α : Type} (L : Lev α) : Prop where
  size : ∀ x, (L.f x).size = L.s
  one : ∀ x, ∀ u ∈ (L.f x).toList, u.oneCell' = true
  keep : ∀ {w w' : World} {B : Nat} {x : α}, L.H w B x → (∀ b ∈ L.bl x, w'.heap[b]? = w.heap[b]?) → L.H w' B x
  low : ∀ {w : World} {B B' : Nat} {x : α}, L.H w B x → B' ≤ B → L.H w B' x
  bd : ∀ {w : World} {B : Nat} {x : α}, L.H w B x → ∀ b ∈ L.bl x, B ≤ b ∧ b < w.heap.size
  nd : ∀ {w : World} {B : Nat} {x : α}, L.H w B x → (L.bl x).Nodup
/-- a row of the call's own from B on, with all that its parts own, each block by itself -/
structure Built {α : Type} (L : Lev α) (w : World) (B : Nat) (A : Option Addr) (c : Nat) (l : List α) : Prop where
  own : w.ownsRow B L.T L.s (.slice A l.length c) l.length (flatR L.f l)
  each : ∀ x ∈ l, L.H w B x
  nd : (L.bls A l).Nodup
theorem ownsRow_low {w : World} {B B' : Nat} {e : TypeId} {s : Nat} {v : Value} {n : Nat} {xs : List Value} (h : w.ownsRow B e s v n xs) (hB : B' ≤ B) : w.ownsRow B' e s v n xs := by
  refine ⟨h.1, ?_⟩
  rcases h.2 with h0 | ⟨g, cap, cur, hv, hg, rest⟩
  · exact .inl h0
  · exact .inr ⟨g, cap, cur, hv, by omega, rest⟩
theorem ownsRow_keep {w w' : World} {B : Nat} {e : TypeId} {s : Nat} {A : Option Addr} {m c n : Nat} {xs : List Value} (h : w.ownsRow B e s (.slice A m c) n xs) (hk : ∀ b, obk A = some b → w'.heap[b]? = w.heap[b]?) : w'.ownsRow B e s (.slice A m c) n xs := by
  refine ⟨h.1, ?_⟩
  rcases h.2 with h0 | ⟨g, cap, cur, hv, hg, hc, rest⟩
  · exact .inl h0
  · refine .inr ⟨g, cap, cur, hv, hg, ?_, rest⟩
    rw [hk g ?_]
    · exact hc
    · injection hv with e1 e2 e3
      rw [e1]
      rfl
section
variable {α : Type} {L : Lev α} (O : L.Ok) {w w' : World} {B : Nat} {A : Option Addr} {c : Nat} {l : List α}
theorem mem_bls {b : Nat} : b ∈ L.bls A l ↔ obk A = some b ∨ ∃ x ∈ l, b ∈ L.bl x := by
  unfold Lev.bls
  rw [List.mem_append, List.mem_flatMap, Option.mem_toList]
theorem Built.nil (L : Lev α) (w : World) (B : Nat) : Built L w B none 0 [] := ⟨World.ownsRow_nil w B _ _, nofun, .nil⟩
include O
theorem Built.keep (h : Built L w B A c l) (hk : ∀ b ∈ L.bls A l, w'.heap[b]? = w.heap[b]?) : Built L w' B A c l :=
  ⟨ownsRow_keep h.own fun b hb => hk b (mem_bls.2 (.inl hb)), fun x hx => O.keep (h.each x hx) fun b hb => hk b (mem_bls.2 (.inr ⟨x, hx, hb⟩)), h.nd⟩
theorem Built.bd (h : Built L w B A c l) : ∀ b ∈ L.bls A l, B ≤ b ∧ b < w.heap.size := fun b hb => by
  rcases mem_bls.1 hb with z | ⟨x, hx, z⟩
  · exact World.ownsRow.lt h.own b (by rw [obk_own]; exact z)
  · exact O.bd (h.each x hx) b z
theorem Built.low {B' : Nat} (h : Built L w B A c l) (hB : B' ≤ B) : Built L w B' A c l := ⟨ownsRow_low h.own hB, fun x hx => O.low (h.each x hx) hB, h.nd⟩
theorem Built.below (h : Built L w B A c l) (hb : Below w.heap.size w w') : Built L w' B A c l := h.keep O fun b hb' => hb.block b (h.bd O b hb').2
omit O in
theorem grown_keep {row : Option Nat} (hg : w.grownBy w' row) {b : Nat} (hb : b < w.heap.size) (hne : row ≠ some b) : w'.heap[b]? = w.heap[b]? := hg.block b hb fun e => hne e.symm
/-- one part more, just laid and appended -/
theorem run_app_lev {P : Program} (h : Built L w B A c l) (t : TypeId) (i : TypeInfo) (z : Value) (bytes : Nat) (ht : P.underlying t = some (.slice L.T)) (hi : P.info? L.T = some i) (hz : i.zero = some z) (hs : i.size = L.s) (hby : i.bytes = bytes) (hzs : z.cells.size = L.s) (hp : 0 < L.s) (hbs : bytes ≤ 1000)
    (x : α) (hx : L.H w B x) (hd : ∀ b ∈ L.bl x, b ∉ L.bls A l) (hl : l.length ≤ 2000000) (hB : B ≤ w.heap.size) :
    ∃ g c' w', (Builtin.append_ #[t, t] t #[.slice A l.length c, .slice (some ⟨w.heap.size, 0, none⟩) 1 1]).run P (w.alloc (.cells (L.f x) L.T)) = .ok (.slice (some ⟨g, 0, none⟩) (l.length + 1) c') w' ∧
      Built L w' B (some ⟨g, 0, none⟩) c' (l ++ [x]) ∧ (obk A = some g ∨ w.heap.size ≤ g) ∧ w.grownBy w' (obk A) := by
  have hby2 : (l.length + 1) * bytes ≤ 2000001 * 1000 := Nat.mul_le_mul (by omega) hbs
  have ho := h.own.alloc (.cells (L.f x) L.T)
  obtain ⟨g, c', w', hr, hown, hg, hat, hlt⟩ := run_append_lies (P := P) (w.alloc (.cells (L.f x) L.T)) t t B L.T i z L.s bytes ht hi hz hs hby hzs hp _ l.length (flatR L.f l) ho ⟨w.heap.size, 0, none⟩ 1 1 (L.f x).toList
    (by rw [Array.length_toList, O.size, Nat.one_mul]) (fun j u hu => by rw [Addr.add_lit, Nat.zero_add, cell_of_row _ w.heap.size _ (L.f x) L.T (0, 0) (heap_alloc_new w _), ← Array.getElem?_toList]; exact hu)
    (O.one x) (by decide) (by simp only [maxLen]; omega) (by omega) (by simp; omega) _ rfl
  rw [obk_own] at hg hat
  have hg2 : w.grownBy w' (obk A) := grown_trans (below_grown ((Below.refl _ w).alloc (Nat.le_refl _) _) _) hg
  have hat2 : obk A = some g ∨ w.heap.size ≤ g := hat.imp id fun e => by rw [e]; simp
  have hbd := h.bd O
  have hne : ∀ y ∈ l, ∀ b ∈ L.bl y, obk A ≠ some b := fun y hy b hb e => by
    have := h.nd
    unfold Lev.bls at this
    rw [e] at this
    exact (List.nodup_append.1 this).2.2 b (by simp) b (List.mem_flatMap.2 ⟨y, hy, hb⟩) rfl
  have hnx : ∀ b ∈ L.bl x, obk A ≠ some b := fun b hb e => hd b hb (mem_bls.2 (.inl e))
  have hbx := O.bd hx
  refine ⟨g, c', w', hr, ⟨?_, fun y hy => ?_, ?_⟩, hat2, hg2⟩
  · rw [flatR_snoc, List.length_append]
    exact hown
  · rcases List.mem_append.1 hy with hy | hy
    · exact O.keep (h.each y hy) fun b hb => grown_keep hg2 (O.bd (h.each y hy) b hb).2 (hne y hy b hb)
    · rw [List.mem_singleton] at hy
      subst hy
      exact O.keep hx fun b hb => grown_keep hg2 (hbx b hb).2 (hnx b hb)
  · unfold Lev.bls
    rw [List.flatMap_append]
    have hn := h.nd
    unfold Lev.bls at hn
    have hn2 := (List.nodup_append.1 hn).2.1
    have hnb : ∀ b, b ∈ l.flatMap L.bl ∨ b ∈ L.bl x → b ≠ g := fun b hb e => by
      subst e
      have hlt : b < w.heap.size := by
        rcases hb with z | z
        · obtain ⟨y, hy, z⟩ := List.mem_flatMap.1 z
          exact (O.bd (h.each y hy) b z).2
        · exact (hbx b z).2
      rcases hat2 with e | e
      · rcases hb with z | z
        · obtain ⟨y, hy, z⟩ := List.mem_flatMap.1 z
          exact hne y hy b z e
        · exact hnx b z e
      · omega
    have e1 : ([x] : List α).flatMap L.bl = L.bl x := by simp
    rw [e1]
    show (g :: (l.flatMap L.bl ++ L.bl x)).Nodup
    rw [List.nodup_cons]
    refine ⟨fun hm => ?_, List.nodup_append.2 ⟨hn2, O.nd hx, fun a ha b hb e => ?_⟩⟩
    · exact hnb g (List.mem_append.1 hm) rfl
    · subst e
      obtain ⟨y, hy, z⟩ := List.mem_flatMap.1 ha
      exact hd a hb (mem_bls.2 (.inr ⟨y, hy, z⟩))
end
end Go.Proofs.YtnflbnchkcigiaaDoor
