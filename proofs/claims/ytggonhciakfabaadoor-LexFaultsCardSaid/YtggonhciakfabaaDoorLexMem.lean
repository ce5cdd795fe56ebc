/- Words on memory for layer 8: a token in a block of its own, tokens in a row. No walk here. -/
import Derived.Test.YtggonhciakfabaaDoorLexEnds
import Derived.Test.YtggonhciakfabaaDoorTurned
namespace Go.Proofs.YtggonhciakfabaaDoor
open Go.RowKit
open Go.Lib (byteCells)

/-- a token's parts as the machine holds them -/
def tkC (x : Tk) : Array Value := #[.int .i64 (x.k : Nat), .string (str x.t), .int .u64 (x.n : Nat), .int .i64 (x.a : Nat), .int .i64 (x.e : Nat)]
def tk0 : Tk := ⟨0, [], 0, 0, 0⟩
/-- the block g holds just this token -/
def TBlk (w : World) (g : Nat) (x : Tk) : Prop := w.heap[g]? = some (.cells (tkC x) 32 (0, 0))
section
variable {w w' : World} {g : Nat} {x : Tk}
theorem TBlk.new (w : World) (x : Tk) : TBlk (w.alloc (.cells (tkC x) 32)) w.heap.size x := heap_alloc_new w _
theorem TBlk.len (h : TBlk w g x) : g < w.heap.size := (Array.getElem?_eq_some_iff.1 h).1
theorem TBlk.cells (h : TBlk w g x) : w.cell? ⟨g, 0, none⟩ = some (.int .i64 (x.k : Nat)) ∧ w.cell? ⟨g, 1, none⟩ = some (.string (str x.t)) ∧ w.cell? ⟨g, 2, none⟩ = some (.int .u64 (x.n : Nat)) ∧ w.cell? ⟨g, 3, none⟩ = some (.int .i64 (x.a : Nat)) ∧ w.cell? ⟨g, 4, none⟩ = some (.int .i64 (x.e : Nat)) := by
  have q := fun j => cell_of_row w g j _ 32 (0, 0) h
  exact ⟨q 0, q 1, q 2, q 3, q 4⟩
theorem TBlk.frozen (h : TBlk w g x) (i : Nat) : w.frozen? ⟨g, i, none⟩ = false := by
  unfold TBlk at h
  simp [World.frozen?, h]
theorem TBlk.there (h : TBlk w g x) : w.there g 0 5 := fun j hj => by
  refine ⟨?_, h.frozen _⟩
  rw [cell_of_row w g _ _ 32 (0, 0) h, Nat.zero_add, Array.getElem?_eq_getElem (show j < (tkC x).size from hj)]
  rfl
theorem TBlk.keep (h : TBlk w g x) (hb : w'.heap[g]? = w.heap[g]?) : TBlk w' g x := hb.trans h
theorem TBlk.below (h : TBlk w g x) (hb : Below w.heap.size w w') : TBlk w' g x := h.keep (hb.block g h.len)
theorem TBlk.new_ (h : TBlk w g x) (o : Obj) : TBlk (w.alloc o) g x := h.keep (heap_alloc_old w _ h.len)
theorem TBlk.set (h : TBlk w g x) (y : Tk) : TBlk (w.setCells g 0 (tkC y).toList) g y := by
  have h0 := heap_setCell_same w g 0 _ _ (.int .i64 (y.k : Nat)) h
  have h1 := heap_setCell_same _ g 1 _ _ (.string (str y.t)) h0
  have h2 := heap_setCell_same _ g 2 _ _ (.int .u64 (y.n : Nat)) h1
  have h3 := heap_setCell_same _ g 3 _ _ (.int .i64 (y.a : Nat)) h2
  have h4 := heap_setCell_same _ g 4 _ _ (.int .i64 (y.e : Nat)) h3
  exact h4
theorem TBlk.load (h : TBlk w g x) : (loadVar 32 ⟨g, 0, none⟩).run Tryd.prog w = .ok (.agg (tkC x)) w := by
  have hc : w.rangeAt g 0 (tkC x).toList := fun j y hy => by
    rw [cell_of_row w g _ _ 32 (0, 0) h, Nat.zero_add, ← Array.getElem?_toList]; exact hy
  exact run_loadVar_mid w g 0 32 (tkC x).toList _ hc Tryd.underlying32 rfl (by kernel_rfl)
end
/-- a token stored whole into its block -/
theorem wpList_store_tok {ops : Array Oper} {rest : List Oper} {op : Oper} {a : Act} {w : World} {Q : Exit → Act → World → Prop} (hgd : op.guard = none) (x y : Operand) (ho : op.op = .store 32 x y)
    (g : Nat) (v0 v : Tk) (hx : a.eval x = .pointer (some ⟨g, 0, none⟩)) (hy : a.eval y = .agg (tkC v)) (hB : TBlk w g v0)
    (h : ∀ w2, TBlk w2 g v → Turned g w w2 → wpList Tryd.prog ops Q rest (a.put op.dst undef) w2) : wpList Tryd.prog ops Q (op :: rest) a w :=
  wpList_store_mid hgd 32 x y ho g 0 (tkC v) hx hy hB.there (by kernel_rfl) (by kernel_rfl) (h _ (hB.set v) (Turned.setCells _ _ _ (Turned.refl g w)))
/-- a token loaded whole out of its block -/
theorem wpList_load_tok {ops : Array Oper} {rest : List Oper} {op : Oper} {a : Act} {w : World} {Q : Exit → Act → World → Prop} (hgd : op.guard = none) (x : Operand) (ho : op.op = .load 32 x)
    (g : Nat) (v : Tk) (hx : a.eval x = .pointer (some ⟨g, 0, none⟩)) (hB : TBlk w g v)
    (h : wpList Tryd.prog ops Q rest (a.put op.dst (.agg (tkC v))) w) : wpList Tryd.prog ops Q (op :: rest) a w :=
  wpList_plain hgd fun _ hK => by
    unfold Oper.wp execOp
    simp only [ho, hx, Instr.loadAt, Instr.sureAddr, Sem.run_bind, Sem.run_pure, Result.andThen_ok, hB.load]
    exact hK _ _ h
/-- a token out of a block, a place and an error: what is answered -/
theorem results_tok {fn : Func} {s t q : Tmp} (h : fn.results = #[.cell s 32, .tmp t, .tmp q]) (tmps : Array Value) (w : World) (g : Nat) (x : Tk) (u v : Value)
    (hp : tmps.getD s undef = .pointer (some ⟨g, 0, none⟩)) (he : tmps.getD t undef = u) (hv : tmps.getD q undef = v) (hg : TBlk w g x) : (results fn tmps).run Tryd.prog w = .ok (.tuple #[.agg (tkC x), u, v]) w := by
  unfold results
  rw [h]
  have hp' : tmps[s]?.getD undef = .pointer (some ⟨g, 0, none⟩) := by simpa [Array.getD_eq_getD_getElem?] using hp
  have he' : tmps[t]?.getD undef = u := by simpa [Array.getD_eq_getD_getElem?] using he
  have hv' : tmps[q]?.getD undef = v := by simpa [Array.getD_eq_getD_getElem?] using hv
  simp [hp', he', hv', asAddr, hg.load]

/-- At the address A stand the tokens l, below block B. -/
def TRow (w : World) (B : Nat) (A : Option Addr) (l : List Tk) : Prop :=
  l = [] ∨ ∃ g o, A = some ⟨g, o, none⟩ ∧ g < B ∧ ∀ i x, l[i]? = some x → w.cell? ⟨g, o + i * 5, none⟩ = some (.int .i64 (x.k : Nat)) ∧ w.cell? ⟨g, o + i * 5 + 1, none⟩ = some (.string (str x.t)) ∧ w.cell? ⟨g, o + i * 5 + 2, none⟩ = some (.int .u64 (x.n : Nat)) ∧
    w.cell? ⟨g, o + i * 5 + 3, none⟩ = some (.int .i64 (x.a : Nat)) ∧ w.cell? ⟨g, o + i * 5 + 4, none⟩ = some (.int .i64 (x.e : Nat))
section
variable {w w' : World} {B B' : Nat} {A : Option Addr} {l : List Tk}
theorem TRow.nil : TRow w B A [] := .inl rfl
theorem TRow.at_ (h : TRow w B A l) {i : Nat} {x : Tk} (hx : l[i]? = some x) : ∃ g o, A = some ⟨g, o, none⟩ ∧ g < B ∧ w.cell? ⟨g, o + i * 5, none⟩ = some (.int .i64 (x.k : Nat)) ∧ w.cell? ⟨g, o + i * 5 + 1, none⟩ = some (.string (str x.t)) ∧ w.cell? ⟨g, o + i * 5 + 2, none⟩ = some (.int .u64 (x.n : Nat)) ∧
    w.cell? ⟨g, o + i * 5 + 3, none⟩ = some (.int .i64 (x.a : Nat)) ∧ w.cell? ⟨g, o + i * 5 + 4, none⟩ = some (.int .i64 (x.e : Nat)) := by
  rcases h with rfl | ⟨g, o, rfl, hg, hc⟩
  · simp at hx
  · exact ⟨g, o, rfl, hg, hc i x hx⟩
theorem TRow.below (h : TRow w B A l) (hb : Below B w w') : TRow w' B A l := by
  rcases h with rfl | ⟨g, o, rfl, hg, hc⟩
  · exact .inl rfl
  · refine .inr ⟨g, o, rfl, hg, fun i x hx => ?_⟩
    obtain ⟨c0, c1, c2, c3, c4⟩ := hc i x hx
    have k := fun j => hb.cell (p := ⟨g, j, none⟩) hg
    exact ⟨(k _).trans c0, (k _).trans c1, (k _).trans c2, (k _).trans c3, (k _).trans c4⟩
theorem TRow.more (h : TRow w B A l) (hB : B ≤ B') : TRow w B' A l := by
  rcases h with rfl | ⟨g, o, rfl, hg, hc⟩
  · exact .inl rfl
  · exact .inr ⟨g, o, rfl, by omega, hc⟩
theorem TRow.then_ (h : TRow w w.heap.size A l) (hb : Below w.heap.size w w') : TRow w' w'.heap.size A l := (h.below hb).more hb.size
end

def flatT (l : List Tk) : List Value := l.flatMap fun x => (tkC x).toList
theorem flatT_len (l : List Tk) : (flatT l).length = l.length * 5 := by
  induction l with
  | nil => rfl
  | cons x r ih =>
    show ((tkC x).toList ++ flatT r).length = _
    rw [List.length_append, ih, List.length_cons]
    show 5 + _ = _
    omega
theorem flatT_append (a b : List Tk) : flatT (a ++ b) = flatT a ++ flatT b := by unfold flatT; exact List.flatMap_append
theorem flatT_at : ∀ (l : List Tk) (i : Nat) (x : Tk), l[i]? = some x → ∀ j, j < 5 → (flatT l)[i * 5 + j]? = (tkC x)[j]?
  | [], _, _, h, _, _ => by simp at h
  | y :: r, 0, x, h, j, hj => by
    simp only [List.getElem?_cons_zero, Option.some.injEq] at h
    subst h
    show ((tkC y).toList ++ flatT r)[0 * 5 + j]? = _
    rw [Nat.zero_mul, Nat.zero_add, List.getElem?_append_left (by exact hj), Array.getElem?_toList]
  | y :: r, i + 1, x, h, j, hj => by
    simp only [List.getElem?_cons_succ] at h
    show ((tkC y).toList ++ flatT r)[(i + 1) * 5 + j]? = _
    rw [List.getElem?_append_right (by show 5 ≤ _; omega)]
    show (flatT r)[(i + 1) * 5 + j - 5]? = _
    rw [show (i + 1) * 5 + j - 5 = i * 5 + j by omega]
    exact flatT_at r i x h j hj

/-- the slice value v is a row of the call's own: the tokens l -/
def OwnT (w : World) (base : Nat) (A : Option Addr) (c : Nat) (l : List Tk) : Prop := w.ownsRow base 32 5 (.slice A l.length c) l.length (flatT l)
section
variable {w w' : World} {base : Nat} {A : Option Addr} {c : Nat} {l : List Tk}
theorem OwnT.nil (w : World) (base : Nat) : OwnT w base none 0 [] := World.ownsRow_nil w base _ 5
theorem OwnT.then_ (h : OwnT w base A c l) (hb : Below w.heap.size w w') : OwnT w' base A c l := by
  refine ⟨h.1, ?_⟩
  rcases h.2 with h0 | ⟨g, cap, cur, hv, hg, hc, rest⟩
  · exact .inl h0
  · exact .inr ⟨g, cap, cur, hv, hg, (hb.block g (Array.getElem?_eq_some_iff.1 hc).1).trans hc, rest⟩
theorem OwnT.new (h : OwnT w base A c l) (o : Obj) : OwnT (w.alloc o) base A c l := h.then_ ((Below.refl _ _).alloc (Nat.le_refl _) _)
theorem OwnT.reads (h : OwnT w base A c l) : TRow w w.heap.size A l := by
  rcases h.2 with ⟨hv, h0⟩ | ⟨g, cap, cur, hv, hg, hc, rest⟩
  · exact .inl (List.eq_nil_of_length_eq_zero h0)
  · injection hv with e1 e2 e3
    subst e1
    refine .inr ⟨g, 0, rfl, (Array.getElem?_eq_some_iff.1 hc).1, fun i x hx => ?_⟩
    have q : ∀ j, j < 5 → w.cell? ⟨g, 0 + i * 5 + j, none⟩ = (tkC x)[j]? := fun j hj => by
      have hi : i < l.length := by
        rcases Nat.lt_or_ge i l.length with g | g
        · exact g
        · rw [List.getElem?_eq_none g] at hx; cases hx
      have hf := flatT_at l i x hx j hj
      have hsome : (tkC x)[j]? = some ((tkC x)[j]'(by exact hj)) := Array.getElem?_eq_getElem (by exact hj)
      rw [hsome] at hf ⊢
      have := World.ownsRow.cells h (g := g) rfl (i * 5 + j) _ hf
      rwa [Addr.add_lit, ← Nat.add_assoc] at this
    exact ⟨q 0 (by decide), q 1 (by decide), q 2 (by decide), q 3 (by decide), q 4 (by decide)⟩
end

theorem infoT : (Tryd.prog.info? 32).map (fun i => (i.zero, i.size, i.bytes)) = some (some (.agg (tkC tk0)), 5, 48) := by kernel_rfl

/-- one token that was just laid, appended -/
theorem run_app_tok {w : World} {base : Nat} {A : Option Addr} {c : Nat} {l : List Tk} (ho : OwnT w base A c l) (x : Tk) (r : List Tk) (hr : r = l ++ [x]) (hm : r.length ≤ 2000000000) (hbase : base ≤ w.heap.size) :
    ∃ A' c' w', (Builtin.append_ #[23, 23] 23 #[.slice A l.length c, .slice (some ⟨w.heap.size, 0, none⟩) 1 1]).run Tryd.prog (w.alloc (.cells (tkC x) 32)) = .ok (.slice A' r.length c') w' ∧
      OwnT w' base A' c' r ∧ Below base w w' ∧ ∀ g, g < w.heap.size → (Value.slice A l.length c).ownBlock ≠ some g → w'.heap[g]? = w.heap[g]? := by
  cases hq : Tryd.prog.info? 32 with
  | none => have := infoT; rw [hq] at this; cases this
  | some i0 =>
    have hI := infoT
    rw [hq] at hI
    simp only [Option.map_some, Option.some.injEq, Prod.mk.injEq] at hI
    obtain ⟨hz0, hz1, hz2⟩ := hI
    subst hr
    have hln : (l ++ [x]).length = l.length + 1 := List.length_append
    rw [hln] at hm
    obtain ⟨v', w', hr, hown, hg, _, _⟩ := run_append_own_at (P := Tryd.prog) (w.alloc (.cells (tkC x) 32)) base 23 23 32 i0 _ 5 48 Tryd.underlying23 hq hz0 hz1 hz2 rfl (by decide) _ l.length (flatT l) (ho.new _) ⟨w.heap.size, 0, none⟩ 1 1 (tkC x).toList
      rfl (fun j u hu => by rw [Addr.add_lit, Nat.zero_add, cell_of_row _ w.heap.size _ (tkC x) 32 (0, 0) (heap_alloc_new w _), ← Array.getElem?_toList]; exact hu)
      (fun u hu => by simp only [tkC, List.mem_cons, List.not_mem_nil, or_false] at hu; rcases hu with rfl | rfl | rfl | rfl | rfl <;> rfl) (by simp only [maxLen]; omega) (by omega) (by simp; omega)
    have e : flatT l ++ (tkC x).toList = flatT (l ++ [x]) := by rw [flatT_append]; simp [flatT]
    rw [e, ← hln] at hown
    have hB : Below base w w' := ((Below.refl base w).alloc hbase _).grown hg (by simp; omega) fun k hk => (World.ownsRow.lt ho k hk).1
    rcases hown.2 with ⟨_, h0⟩ | ⟨g, cap, cur, rfl, rest⟩
    · rw [hln] at h0; omega
    · exact ⟨some ⟨g, 0, none⟩, cap, w', hr, hown, hB, fun j hj hne => (hg.block j (by simp; omega) (fun e => hne e.symm)).trans (heap_alloc_old w _ hj)⟩

theorem OwnT.off {w : World} {base : Nat} {A : Option Addr} {c : Nat} {l : List Tk} (h : OwnT w base A c l) {g : Nat} (hg : w.heap.size ≤ g) : (Value.slice A l.length c).ownBlock ≠ some g := fun e => by
  have := (World.ownsRow.lt h g e).2
  omega
end Go.Proofs.YtggonhciakfabaaDoor
