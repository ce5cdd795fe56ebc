/- Words on memory for layer 9: a node in a block of its own, nodes in a row. No walk here. (After LexMem.) -/
import Derived.Test.YtipcgmaobiobbaaGreatDoorParGa
import Derived.Test.YtipcgmaobiobbaaGreatDoorParGb
import Derived.StillTailTactics
namespace Go.Proofs.YtipcgmaobiobbaaGreatDoor
open Go.RowKit
open Go.Lib (byteCells)

/-- a node's parts as the machine holds them -/
def ndC (x : Nd) : Array Value := #[.int .i64 (x.op : Nat), .int .i64 (x.n : Nat), .int .u64 (x.num : Nat), .string (str x.t), .int .i64 (x.a : Nat)]
def nd0 : Nd := ⟨0, 0, 0, [], 0⟩
/-- the block g holds just this node -/
def NBlk (w : World) (g : Nat) (x : Nd) : Prop := w.heap[g]? = some (.cells (ndC x) 64 (0, 0))
section
variable {w w' : World} {g : Nat} {x : Nd}
theorem NBlk.new (w : World) (x : Nd) : NBlk (w.alloc (.cells (ndC x) 64)) w.heap.size x := heap_alloc_new w _
theorem NBlk.len (h : NBlk w g x) : g < w.heap.size := (Array.getElem?_eq_some_iff.1 h).1
theorem NBlk.cells (h : NBlk w g x) : w.cell? ⟨g, 0, none⟩ = some (.int .i64 (x.op : Nat)) ∧ w.cell? ⟨g, 1, none⟩ = some (.int .i64 (x.n : Nat)) ∧ w.cell? ⟨g, 2, none⟩ = some (.int .u64 (x.num : Nat)) ∧ w.cell? ⟨g, 3, none⟩ = some (.string (str x.t)) ∧ w.cell? ⟨g, 4, none⟩ = some (.int .i64 (x.a : Nat)) := by
  have q := fun j => cell_of_row w g j _ 64 (0, 0) h
  exact ⟨q 0, q 1, q 2, q 3, q 4⟩
theorem NBlk.frozen (h : NBlk w g x) (i : Nat) : w.frozen? ⟨g, i, none⟩ = false := by
  unfold NBlk at h
  simp [World.frozen?, h]
theorem NBlk.there (h : NBlk w g x) : w.there g 0 5 := fun j hj => by
  refine ⟨?_, h.frozen _⟩
  rw [cell_of_row w g _ _ 64 (0, 0) h, Nat.zero_add, Array.getElem?_eq_getElem (show j < (ndC x).size from hj)]
  rfl
theorem NBlk.keep (h : NBlk w g x) (hb : w'.heap[g]? = w.heap[g]?) : NBlk w' g x := hb.trans h
theorem NBlk.below (h : NBlk w g x) (hb : Below w.heap.size w w') : NBlk w' g x := h.keep (hb.block g h.len)
theorem NBlk.new_ (h : NBlk w g x) (o : Obj) : NBlk (w.alloc o) g x := h.keep (heap_alloc_old w _ h.len)
theorem NBlk.set (h : NBlk w g x) (y : Nd) : NBlk (w.setCells g 0 (ndC y).toList) g y := by
  have h0 := heap_setCell_same w g 0 _ _ (.int .i64 (y.op : Nat)) h
  have h1 := heap_setCell_same _ g 1 _ _ (.int .i64 (y.n : Nat)) h0
  have h2 := heap_setCell_same _ g 2 _ _ (.int .u64 (y.num : Nat)) h1
  have h3 := heap_setCell_same _ g 3 _ _ (.string (str y.t)) h2
  have h4 := heap_setCell_same _ g 4 _ _ (.int .i64 (y.a : Nat)) h3
  exact h4
theorem NBlk.load (h : NBlk w g x) : (loadVar 64 ⟨g, 0, none⟩).run Tryz.prog w = .ok (.agg (ndC x)) w := by
  have hc : w.rangeAt g 0 (ndC x).toList := fun j y hy => by
    rw [cell_of_row w g _ _ 64 (0, 0) h, Nat.zero_add, ← Array.getElem?_toList]; exact hy
  exact run_loadVar_mid w g 0 64 (ndC x).toList _ hc Tryz.underlying64 rfl (by kernel_rfl)
end
/-- a node stored whole into its block -/
theorem wpList_store_nd {ops : Array Oper} {rest : List Oper} {op : Oper} {a : Act} {w : World} {Q : Exit → Act → World → Prop} (hgd : op.guard = none) (x y : Operand) (ho : op.op = .store 64 x y)
    (g : Nat) (v0 v : Nd) (hx : a.eval x = .pointer (some ⟨g, 0, none⟩)) (hy : a.eval y = .agg (ndC v)) (hB : NBlk w g v0)
    (h : ∀ w2, NBlk w2 g v → Turned g w w2 → wpList Tryz.prog ops Q rest (a.put op.dst undef) w2) : wpList Tryz.prog ops Q (op :: rest) a w :=
  wpList_store_mid hgd 64 x y ho g 0 (ndC v) hx hy hB.there (by kernel_rfl) (by kernel_rfl) (h _ (hB.set v) (Turned.setCells _ _ _ (Turned.refl g w)))
/-- a node loaded whole out of its block -/
theorem wpList_load_nd {ops : Array Oper} {rest : List Oper} {op : Oper} {a : Act} {w : World} {Q : Exit → Act → World → Prop} (hgd : op.guard = none) (x : Operand) (ho : op.op = .load 64 x)
    (g : Nat) (v : Nd) (hx : a.eval x = .pointer (some ⟨g, 0, none⟩)) (hB : NBlk w g v)
    (h : wpList Tryz.prog ops Q rest (a.put op.dst (.agg (ndC v))) w) : wpList Tryz.prog ops Q (op :: rest) a w :=
  wpList_plain hgd fun _ hK => by
    unfold Oper.wp execOp
    simp only [ho, hx, Instr.loadAt, Instr.sureAddr, Sem.run_bind, Sem.run_pure, Result.andThen_ok, hB.load]
    exact hK _ _ h
/-- a node out of a block, a place and an error: what is answered -/
theorem results_nd {fn : Func} {s t q : Tmp} (h : fn.results = #[.cell s 64, .tmp t, .tmp q]) (tmps : Array Value) (w : World) (g : Nat) (x : Nd) (u v : Value)
    (hp : tmps.getD s undef = .pointer (some ⟨g, 0, none⟩)) (he : tmps.getD t undef = u) (hv : tmps.getD q undef = v) (hg : NBlk w g x) : (results fn tmps).run Tryz.prog w = .ok (.tuple #[.agg (ndC x), u, v]) w := by
  unfold results
  rw [h]
  have hp' : tmps[s]?.getD undef = .pointer (some ⟨g, 0, none⟩) := by simpa [Array.getD_eq_getD_getElem?] using hp
  have he' : tmps[t]?.getD undef = u := by simpa [Array.getD_eq_getD_getElem?] using he
  have hv' : tmps[q]?.getD undef = v := by simpa [Array.getD_eq_getD_getElem?] using hv
  simp [hp', he', hv', asAddr, hg.load]

/-- At the address A stand the nodes l, below block B. -/
def NRow (w : World) (B : Nat) (A : Option Addr) (l : List Nd) : Prop :=
  l = [] ∨ ∃ g o, A = some ⟨g, o, none⟩ ∧ g < B ∧ ∀ i x, l[i]? = some x → w.cell? ⟨g, o + i * 5, none⟩ = some (.int .i64 (x.op : Nat)) ∧ w.cell? ⟨g, o + i * 5 + 1, none⟩ = some (.int .i64 (x.n : Nat)) ∧ w.cell? ⟨g, o + i * 5 + 2, none⟩ = some (.int .u64 (x.num : Nat)) ∧
    w.cell? ⟨g, o + i * 5 + 3, none⟩ = some (.string (str x.t)) ∧ w.cell? ⟨g, o + i * 5 + 4, none⟩ = some (.int .i64 (x.a : Nat))
section
variable {w w' : World} {B B' : Nat} {A : Option Addr} {l : List Nd}
theorem NRow.nil : NRow w B A [] := .inl rfl
theorem NRow.at_ (h : NRow w B A l) {i : Nat} {x : Nd} (hx : l[i]? = some x) : ∃ g o, A = some ⟨g, o, none⟩ ∧ g < B ∧ w.cell? ⟨g, o + i * 5, none⟩ = some (.int .i64 (x.op : Nat)) ∧ w.cell? ⟨g, o + i * 5 + 1, none⟩ = some (.int .i64 (x.n : Nat)) ∧ w.cell? ⟨g, o + i * 5 + 2, none⟩ = some (.int .u64 (x.num : Nat)) ∧
    w.cell? ⟨g, o + i * 5 + 3, none⟩ = some (.string (str x.t)) ∧ w.cell? ⟨g, o + i * 5 + 4, none⟩ = some (.int .i64 (x.a : Nat)) := by
  rcases h with rfl | ⟨g, o, rfl, hg, hc⟩
  · simp at hx
  · exact ⟨g, o, rfl, hg, hc i x hx⟩
theorem NRow.below (h : NRow w B A l) (hb : Below B w w') : NRow w' B A l := by
  rcases h with rfl | ⟨g, o, rfl, hg, hc⟩
  · exact .inl rfl
  · refine .inr ⟨g, o, rfl, hg, fun i x hx => ?_⟩
    obtain ⟨c0, c1, c2, c3, c4⟩ := hc i x hx
    have k := fun j => hb.cell (p := ⟨g, j, none⟩) hg
    exact ⟨(k _).trans c0, (k _).trans c1, (k _).trans c2, (k _).trans c3, (k _).trans c4⟩
theorem NRow.more (h : NRow w B A l) (hB : B ≤ B') : NRow w B' A l := by
  rcases h with rfl | ⟨g, o, rfl, hg, hc⟩
  · exact .inl rfl
  · exact .inr ⟨g, o, rfl, by omega, hc⟩
theorem NRow.then_ (h : NRow w w.heap.size A l) (hb : Below w.heap.size w w') : NRow w' w'.heap.size A l := (h.below hb).more hb.size
end

def flatN (l : List Nd) : List Value := l.flatMap fun x => (ndC x).toList
theorem flatN_len (l : List Nd) : (flatN l).length = l.length * 5 := by
  induction l with
  | nil => rfl
  | cons x r ih =>
    show ((ndC x).toList ++ flatN r).length = _
    rw [List.length_append, ih, List.length_cons]
    show 5 + _ = _
    omega
theorem flatN_append (a b : List Nd) : flatN (a ++ b) = flatN a ++ flatN b := by unfold flatN; exact List.flatMap_append
theorem flatN_at : ∀ (l : List Nd) (i : Nat) (x : Nd), l[i]? = some x → ∀ j, j < 5 → (flatN l)[i * 5 + j]? = (ndC x)[j]?
  | [], _, _, h, _, _ => by simp at h
  | y :: r, 0, x, h, j, hj => by
    simp only [List.getElem?_cons_zero, Option.some.injEq] at h
    subst h
    show ((ndC y).toList ++ flatN r)[0 * 5 + j]? = _
    rw [Nat.zero_mul, Nat.zero_add, List.getElem?_append_left (by exact hj), Array.getElem?_toList]
  | y :: r, i + 1, x, h, j, hj => by
    simp only [List.getElem?_cons_succ] at h
    show ((ndC y).toList ++ flatN r)[(i + 1) * 5 + j]? = _
    rw [List.getElem?_append_right (by show 5 ≤ _; omega)]
    show (flatN r)[(i + 1) * 5 + j - 5]? = _
    rw [show (i + 1) * 5 + j - 5 = i * 5 + j by omega]
    exact flatN_at r i x h j hj

/-- the slice value v is a row of the call's own: the nodes l -/
def OwnN (w : World) (base : Nat) (A : Option Addr) (c : Nat) (l : List Nd) : Prop := w.ownsRow base 64 5 (.slice A l.length c) l.length (flatN l)
section
variable {w w' : World} {base : Nat} {A : Option Addr} {c : Nat} {l : List Nd}
theorem OwnN.nil (w : World) (base : Nat) : OwnN w base none 0 [] := World.ownsRow_nil w base _ 5
theorem OwnN.then_ (h : OwnN w base A c l) (hb : Below w.heap.size w w') : OwnN w' base A c l := by
  refine ⟨h.1, ?_⟩
  rcases h.2 with h0 | ⟨g, cap, cur, hv, hg, hc, rest⟩
  · exact .inl h0
  · exact .inr ⟨g, cap, cur, hv, hg, (hb.block g (Array.getElem?_eq_some_iff.1 hc).1).trans hc, rest⟩
theorem OwnN.new (h : OwnN w base A c l) (o : Obj) : OwnN (w.alloc o) base A c l := h.then_ ((Below.refl _ _).alloc (Nat.le_refl _) _)
theorem OwnN.reads (h : OwnN w base A c l) : NRow w w.heap.size A l := by
  rcases h.2 with ⟨hv, h0⟩ | ⟨g, cap, cur, hv, hg, hc, rest⟩
  · exact .inl (List.eq_nil_of_length_eq_zero h0)
  · injection hv with e1 e2 e3
    subst e1
    refine .inr ⟨g, 0, rfl, (Array.getElem?_eq_some_iff.1 hc).1, fun i x hx => ?_⟩
    have q : ∀ j, j < 5 → w.cell? ⟨g, 0 + i * 5 + j, none⟩ = (ndC x)[j]? := fun j hj => by
      have hi : i < l.length := by
        rcases Nat.lt_or_ge i l.length with g | g
        · exact g
        · rw [List.getElem?_eq_none g] at hx; cases hx
      have hf := flatN_at l i x hx j hj
      have hsome : (ndC x)[j]? = some ((ndC x)[j]'(by exact hj)) := Array.getElem?_eq_getElem (by exact hj)
      rw [hsome] at hf ⊢
      have := World.ownsRow.cells h (g := g) rfl (i * 5 + j) _ hf
      rwa [Addr.add_lit, ← Nat.add_assoc] at this
    exact ⟨q 0 (by decide), q 1 (by decide), q 2 (by decide), q 3 (by decide), q 4 (by decide)⟩
end

theorem infoN : (Tryz.prog.info? 64).map (fun i => (i.zero, i.size, i.bytes)) = some (some (.agg (ndC nd0)), 5, 48) := by kernel_rfl

/-- one node that was just laid, appended -/
theorem run_app_nd {w : World} {base : Nat} {A : Option Addr} {c : Nat} {l : List Nd} (ho : OwnN w base A c l) (x : Nd) (r : List Nd) (hr : r = l ++ [x]) (hm : r.length ≤ 2000000000) (hbase : base ≤ w.heap.size) :
    ∃ A' c' w', (Builtin.append_ #[25, 25] 25 #[.slice A l.length c, .slice (some ⟨w.heap.size, 0, none⟩) 1 1]).run Tryz.prog (w.alloc (.cells (ndC x) 64)) = .ok (.slice A' r.length c') w' ∧
      OwnN w' base A' c' r ∧ Below base w w' ∧ ∀ g, g < w.heap.size → (Value.slice A l.length c).ownBlock ≠ some g → w'.heap[g]? = w.heap[g]? := by
  cases hq : Tryz.prog.info? 64 with
  | none => have := infoN; rw [hq] at this; cases this
  | some i0 =>
    have hI := infoN
    rw [hq] at hI
    simp only [Option.map_some, Option.some.injEq, Prod.mk.injEq] at hI
    obtain ⟨hz0, hz1, hz2⟩ := hI
    subst hr
    have hln : (l ++ [x]).length = l.length + 1 := List.length_append
    rw [hln] at hm
    obtain ⟨v', w', hr, hown, hg, _, _⟩ := run_append_own_at (P := Tryz.prog) (w.alloc (.cells (ndC x) 64)) base 25 25 64 i0 _ 5 48 Tryz.underlying25 hq hz0 hz1 hz2 rfl (by decide) _ l.length (flatN l) (ho.new _) ⟨w.heap.size, 0, none⟩ 1 1 (ndC x).toList
      rfl (fun j u hu => by rw [Addr.add_lit, Nat.zero_add, cell_of_row _ w.heap.size _ (ndC x) 64 (0, 0) (heap_alloc_new w _), ← Array.getElem?_toList]; exact hu)
      (fun u hu => by simp only [ndC, List.mem_cons, List.not_mem_nil, or_false] at hu; rcases hu with rfl | rfl | rfl | rfl | rfl <;> rfl) (by simp only [maxLen]; omega) (by omega) (by simp; omega)
    have e : flatN l ++ (ndC x).toList = flatN (l ++ [x]) := by rw [flatN_append]; simp [flatN]
    rw [e, ← hln] at hown
    have hB : Below base w w' := ((Below.refl base w).alloc hbase _).grown hg (by simp; omega) fun k hk => (World.ownsRow.lt ho k hk).1
    rcases hown.2 with ⟨_, h0⟩ | ⟨g, cap, cur, rfl, rest⟩
    · rw [hln] at h0; omega
    · exact ⟨some ⟨g, 0, none⟩, cap, w', hr, hown, hB, fun j hj hne => (hg.block j (by simp; omega) (fun e => hne e.symm)).trans (heap_alloc_old w _ hj)⟩

theorem OwnN.off {w : World} {base : Nat} {A : Option Addr} {c : Nat} {l : List Nd} (h : OwnN w base A c l) {g : Nat} (hg : w.heap.size ≤ g) : (Value.slice A l.length c).ownBlock ≠ some g := fun e => by
  have := (World.ownsRow.lt h g e).2
  omega
end Go.Proofs.YtipcgmaobiobbaaGreatDoor
/- The code's reader of tokens in memory: its block, what a call at it leaves as it was. No walk here. -/
namespace Go.Proofs.YtipcgmaobiobbaaGreatDoor
open Go.RowKit
open Go.Lib (byteCells)

/-- where the reader stands: behind a fault at the end -/
def cx (n : Nat) (p : PS) : Nat := if p.flt = 0 then p.i else n - 1
theorem cx_ok {n : Nat} {p : PS} (h : p.flt = 0) : cx n p = p.i := if_pos h
theorem cx_bad {n : Nat} {p : PS} (h : p.flt ≠ 0) : cx n p = n - 1 := if_neg h
/-- the token that the reader shows -/
def PS.ct (T : List Tk) (p : PS) : Tk := (T[cx T.length p]?).getD (endTk 0)
theorem ct_ok {T : List Tk} {p : PS} (h : p.flt = 0) : p.ct T = p.tok T := by unfold PS.ct PS.tok; rw [cx_ok h]
section
variable {T : List Tk} {p : PS} (hE : TkEnds T) (hi : In_ T p)
include hi
theorem cx_lt : cx T.length p < T.length := by
  have : p.i < T.length := hi
  unfold cx
  split
  · exact this
  · omega
theorem ct_at : T[cx T.length p]? = some (p.ct T) := by
  unfold PS.ct
  rw [List.getElem?_eq_getElem (cx_lt hi)]
  rfl
include hE
theorem ct_bad (h : p.flt ≠ 0) : (p.ct T).k = 0 := by
  have := (hE _ _ (ct_at hi)).2
  refine this ?_
  rw [cx_bad h]
  have : p.i < T.length := hi
  omega
/-- a test of a kind and a text -/
theorem ct_is (k : Nat) (hk : k ≠ 0) (s : List UInt8) : p.is T k s = ((p.ct T).k == k && (p.ct T).t == s) := by
  by_cases h : p.flt = 0
  · unfold PS.is
    rw [ct_ok h, h]
    rfl
  · rw [is_stuck h, ct_bad hE hi h, beq_eq_false_iff_ne.2 (fun e => hk e.symm)]
    rfl
end

/-- the reader's block as the machine holds it -/
def rdC (A : Option Addr) (n c : Nat) (p : PS) : Array Value := #[.slice A n c, .int .i64 (cx n p : Nat), .int .i64 (p.plc : Nat), .int .i64 (p.flt : Nat)]
def RB (w : World) (g : Nat) (A : Option Addr) (n c : Nat) (p : PS) : Prop := w.heap[g]? = some (.cells (rdC A n c p) 58 (0, 0))
section
variable {w w' : World} {g : Nat} {A : Option Addr} {n c : Nat} {p : PS}
theorem RB.len (h : RB w g A n c p) : g < w.heap.size := (Array.getElem?_eq_some_iff.1 h).1
theorem RB.cells (h : RB w g A n c p) : w.cell? ⟨g, 0, none⟩ = some (.slice A n c) ∧ w.cell? ⟨g, 1, none⟩ = some (.int .i64 (cx n p : Nat)) ∧ w.cell? ⟨g, 2, none⟩ = some (.int .i64 (p.plc : Nat)) ∧ w.cell? ⟨g, 3, none⟩ = some (.int .i64 (p.flt : Nat)) := by
  have q := fun j => cell_of_row w g j _ 58 (0, 0) h
  exact ⟨q 0, q 1, q 2, q 3⟩
theorem RB.frozen (h : RB w g A n c p) (i : Nat) : w.frozen? ⟨g, i, none⟩ = false := by
  unfold RB at h
  simp [World.frozen?, h]
theorem RB.keep (h : RB w g A n c p) (hb : w'.heap[g]? = w.heap[g]?) : RB w' g A n c p := hb.trans h
theorem RB.below (h : RB w g A n c p) (hb : Below w.heap.size w w') : RB w' g A n c p := h.keep (hb.block g h.len)
theorem RB.next (h : RB w g A n c p) (h0 : p.flt = 0) : RB (w.setCell ⟨g, 1, none⟩ (.int .i64 ((p.i : Int) + 1))) g A n c p.next := by
  have := heap_setCell_same w g 1 _ _ (.int .i64 ((p.i : Int) + 1)) h
  have e : rdC A n c p.next = #[.slice A n c, .int .i64 ((p.i : Int) + 1), .int .i64 (p.plc : Nat), .int .i64 (p.flt : Nat)] := by
    unfold rdC
    rw [cx_ok (show p.next.flt = 0 from h0)]
    rfl
  unfold RB
  rw [e]
  exact this
end
/-- a reader at a text's tokens: none is passed -/
structure RS (w : World) (g : Nat) (A : Option Addr) (c : Nat) (T : List Tk) (p : PS) : Prop where
  blk : RB w g A T.length c p
  row : TRow w g A T
  ends : TkEnds T
  inn : In_ T p
  few : T.length ≤ 2000000
section
variable {w w' : World} {g : Nat} {A : Option Addr} {c : Nat} {T : List Tk} {p q : PS}
theorem RS.len (h : RS w g A c T p) : g < w.heap.size := h.blk.len
theorem RS.below (h : RS w g A c T p) (hb : Below w.heap.size w w') : RS w' g A c T p := ⟨h.blk.below hb, h.row.below (hb.mono (Nat.le_of_lt h.len)), h.ends, h.inn, h.few⟩
/-- behind a call that wrote the reader's block, and no other -/
theorem RS.turn (h : RS w g A c T p) (hb : Gn g w w') (hr : RB w' g A T.length c q) (hi : In_ T q) : RS w' g A c T q := ⟨hr, h.row.below (hb.below (Nat.le_of_lt h.len) (Nat.le_refl _)), h.ends, hi, h.few⟩
/-- behind calls that left the reader's block and all below it -/
theorem RS.keep (h : RS w g A c T p) (hb : Below g w w') (hr : w'.heap[g]? = w.heap[g]?) : RS w' g A c T p := ⟨h.blk.keep hr, h.row.below hb, h.ends, h.inn, h.few⟩
theorem RS.i_lt (h : RS w g A c T p) : p.i < 2000000 := by
  have : p.i < T.length := h.inn
  have := h.few
  omega
end

/-- a token out of a block, answered by itself -/
theorem results_ctok {fn : Func} {s : Tmp} (h : fn.results = #[.cell s 84]) (tmps : Array Value) (w : World) (g : Nat) (x : Tk)
    (hp : tmps.getD s undef = .pointer (some ⟨g, 0, none⟩)) (hg : TBlk w g x) : (results fn tmps).run Tryz.prog w = .ok (.agg (tkC x)) w := by
  unfold results
  rw [h]
  have hp' : tmps[s]?.getD undef = .pointer (some ⟨g, 0, none⟩) := by simpa [Array.getD_eq_getD_getElem?] using hp
  simp [hp', asAddr, hg.load]
theorem TBlk.drawn {w : World} {g : Nat} {x : Tk} (h : TBlk w g x) : TBlk w.drew g x := h
/-- a token as the walk spells it -/
theorem tkC_eq (x : Tk) : tkC x = #[.int .i64 (x.k : Nat), .string (str x.t), .int .u64 (x.n : Nat), .int .i64 (x.a : Nat), .int .i64 (x.e : Nat)] := rfl
theorem cfld_k (x : Tk) (w : World) : (Instr.field 84 (.agg #[.int .i64 (x.k : Nat), .string (str x.t), .int .u64 (x.n : Nat), .int .i64 (x.a : Nat), .int .i64 (x.e : Nat)]) 0).run Tryz.prog w = .ok (.int .i64 (x.k : Nat)) w := by kernel_rfl
theorem cfld_t (x : Tk) (w : World) : (Instr.field 84 (.agg #[.int .i64 (x.k : Nat), .string (str x.t), .int .u64 (x.n : Nat), .int .i64 (x.a : Nat), .int .i64 (x.e : Nat)]) 1).run Tryz.prog w = .ok (.string (str x.t)) w := by kernel_rfl
theorem cfld_n (x : Tk) (w : World) : (Instr.field 84 (.agg #[.int .i64 (x.k : Nat), .string (str x.t), .int .u64 (x.n : Nat), .int .i64 (x.a : Nat), .int .i64 (x.e : Nat)]) 2).run Tryz.prog w = .ok (.int .u64 (x.n : Nat)) w := by kernel_rfl
theorem cfld_a (x : Tk) (w : World) : (Instr.field 84 (.agg #[.int .i64 (x.k : Nat), .string (str x.t), .int .u64 (x.n : Nat), .int .i64 (x.a : Nat), .int .i64 (x.e : Nat)]) 3).run Tryz.prog w = .ok (.int .i64 (x.a : Nat)) w := by kernel_rfl
end Go.Proofs.YtipcgmaobiobbaaGreatDoor
/- The walks of the code's reader: a token shown, a token taken, a fault. -/
namespace Go.Proofs.YtipcgmaobiobbaaGreatDoor
open Go.RowKit

set_option maxRecDepth 100000 in
set_option maxHeartbeats 1000000 in
theorem cpeek_any {w : World} {g : Nat} {A : Option Addr} {c : Nat} {T : List Tk} {p : PS} (h : RS w g A c T p) :
    Calls Tryz.prog 35 #[.pointer (some ⟨g, 0, none⟩)] w fun e w' => e = .returned (.agg (tkC (p.ct T))) ∧ Below w.heap.size w w' := by
  have hx := ct_at h.inn
  have hin : (cx T.length p : Int) < (T.length : Int) := by have := cx_lt h.inn; omega
  obtain ⟨x, hx2⟩ : ∃ x, p.ct T = x := ⟨_, rfl⟩
  obtain ⟨k, hk⟩ : ∃ k, cx T.length p = k := ⟨_, rfl⟩
  rw [hx2] at hx ⊢
  have hn := h.below (w' := w.alloc (.cells #[.int .i64 0, .string ⟨#[]⟩, .int .u64 0, .int .i64 0, .int .i64 0] 84)) ((Below.refl _ w).alloc (Nat.le_refl _) _)
  obtain ⟨ga, o, rfl, hga, a0, a1, a2, a3, a4⟩ := hn.row.at_ hx
  obtain ⟨b0, b1, _⟩ := hn.blk.cells
  rw [hk] at hx hin b1 a0 a1 a2 a3 a4
  have hz : TBlk (w.alloc (.cells #[.int .i64 0, .string ⟨#[]⟩, .int .u64 0, .int .i64 0, .int .i64 0] 84)) w.heap.size tk0 := TBlk.new w tk0
  have hb1 : Below w.heap.size w (w.alloc (.cells #[.int .i64 0, .string ⟨#[]⟩, .int .u64 0, .int .i64 0, .int .i64 0] 84)) := (Below.refl _ w).alloc (Nat.le_refl _) _
  have h0 : (0 : Int) ≤ (k : Int) := by omega
  clear h hn hx hx2 hk
  go_enter Tryz.func35, Tryz.ntmps35
  go_wp2
  generalize w.alloc (.cells #[.int .i64 0, .string ⟨#[]⟩, .int .u64 0, .int .i64 0, .int .i64 0] 84) = W1 at *
  go_still_tail 10, (by kernel_rfl)
  go_wp2_with (refine wpList_store_tok rfl (.tmp 2) (.tmp 12) rfl w.heap.size tk0 x rfl rfl (hz.drawn) ?_; intro w9 h9 t9)
  exact bodyPost_ret (v := .agg (tkC x)) (results_ctok rfl _ _ _ _ rfl h9) rfl ⟨rfl, hb1.trans ((Below.thenN (Below.refl _ _) 1).trans (t9.below (Nat.le_refl _)))⟩

set_option maxRecDepth 100000 in
set_option maxHeartbeats 1000000 in
theorem ctake_any {w : World} {g : Nat} {A : Option Addr} {c : Nat} {T : List Tk} {p : PS} (h : RS w g A c T p) (h0 : p.flt = 0) (hk : (p.tok T).k ≠ 0) :
    Calls Tryz.prog 72 #[.pointer (some ⟨g, 0, none⟩)] w fun e w' => e = .returned (.agg (tkC (p.tok T))) ∧ RS w' g A c T p.next ∧ Gn g w w' := by
  have hx := tok_at h.inn
  have hin : (p.i : Int) < (T.length : Int) := by have : p.i < T.length := h.inn; omega
  have hi2 := h.i_lt
  obtain ⟨x, hx2⟩ : ∃ x, p.tok T = x := ⟨_, rfl⟩
  have hgl := h.len
  have hinn := in_next h.ends h.inn hk
  obtain ⟨_, b1, _⟩ := (h.below (w' := w.alloc (.cells #[.int .i64 0, .string ⟨#[]⟩, .int .u64 0, .int .i64 0, .int .i64 0] 84)) ((Below.refl _ w).alloc (Nat.le_refl _) _)).blk.cells
  have f1 := (h.below (w' := w.alloc (.cells #[.int .i64 0, .string ⟨#[]⟩, .int .u64 0, .int .i64 0, .int .i64 0] 84)) ((Below.refl _ w).alloc (Nat.le_refl _) _)).blk.frozen 1
  rw [cx_ok h0] at b1
  obtain ⟨W0, hW0⟩ : ∃ W0, w.setCell ⟨g, 1, none⟩ (.int .i64 ((p.i : Int) + 1)) = W0 := ⟨_, rfl⟩
  have hG0 : Gn g w W0 := by rw [← hW0]; exact (Gn.refl g w).set 1 _
  have hn0 : RS W0 g A c T p.next := by rw [← hW0] at hG0 ⊢; exact h.turn hG0 (h.blk.next h0) hinn
  have hs0 : W0.heap.size = w.heap.size := by rw [← hW0]; simp
  have hb1 : Below W0.heap.size W0 (W0.alloc (.cells #[.int .i64 0, .string ⟨#[]⟩, .int .u64 0, .int .i64 0, .int .i64 0] 84)) := (Below.refl _ W0).alloc (Nat.le_refl _) _
  have hn2 := hn0.below hb1
  rw [hx2] at hx ⊢
  obtain ⟨ga, o, rfl, hga, a0, a1, a2, a3, a4⟩ := hn2.row.at_ hx
  obtain ⟨d0, d1, _⟩ := hn2.blk.cells
  rw [cx_ok (show p.next.flt = 0 from h0)] at d1
  change World.cell? _ _ = some (.int .i64 ((p.i : Int) + 1)) at d1
  have hz : TBlk (W0.alloc (.cells #[.int .i64 0, .string ⟨#[]⟩, .int .u64 0, .int .i64 0, .int .i64 0] 84)) w.heap.size tk0 := by rw [← hs0]; exact TBlk.new W0 tk0
  have hG1 : Gn g w (W0.alloc (.cells #[.int .i64 0, .string ⟨#[]⟩, .int .u64 0, .int .i64 0, .int .i64 0] 84)) := hG0.trans (Gn.of hb1)
  have hi0 : (0 : Int) ≤ (p.i : Int) := by omega
  have hw1 : IntKind.i64.wrap (p.i : Int) = (p.i : Int) := by rw [IntKind.wrap_i64]; omega
  have HN2 := Lib.hid hn2
  have hsz : (W0.alloc (.cells #[.int .i64 0, .string ⟨#[]⟩, .int .u64 0, .int .i64 0, .int .i64 0] 84)).heap.size = w.heap.size + 1 := by simp [hs0]
  clear h hn2 hn0 hx hx2 hk hinn hb1 hG0 hs0
  go_enter Tryz.func72, Tryz.ntmps72
  go_wp2
  generalize W0.alloc (.cells #[.int .i64 0, .string ⟨#[]⟩, .int .u64 0, .int .i64 0, .int .i64 0] 84) = W1 at *
  go_still_tail 11, (by kernel_rfl)
  go_wp2_with (refine wpList_store_tok rfl (.tmp 2) (.tmp 20) rfl w.heap.size tk0 x rfl rfl (hz.drawn) ?_; intro w9 h9 t9)
  have hb9 : Below w.heap.size W1 w9 := (Below.thenN (Below.refl _ W1) 1).trans (t9.below (Nat.le_refl _))
  refine bodyPost_ret (v := .agg (tkC x)) (results_ctok rfl _ _ _ _ rfl h9) rfl ⟨rfl, HN2.out.keep (hb9.mono (Nat.le_of_lt hgl)) (hb9.block g hgl), ⟨hb9.os.trans hG1.os, hb9.tape.trans hG1.tape, hb9.output.trans hG1.output, Nat.le_trans hG1.size hb9.size, fun k hk hne => (hb9.block k hk).trans (hG1.block k hk hne)⟩⟩
end Go.Proofs.YtipcgmaobiobbaaGreatDoor
/- The walks of the code's reader: a fault, what is wanted, words, marks, names, numbers, texts, the end. -/
namespace Go.Proofs.YtipcgmaobiobbaaGreatDoor
open Go.RowKit

theorem RB.fault {w : World} {g : Nat} {A : Option Addr} {n c : Nat} {p : PS} (h : RB w g A n c p) (h0 : p.flt = 0) (a e : Nat) (he : e ≠ 0) (hn : 1 ≤ n) :
    RB (((w.setCell ⟨g, 2, none⟩ (.int .i64 (a : Nat))).setCell ⟨g, 3, none⟩ (.int .i64 (e : Nat))).setCell ⟨g, 1, none⟩ (.int .i64 ((n : Int) - 1))) g A n c (p.fail a e) := by
  have h1 := heap_setCell_same w g 2 _ _ (.int .i64 (a : Nat)) h
  have h2 := heap_setCell_same _ g 3 _ _ (.int .i64 (e : Nat)) h1
  have h3 := heap_setCell_same _ g 1 _ _ (.int .i64 ((n : Int) - 1)) h2
  have e1 : p.fail a e = { p with flt := e, plc := a } := if_pos h0
  have e2 : rdC A n c (p.fail a e) = #[.slice A n c, .int .i64 ((n : Int) - 1), .int .i64 (a : Nat), .int .i64 (e : Nat)] := by
    rw [e1]
    unfold rdC
    rw [cx_bad (show ({ p with flt := e, plc := a } : PS).flt ≠ 0 from he), show ((n - 1 : Nat) : Int) = (n : Int) - 1 by omega]
  unfold RB
  rw [e2]
  exact h3
theorem RB.again {w : World} {g : Nat} {A : Option Addr} {n c : Nat} {p : PS} (h : RB w g A n c p) (h0 : p.flt ≠ 0) (hn : 1 ≤ n) : RB (w.setCell ⟨g, 1, none⟩ (.int .i64 ((n : Int) - 1))) g A n c p := by
  have h3 := heap_setCell_same w g 1 _ _ (.int .i64 ((n : Int) - 1)) h
  have e2 : rdC A n c p = #[.slice A n c, .int .i64 ((n : Int) - 1), .int .i64 (p.plc : Nat), .int .i64 (p.flt : Nat)] := by
    unfold rdC
    rw [cx_bad h0, show ((n - 1 : Nat) : Int) = (n : Int) - 1 by omega]
  unfold RB
  rw [e2]
  exact h3

set_option maxRecDepth 100000 in
set_option maxHeartbeats 1000000 in
theorem cfault_any {w : World} {g : Nat} {A : Option Addr} {c : Nat} {T : List Tk} {p : PS} (h : RS w g A c T p) (a e : Nat) (he : e ≠ 0) :
    Calls Tryz.prog 36 #[.pointer (some ⟨g, 0, none⟩), .int .i64 (a : Nat), .int .i64 (e : Nat)] w fun r w' => r = .returned (.tuple #[]) ∧ RS w' g A c T (p.fail a e) ∧ Gn g w w' := by
  have hT1 : 1 ≤ T.length := by have : p.i < T.length := h.inn; omega
  have hT2 := h.few
  have hlz : (1 : Int) ≤ (T.length : Int) := by omega
  have hl2 : (T.length : Int) ≤ 2000000 := by omega
  obtain ⟨b0, b1, b2, b3⟩ := h.blk.cells
  have f1 := h.blk.frozen 1
  have f2 := h.blk.frozen 2
  have f3 := h.blk.frozen 3
  by_cases h0 : p.flt = 0
  · have hz : ((p.flt : Int) == 0) = true := by rw [h0]; rfl
    have HR := Lib.hid (h.turn ((((Gn.refl g w).set 2 (.int .i64 (a : Nat))).set 3 (.int .i64 (e : Nat))).set 1 (.int .i64 ((T.length : Int) - 1))) (h.blk.fault h0 a e he hT1) (in_fail h.inn _ _))
    have HG := Lib.hid ((((Gn.refl g w).set 2 (.int .i64 (a : Nat))).set 3 (.int .i64 (e : Nat))).set 1 (.int .i64 ((T.length : Int) - 1)))
    clear h h0 he hT1 hT2
    go_enter Tryz.func36, Tryz.ntmps36
    go_wp2
    go_end0
    exact ⟨rfl, HR.out, HG.out⟩
  · have hz : ((p.flt : Int) == 0) = false := beq_eq_false_iff_ne.2 (by omega)
    rw [fail_stuck h0]
    have HR := Lib.hid (h.turn ((Gn.refl g w).set 1 (.int .i64 ((T.length : Int) - 1))) (h.blk.again h0 hT1) h.inn)
    have HG := Lib.hid ((Gn.refl g w).set 1 (.int .i64 ((T.length : Int) - 1)))
    clear h h0 he hT1 hT2
    go_enter Tryz.func36, Tryz.ntmps36
    go_wp2
    go_end0
    exact ⟨rfl, HR.out, HG.out⟩

/-- a contract at a later world -/
theorem peek_then {w : World} {g : Nat} {A : Option Addr} {c : Nat} {T : List Tk} {p : PS} (h : RS w g A c T p) {x : Tk} (hx : p.ct T = x) {W : World} (hb : Below w.heap.size w W) :
    Calls Tryz.prog 35 #[.pointer (some ⟨g, 0, none⟩)] W fun e w' => e = .returned (.agg #[.int .i64 (x.k : Nat), .string (str x.t), .int .u64 (x.n : Nat), .int .i64 (x.a : Nat), .int .i64 (x.e : Nat)]) ∧ Below W.heap.size W w' := by
  subst hx
  exact cpeek_any (h.below hb)

/-- what is there if a token may stand there, else a fault -/
theorem cwant_yes {w : World} {g : Nat} {A : Option Addr} {c : Nat} {T : List Tk} {p : PS} (h : RS w g A c T p) (h0 : p.flt = 0) (hk : (p.tok T).k ≠ 0) :
    Calls Tryz.prog 88 #[.pointer (some ⟨g, 0, none⟩), .bool true] w fun e w' => e = .returned (.agg (tkC (p.tok T))) ∧ RS w' g A c T p.next ∧ Gn g w w' := by
  have hz : TBlk (w.alloc (.cells #[.int .i64 0, .string ⟨#[]⟩, .int .u64 0, .int .i64 0, .int .i64 0] 84)) w.heap.size tk0 := TBlk.new w tk0
  have hb1 : Below w.heap.size w (w.alloc (.cells #[.int .i64 0, .string ⟨#[]⟩, .int .u64 0, .int .i64 0, .int .i64 0] 84)) := (Below.refl _ w).alloc (Nat.le_refl _) _
  have ct := ctake_any (h.below hb1) h0 hk
  have hgl := h.len
  obtain ⟨x, hx⟩ : ∃ x, p.tok T = x := ⟨_, rfl⟩
  rw [hx] at ct ⊢
  have hs : (w.alloc (.cells #[.int .i64 0, .string ⟨#[]⟩, .int .u64 0, .int .i64 0, .int .i64 0] 84)).heap.size = w.heap.size + 1 := by simp
  clear h h0 hk hx
  go_enter Tryz.func88, Tryz.ntmps88
  go_wp2_with (first
    | (go_at_call 72; refine ct.mono ?_; rintro e w2 ⟨rfl, hr2, hg2⟩; have HR2 := Lib.hid hr2; have hz2 := hz.keep (hg2.other (by omega) (by omega)); clear hr2)
    | (refine wpList_store_tok rfl (.tmp 4) (.tmp 14) rfl w.heap.size tk0 x rfl rfl hz2 ?_; intro w9 h9 t9))
  have hb9 : Below w.heap.size w2 w9 := t9.below (Nat.le_refl _)
  have hg1 : Gn g w w2 := (Gn.of hb1).trans hg2
  exact bodyPost_ret (v := .agg (tkC x)) (results_ctok rfl _ _ _ _ rfl h9) rfl ⟨rfl, HR2.out.keep (hb9.mono (Nat.le_of_lt hgl)) (hb9.block g hgl), ⟨hb9.os.trans hg1.os, hb9.tape.trans hg1.tape, hb9.output.trans hg1.output, Nat.le_trans hg1.size hb9.size, fun k hk hne => (hb9.block k hk).trans (hg1.block k hk hne)⟩⟩
theorem cwant_no {w : World} {g : Nat} {A : Option Addr} {c : Nat} {T : List Tk} {p : PS} (h : RS w g A c T p) :
    Calls Tryz.prog 88 #[.pointer (some ⟨g, 0, none⟩), .bool false] w fun e w' => e = .returned (.agg (tkC tk0)) ∧ RS w' g A c T (p.fail (p.tok T).a 90) ∧ Gn g w w' := by
  have hz : TBlk (w.alloc (.cells #[.int .i64 0, .string ⟨#[]⟩, .int .u64 0, .int .i64 0, .int .i64 0] 84)) w.heap.size tk0 := TBlk.new w tk0
  have hb1 : Below w.heap.size w (w.alloc (.cells #[.int .i64 0, .string ⟨#[]⟩, .int .u64 0, .int .i64 0, .int .i64 0] 84)) := (Below.refl _ w).alloc (Nat.le_refl _) _
  obtain ⟨x, hx⟩ : ∃ x, p.ct T = x := ⟨_, rfl⟩
  have cp := peek_then (h.below hb1) hx (Below.refl _ _)
  have CF := Lib.hid (fun (W : World) (hb : Below w.heap.size w W) => cfault_any (h.below hb) x.a 90 (by decide))
  have he : p.fail (p.tok T).a 90 = p.fail x.a 90 := by
    by_cases h0 : p.flt = 0
    · rw [← hx, ct_ok h0]
    · rw [fail_stuck h0, fail_stuck h0]
  rw [he]
  have g3 := cfld_a x
  have hgl := h.len
  have hs : (w.alloc (.cells #[.int .i64 0, .string ⟨#[]⟩, .int .u64 0, .int .i64 0, .int .i64 0] 84)).heap.size = w.heap.size + 1 := by simp
  clear h hx he
  go_enter Tryz.func88, Tryz.ntmps88
  go_wp2_with (first
    | (go_at_call 35; refine cp.mono ?_; rintro e w2 ⟨rfl, hb2⟩; have hb12 : Below w.heap.size w w2 := hb1.trans (hb2.mono (by omega)); have hz2 := hz.below hb2)
    | (go_at_call 36; refine (CF.out _ hb12).mono ?_; rintro e w3 ⟨rfl, hr3, hg3⟩; have HR3 := Lib.hid hr3; have hz3 := hz2.keep (hg3.other hz2.len (by omega)); clear hr3)
    | (refine wpList_store_tok rfl (.tmp 4) (.tmp 12) rfl w.heap.size tk0 tk0 rfl rfl hz3 ?_; intro w9 h9 t9))
  have hb9 : Below w.heap.size w3 w9 := t9.below (Nat.le_refl _)
  have hg1 : Gn g w w3 := (Gn.of hb12).trans hg3
  exact bodyPost_ret (v := .agg (tkC tk0)) (results_ctok rfl _ _ _ _ rfl h9) rfl ⟨rfl, HR3.out.keep (hb9.mono (Nat.le_of_lt hgl)) (hb9.block g hgl), ⟨hb9.os.trans hg1.os, hb9.tape.trans hg1.tape, hb9.output.trans hg1.output, Nat.le_trans hg1.size hb9.size, fun k hk hne => (hb9.block k hk).trans (hg1.block k hk hne)⟩⟩
end Go.Proofs.YtipcgmaobiobbaaGreatDoor
/- The walks of the code: is a text one of the words, which step a token begins. -/
namespace Go.Proofs.YtipcgmaobiobbaaGreatDoor
open Go.RowKit

/-- which step begins with a token; 0: none -/
def kindOf (x : Tk) : Nat := if x.k ≠ 1 then 0 else if x.t = [97, 100, 100] then 1 else if x.t = [114, 101, 110, 97, 109, 101] then 2 else if x.t = [115, 112, 108, 105, 116] then 3 else if x.t = [106, 111, 105, 110] then 4 else if x.t = [114, 101, 116, 121, 112, 101] then 5 else if x.t = [100, 114, 111, 112] then 6 else 0
theorem ls_add : ls "add".toUTF8 = [97, 100, 100] := by decide +kernel
theorem ls_rename : ls "rename".toUTF8 = [114, 101, 110, 97, 109, 101] := by decide +kernel
theorem ls_split : ls "split".toUTF8 = [115, 112, 108, 105, 116] := by decide +kernel
theorem ls_join : ls "join".toUTF8 = [106, 111, 105, 110] := by decide +kernel
theorem ls_retype : ls "retype".toUTF8 = [114, 101, 116, 121, 112, 101] := by decide +kernel
theorem ls_drop : ls "drop".toUTF8 = [100, 114, 111, 112] := by decide +kernel
theorem kindOf_step {T : List Tk} {p : PS} (hE : TkEnds T) (hi : In_ T p) : stepK T p = kindOf (p.ct T) := by
  unfold stepK kindOf
  rw [ct_is hE hi 1 (by decide), ct_is hE hi 1 (by decide), ct_is hE hi 1 (by decide), ct_is hE hi 1 (by decide), ct_is hE hi 1 (by decide), ct_is hE hi 1 (by decide), ls_add, ls_rename, ls_split, ls_join, ls_retype, ls_drop]
  generalize p.ct T = x
  by_cases hk : x.k = 1
  · rw [hk, if_neg (show ¬ (1 : Nat) ≠ 1 from fun q => q rfl)]
    simp only [beq_self_eq_true, Bool.true_and, beq_iff_eq]
  · rw [if_pos hk, beq_eq_false_iff_ne.2 hk]
    simp
theorem kind_is0 {x : Tk} (hk : x.k = 1) (h0 : ((str x.t).toList == [97, 100, 100]) = true) : kindOf x = 1 := by
  unfold kindOf
  rw [if_neg (fun q => q hk), if_pos (lit_yes h0)]
theorem kind_is1 {x : Tk} (hk : x.k = 1) (h0 : ((str x.t).toList == [97, 100, 100]) = false) (h1 : ((str x.t).toList == [114, 101, 110, 97, 109, 101]) = true) : kindOf x = 2 := by
  unfold kindOf
  rw [if_neg (fun q => q hk), if_neg (lit_no h0), if_pos (lit_yes h1)]
theorem kind_is2 {x : Tk} (hk : x.k = 1) (h0 : ((str x.t).toList == [97, 100, 100]) = false) (h1 : ((str x.t).toList == [114, 101, 110, 97, 109, 101]) = false) (h2 : ((str x.t).toList == [115, 112, 108, 105, 116]) = true) : kindOf x = 3 := by
  unfold kindOf
  rw [if_neg (fun q => q hk), if_neg (lit_no h0), if_neg (lit_no h1), if_pos (lit_yes h2)]
theorem kind_is3 {x : Tk} (hk : x.k = 1) (h0 : ((str x.t).toList == [97, 100, 100]) = false) (h1 : ((str x.t).toList == [114, 101, 110, 97, 109, 101]) = false) (h2 : ((str x.t).toList == [115, 112, 108, 105, 116]) = false) (h3 : ((str x.t).toList == [106, 111, 105, 110]) = true) : kindOf x = 4 := by
  unfold kindOf
  rw [if_neg (fun q => q hk), if_neg (lit_no h0), if_neg (lit_no h1), if_neg (lit_no h2), if_pos (lit_yes h3)]
theorem kind_is4 {x : Tk} (hk : x.k = 1) (h0 : ((str x.t).toList == [97, 100, 100]) = false) (h1 : ((str x.t).toList == [114, 101, 110, 97, 109, 101]) = false) (h2 : ((str x.t).toList == [115, 112, 108, 105, 116]) = false) (h3 : ((str x.t).toList == [106, 111, 105, 110]) = false) (h4 : ((str x.t).toList == [114, 101, 116, 121, 112, 101]) = true) : kindOf x = 5 := by
  unfold kindOf
  rw [if_neg (fun q => q hk), if_neg (lit_no h0), if_neg (lit_no h1), if_neg (lit_no h2), if_neg (lit_no h3), if_pos (lit_yes h4)]
theorem kind_is5 {x : Tk} (hk : x.k = 1) (h0 : ((str x.t).toList == [97, 100, 100]) = false) (h1 : ((str x.t).toList == [114, 101, 110, 97, 109, 101]) = false) (h2 : ((str x.t).toList == [115, 112, 108, 105, 116]) = false) (h3 : ((str x.t).toList == [106, 111, 105, 110]) = false) (h4 : ((str x.t).toList == [114, 101, 116, 121, 112, 101]) = false) (h5 : ((str x.t).toList == [100, 114, 111, 112]) = true) : kindOf x = 6 := by
  unfold kindOf
  rw [if_neg (fun q => q hk), if_neg (lit_no h0), if_neg (lit_no h1), if_neg (lit_no h2), if_neg (lit_no h3), if_neg (lit_no h4), if_pos (lit_yes h5)]
theorem kind_is6 {x : Tk} (hk : x.k = 1) (h0 : ((str x.t).toList == [97, 100, 100]) = false) (h1 : ((str x.t).toList == [114, 101, 110, 97, 109, 101]) = false) (h2 : ((str x.t).toList == [115, 112, 108, 105, 116]) = false) (h3 : ((str x.t).toList == [106, 111, 105, 110]) = false) (h4 : ((str x.t).toList == [114, 101, 116, 121, 112, 101]) = false) (h5 : ((str x.t).toList == [100, 114, 111, 112]) = false) : kindOf x = 0 := by
  unfold kindOf
  rw [if_neg (fun q => q hk), if_neg (lit_no h0), if_neg (lit_no h1), if_neg (lit_no h2), if_neg (lit_no h3), if_neg (lit_no h4), if_neg (lit_no h5)]

set_option maxRecDepth 100000 in
set_option maxHeartbeats 1000000 in
theorem stepKind_any (w : World) (x : Tk) :
    Calls Tryz.prog 90 #[.agg #[.int .i64 (x.k : Nat), .string (str x.t), .int .u64 (x.n : Nat), .int .i64 (x.a : Nat), .int .i64 (x.e : Nat)]] w fun e w' => e = .returned (.int .i64 (kindOf x : Nat)) ∧ Below w.heap.size w w' := by
  obtain ⟨r, hr⟩ : ∃ r, kindOf x = r := ⟨_, rfl⟩
  rw [hr]
  have hb : ∀ o, Below w.heap.size w (w.alloc o) := fun o => (Below.refl _ w).alloc (Nat.le_refl _) o
  have HR := Lib.hid hr
  clear hr
  by_cases h1 : x.k = 1
  · have hk : ((x.k : Int) != 1) = false := by rw [h1]; rfl
    have H1 := Lib.hid h1
    clear h1
    go_enter Tryz.func90, Tryz.ntmps90
    go_wp2
    all_goals go_ret
    all_goals first
      | exact (clash (by assumption) (by assumption)).elim
      | exact ⟨ret_int (congrArg Int.ofNat ((kind_is0 H1.out (by assumption)).symm.trans HR.out)), hb _⟩
      | exact ⟨ret_int (congrArg Int.ofNat ((kind_is1 H1.out (by assumption) (by assumption)).symm.trans HR.out)), hb _⟩
      | exact ⟨ret_int (congrArg Int.ofNat ((kind_is2 H1.out (by assumption) (by assumption) (by assumption)).symm.trans HR.out)), hb _⟩
      | exact ⟨ret_int (congrArg Int.ofNat ((kind_is3 H1.out (by assumption) (by assumption) (by assumption) (by assumption)).symm.trans HR.out)), hb _⟩
      | exact ⟨ret_int (congrArg Int.ofNat ((kind_is4 H1.out (by assumption) (by assumption) (by assumption) (by assumption) (by assumption)).symm.trans HR.out)), hb _⟩
      | exact ⟨ret_int (congrArg Int.ofNat ((kind_is5 H1.out (by assumption) (by assumption) (by assumption) (by assumption) (by assumption) (by assumption)).symm.trans HR.out)), hb _⟩
      | exact ⟨ret_int (congrArg Int.ofNat ((kind_is6 H1.out (by assumption) (by assumption) (by assumption) (by assumption) (by assumption) (by assumption)).symm.trans HR.out)), hb _⟩
      | fail
  · have hk : ((x.k : Int) != 1) = true := by simp; omega
    have HZ : Hid (0 = r) := by unfold Hid; rw [← HR.out]; unfold kindOf; rw [if_pos h1]
    clear h1
    go_enter Tryz.func90, Tryz.ntmps90
    go_wp2
    go_ret
    exact ⟨ret_int (congrArg Int.ofNat HZ.out), hb _⟩
end Go.Proofs.YtipcgmaobiobbaaGreatDoor
/- The walks of the code's reader: words, marks, names, numbers, texts, the end. -/
namespace Go.Proofs.YtipcgmaobiobbaaGreatDoor
open Go.RowKit

/-- a number, if one stands there -/
def PS.number (T : List Tk) (p : PS) : PS × Nat := if p.flt = 0 ∧ (p.tok T).k = 2 then (p.next, (p.tok T).n) else (p.fail (p.tok T).a 90, 0)

section
variable {w : World} {g : Nat} {A : Option Addr} {c : Nat} {T : List Tk} {p : PS} (h : RS w g A c T p)
include h

set_option maxRecDepth 100000 in
set_option maxHeartbeats 1000000 in
theorem catWord_any (s : List UInt8) : Calls Tryz.prog 33 #[.pointer (some ⟨g, 0, none⟩), .string (str s)] w fun e w' => e = .returned (.bool (p.is T 1 s)) ∧ Below w.heap.size w w' := by
  obtain ⟨x, hx⟩ : ∃ x, p.ct T = x := ⟨_, rfl⟩
  have cp := peek_then h hx (Below.refl _ _)
  obtain ⟨b, hb⟩ : ∃ b, p.is T 1 s = b := ⟨_, rfl⟩
  have hb2 := hb
  rw [ct_is h.ends h.inn 1 (by decide), hx] at hb2
  rw [hb]
  have HB := Lib.hid hb2
  have hlx : (tkC x).size = 5 := rfl
  clear h hx hb hb2
  by_cases h1 : x.k = 1
  · have hk : ((x.k : Int) == 1) = true := by rw [h1]; rfl
    have HE : Hid ((x.t == s) = b) := by unfold Hid; rw [← HB.out, h1]; rfl
    clear h1
    go_enter Tryz.func33, Tryz.ntmps33
    go_wp2_with (go_at_call 35; refine cp.mono ?_; rintro e w2 ⟨rfl, hb2⟩)
    go_ret
    exact ⟨ret_bool (by rw [← HE.out, str_eq]; by_cases h : x.t = s <;> simp [h]), hb2.alloc hb2.size _⟩
  · have hk : ((x.k : Int) == 1) = false := beq_eq_false_iff_ne.2 (by omega)
    have HE : Hid (false = b) := by unfold Hid; rw [← HB.out, beq_eq_false_iff_ne.2 h1]; rfl
    clear h1
    go_enter Tryz.func33, Tryz.ntmps33
    go_wp2_with (go_at_call 35; refine cp.mono ?_; rintro e w2 ⟨rfl, hb2⟩)
    go_ret
    exact ⟨ret_bool HE.out, hb2.alloc hb2.size _⟩

set_option maxRecDepth 100000 in
set_option maxHeartbeats 1000000 in
theorem catMark_any (s : List UInt8) : Calls Tryz.prog 71 #[.pointer (some ⟨g, 0, none⟩), .string (str s)] w fun e w' => e = .returned (.bool (p.is T 4 s)) ∧ Below w.heap.size w w' := by
  obtain ⟨x, hx⟩ : ∃ x, p.ct T = x := ⟨_, rfl⟩
  have cp := peek_then h hx (Below.refl _ _)
  obtain ⟨b, hb⟩ : ∃ b, p.is T 4 s = b := ⟨_, rfl⟩
  have hb2 := hb
  rw [ct_is h.ends h.inn 4 (by decide), hx] at hb2
  rw [hb]
  have HB := Lib.hid hb2
  clear h hx hb hb2
  by_cases h1 : x.k = 4
  · have hk : ((x.k : Int) == 4) = true := by rw [h1]; rfl
    have HE : Hid ((x.t == s) = b) := by unfold Hid; rw [← HB.out, h1]; rfl
    clear h1
    go_enter Tryz.func71, Tryz.ntmps71
    go_wp2_with (go_at_call 35; refine cp.mono ?_; rintro e w2 ⟨rfl, hb2⟩)
    go_ret
    exact ⟨ret_bool (by rw [← HE.out, str_eq]; by_cases h : x.t = s <;> simp [h]), hb2.alloc hb2.size _⟩
  · have hk : ((x.k : Int) == 4) = false := beq_eq_false_iff_ne.2 (by omega)
    have HE : Hid (false = b) := by unfold Hid; rw [← HB.out, beq_eq_false_iff_ne.2 h1]; rfl
    clear h1
    go_enter Tryz.func71, Tryz.ntmps71
    go_wp2_with (go_at_call 35; refine cp.mono ?_; rintro e w2 ⟨rfl, hb2⟩)
    go_ret
    exact ⟨ret_bool HE.out, hb2.alloc hb2.size _⟩

/-- a token that is wanted, whichever -/
theorem cwant_any (b : Bool) (hb : b = true → p.flt = 0 ∧ (p.tok T).k ≠ 0) {q : PS} (hq : q = if b then p.next else p.fail (p.tok T).a 90) {x : Tk} (hx : x = if b then p.tok T else tk0) :
    Calls Tryz.prog 88 #[.pointer (some ⟨g, 0, none⟩), .bool b] w fun e w' => e = .returned (.agg #[.int .i64 (x.k : Nat), .string (str x.t), .int .u64 (x.n : Nat), .int .i64 (x.a : Nat), .int .i64 (x.e : Nat)]) ∧ RS w' g A c T q ∧ Gn g w w' := by
  subst hq; subst hx
  cases b with
  | true => exact cwant_yes h (hb rfl).1 (hb rfl).2
  | false => exact cwant_no h

set_option maxRecDepth 100000 in
set_option maxHeartbeats 1000000 in
theorem cword_any (s : List UInt8) : Calls Tryz.prog 63 #[.pointer (some ⟨g, 0, none⟩), .string (str s)] w fun e w' => e = .returned (.int .i64 ((if p.is T 1 s then (p.tok T).a else 0 : Nat) : Int)) ∧ RS w' g A c T (p.word T s) ∧ Gn g w w' := by
  have ca := catWord_any h s
  obtain ⟨b, hb⟩ : ∃ b, p.is T 1 s = b := ⟨_, rfl⟩
  have hy : b = true → p.flt = 0 ∧ (p.tok T).k ≠ 0 := fun q => by have := is_ok p (hb.trans q); exact ⟨this.1, by rw [this.2.1]; decide⟩
  obtain ⟨q, hq⟩ : ∃ q, p.word T s = q := ⟨_, rfl⟩
  have hq2 : q = if b then p.next else p.fail (p.tok T).a 90 := by rw [← hq, ← hb]; rfl
  obtain ⟨x, hx⟩ : ∃ x, x = if b then p.tok T else tk0 := ⟨_, rfl⟩
  have ha : (if b then (p.tok T).a else 0) = x.a := by rw [hx]; cases b <;> rfl
  rw [hb] at ca ⊢
  rw [ha, hq]
  have CW := Lib.hid (fun (W : World) (hb2 : Below w.heap.size w W) => cwant_any (h.below hb2) b hy hq2 hx)
  have g3 := cfld_a x
  clear h hb hy hq hq2 hx ha
  go_enter Tryz.func63, Tryz.ntmps63
  go_wp2_with (first
    | (go_at_call 33; refine ca.mono ?_; rintro e w2 ⟨rfl, hb2⟩)
    | (go_at_call 88; refine (CW.out _ hb2).mono ?_; rintro e w3 ⟨rfl, hr3, hg3⟩; have HR3 := Lib.hid hr3; have HG3 := Lib.hid hg3; clear hr3 hg3))
  go_ret
  exact ⟨rfl, HR3.out, (Gn.of hb2).trans HG3.out⟩

set_option maxRecDepth 100000 in
set_option maxHeartbeats 1000000 in
theorem cmark_any (m : UInt8) : Calls Tryz.prog 65 #[.pointer (some ⟨g, 0, none⟩), .string (str [m])] w fun e w' => e = .returned (.tuple #[]) ∧ RS w' g A c T (p.mark T m) ∧ Gn g w w' := by
  have ca := catMark_any h [m]
  obtain ⟨b, hb⟩ : ∃ b, p.is T 4 [m] = b := ⟨_, rfl⟩
  have hy : b = true → p.flt = 0 ∧ (p.tok T).k ≠ 0 := fun q => by have := is_ok p (hb.trans q); exact ⟨this.1, by rw [this.2.1]; decide⟩
  obtain ⟨q, hq⟩ : ∃ q, p.mark T m = q := ⟨_, rfl⟩
  have hq2 : q = if b then p.next else p.fail (p.tok T).a 90 := by rw [← hq, ← hb]; rfl
  obtain ⟨x, hx⟩ : ∃ x, x = if b then p.tok T else tk0 := ⟨_, rfl⟩
  rw [hb] at ca
  rw [hq]
  have CW := Lib.hid (fun (W : World) (hb2 : Below w.heap.size w W) => cwant_any (h.below hb2) b hy hq2 hx)
  clear h hb hy hq hq2 hx
  go_enter Tryz.func65, Tryz.ntmps65
  go_wp2_with (first
    | (go_at_call 71; refine ca.mono ?_; rintro e w2 ⟨rfl, hb2⟩)
    | (go_at_call 88; refine (CW.out _ hb2).mono ?_; rintro e w3 ⟨rfl, hr3, hg3⟩; have HR3 := Lib.hid hr3; have HG3 := Lib.hid hg3; clear hr3 hg3))
  go_end0
  exact ⟨rfl, HR3.out, (Gn.of hb2).trans HG3.out⟩

set_option maxRecDepth 100000 in
set_option maxHeartbeats 1000000 in
theorem cnumber_any : Calls Tryz.prog 89 #[.pointer (some ⟨g, 0, none⟩)] w fun e w' => e = .returned (.int .u64 ((p.number T).2 : Nat)) ∧ RS w' g A c T (p.number T).1 ∧ Gn g w w' := by
  obtain ⟨x, hx⟩ : ∃ x, p.ct T = x := ⟨_, rfl⟩
  have cp := peek_then h hx (Below.refl _ _)
  obtain ⟨b, hb⟩ : ∃ b, ((x.k : Int) == 2) = b := ⟨_, rfl⟩
  have hbk : b = true ↔ x.k = 2 := by rw [← hb, beq_iff_eq]; omega
  have hy : b = true → p.flt = 0 ∧ (p.tok T).k = 2 := fun q => by
    have hk := hbk.1 q
    have h0 : p.flt = 0 := Decidable.byContradiction fun z => by have := ct_bad h.ends h.inn z; rw [hx] at this; omega
    exact ⟨h0, by rw [← ct_ok h0, hx]; exact hk⟩
  have hn : b = false → ¬ (p.flt = 0 ∧ (p.tok T).k = 2) := fun q z => by
    have : b = true := hbk.2 (by rw [← hx, ct_ok z.1]; exact z.2)
    rw [q] at this; cases this
  obtain ⟨q, hq⟩ : ∃ q, (p.number T).1 = q := ⟨_, rfl⟩
  have hq2 : q = if b then p.next else p.fail (p.tok T).a 90 := by
    rw [← hq]; unfold PS.number
    cases b with
    | true => rw [if_pos (hy rfl)]; rfl
    | false => rw [if_neg (hn rfl)]; rfl
  obtain ⟨y, hy2⟩ : ∃ x, x = if b then p.tok T else tk0 := ⟨_, rfl⟩
  have ha : (p.number T).2 = y.n := by
    rw [hy2]; unfold PS.number
    cases b with
    | true => rw [if_pos (hy rfl)]; rfl
    | false => rw [if_neg (hn rfl)]; rfl
  rw [ha, hq]
  have CW := Lib.hid (fun (W : World) (hb2 : Below w.heap.size w W) => cwant_any (h.below hb2) b (fun z => ⟨(hy z).1, by rw [(hy z).2]; decide⟩) hq2 hy2)
  have g0 := cfld_k x
  have g2 := cfld_n y
  clear h hbk hy hn hq hq2 hx hy2 ha
  go_enter Tryz.func89, Tryz.ntmps89
  go_wp2_with (first
    | (go_at_call 35; refine cp.mono ?_; rintro e w2 ⟨rfl, hb2⟩)
    | (go_at_call 88; refine (CW.out _ hb2).mono ?_; rintro e w3 ⟨rfl, hr3, hg3⟩; have HR3 := Lib.hid hr3; have HG3 := Lib.hid hg3; clear hr3 hg3))
  go_ret
  exact ⟨rfl, HR3.out, (Gn.of hb2).trans HG3.out⟩

set_option maxRecDepth 100000 in
set_option maxHeartbeats 1000000 in
theorem ctext_any : Calls Tryz.prog 104 #[.pointer (some ⟨g, 0, none⟩)] w fun e w' => e = .returned (.string (str (p.text T).2)) ∧ RS w' g A c T (p.text T).1 ∧ Gn g w w' := by
  obtain ⟨x, hx⟩ : ∃ x, p.ct T = x := ⟨_, rfl⟩
  have cp := peek_then h hx (Below.refl _ _)
  obtain ⟨b, hb⟩ : ∃ b, ((x.k : Int) == 3) = b := ⟨_, rfl⟩
  have hbk : b = true ↔ x.k = 3 := by rw [← hb, beq_iff_eq]; omega
  have hy : b = true → p.flt = 0 ∧ (p.tok T).k = 3 := fun q => by
    have hk := hbk.1 q
    have h0 : p.flt = 0 := Decidable.byContradiction fun z => by have := ct_bad h.ends h.inn z; rw [hx] at this; omega
    exact ⟨h0, by rw [← ct_ok h0, hx]; exact hk⟩
  have hyn : b = true → ¬ (p.flt ≠ 0 ∨ (p.tok T).k ≠ 3) := fun q z => z.elim (fun z => z (hy q).1) (fun z => z (hy q).2)
  have hn : b = false → (p.flt ≠ 0 ∨ (p.tok T).k ≠ 3) := fun q => by
    by_cases z : p.flt = 0
    · refine .inr fun z2 => ?_
      have : b = true := hbk.2 (by rw [← hx, ct_ok z]; exact z2)
      rw [q] at this; cases this
    · exact .inl z
  obtain ⟨q, hq⟩ : ∃ q, (p.text T).1 = q := ⟨_, rfl⟩
  have hq2 : q = if b then p.next else p.fail (p.tok T).a 90 := by
    rw [← hq]; unfold PS.text
    cases b with
    | true => rw [if_neg (hyn rfl)]; rfl
    | false => rw [if_pos (hn rfl)]; rfl
  obtain ⟨y, hy2⟩ : ∃ x, x = if b then p.tok T else tk0 := ⟨_, rfl⟩
  have ha : (p.text T).2 = y.t := by
    rw [hy2]; unfold PS.text
    cases b with
    | true => rw [if_neg (hyn rfl)]; rfl
    | false => rw [if_pos (hn rfl)]; rfl
  rw [ha, hq]
  have CW := Lib.hid (fun (W : World) (hb2 : Below w.heap.size w W) => cwant_any (h.below hb2) b (fun z => ⟨(hy z).1, by rw [(hy z).2]; decide⟩) hq2 hy2)
  have g0 := cfld_k x
  have g1 := cfld_t y
  clear h hbk hy hyn hn hq hq2 hx hy2 ha
  go_enter Tryz.func104, Tryz.ntmps104
  go_wp2_with (first
    | (go_at_call 35; refine cp.mono ?_; rintro e w2 ⟨rfl, hb2⟩)
    | (go_at_call 88; refine (CW.out _ hb2).mono ?_; rintro e w3 ⟨rfl, hr3, hg3⟩; have HR3 := Lib.hid hr3; have HG3 := Lib.hid hg3; clear hr3 hg3))
  go_ret
  exact ⟨rfl, HR3.out, (Gn.of hb2).trans HG3.out⟩

set_option maxRecDepth 100000 in
set_option maxHeartbeats 2000000 in
theorem cname_any : Calls Tryz.prog 64 #[.pointer (some ⟨g, 0, none⟩)] w fun e w' => e = .returned (.string (str (p.name T).2)) ∧ RS w' g A c T (p.name T).1 ∧ Gn g w w' := by
  obtain ⟨x, hx⟩ : ∃ x, p.ct T = x := ⟨_, rfl⟩
  have cp := peek_then h hx (Below.refl _ _)
  have cw := fun W => isWord_any W x.t
  obtain ⟨d, hd⟩ : ∃ d, decide (x.t ∈ words) = d := ⟨_, rfl⟩
  simp only [hd] at cw
  obtain ⟨b, hb⟩ : ∃ b, (decide (x.k = 1) && !d) = b := ⟨_, rfl⟩
  have hbk : b = true ↔ x.k = 1 ∧ x.t ∉ words := by rw [← hb, ← hd]; simp
  have hy : b = true → ¬ (p.flt ≠ 0 ∨ (p.tok T).k ≠ 1 ∨ (p.tok T).t ∈ words) := fun q => by
    obtain ⟨hk, hw⟩ := hbk.1 q
    have h0 : p.flt = 0 := Decidable.byContradiction fun z => by have := ct_bad h.ends h.inn z; rw [hx] at this; omega
    have he : p.tok T = x := by rw [← ct_ok h0, hx]
    rw [he]
    exact fun z => z.elim (fun z => z h0) (fun z => z.elim (fun z => z hk) hw)
  have hn : b = false → (p.flt ≠ 0 ∨ (p.tok T).k ≠ 1 ∨ (p.tok T).t ∈ words) := fun q => by
    by_cases z : p.flt = 0
    · have he : p.tok T = x := by rw [← ct_ok z, hx]
      rw [he]
      by_cases z1 : x.k = 1
      · by_cases z2 : x.t ∈ words
        · exact .inr (.inr z2)
        · have : b = true := hbk.2 ⟨z1, z2⟩
          rw [q] at this; cases this
      · exact .inr (.inl z1)
    · exact .inl z
  have hy0 : b = true → p.flt = 0 ∧ (p.tok T).k ≠ 0 := fun q => by
    have := hy q
    have h0 : p.flt = 0 := Decidable.byContradiction fun z => this (.inl z)
    have h1 : (p.tok T).k = 1 := Decidable.byContradiction fun z => this (.inr (.inl z))
    exact ⟨h0, by omega⟩
  obtain ⟨q, hq⟩ : ∃ q, (p.name T).1 = q := ⟨_, rfl⟩
  have hq2 : q = if b then p.next else p.fail (p.tok T).a 90 := by
    rw [← hq]; unfold PS.name
    cases b with
    | true => rw [if_neg (hy rfl)]; rfl
    | false => rw [if_pos (hn rfl)]; rfl
  obtain ⟨y, hy2⟩ : ∃ x, x = if b then p.tok T else tk0 := ⟨_, rfl⟩
  have ha : (p.name T).2 = y.t := by
    rw [hy2]; unfold PS.name
    cases b with
    | true => rw [if_neg (hy rfl)]; rfl
    | false => rw [if_pos (hn rfl)]; rfl
  rw [ha, hq]
  have CW := Lib.hid (fun (W : World) (hb2 : Below w.heap.size w W) => cwant_any (h.below hb2) b hy0 hq2 hy2)
  have g1 := cfld_t y
  clear h hbk hy hy0 hn hq hq2 hx hy2 ha hd
  by_cases h1 : x.k = 1
  · have hk : ((x.k : Int) == 1) = true := by rw [h1]; rfl
    have hb3 : (!d) = b := by rw [← hb, h1]; rfl
    subst hb3
    clear h1 hb
    go_enter Tryz.func64, Tryz.ntmps64
    go_wp2_with (first
      | (go_at_call 35; refine cp.mono ?_; rintro e w2 ⟨rfl, hb2⟩; have hb20 := hb2.alloc hb2.size (.cells #[.int .i64 (x.k : Nat), .string (str x.t), .int .u64 (x.n : Nat), .int .i64 (x.a : Nat), .int .i64 (x.e : Nat)] 84))
      | (go_at_call 75; refine (cw _).mono ?_; rintro e w4 ⟨rfl, rfl⟩)
      | (go_at_call 88; refine (CW.out _ hb20).mono ?_; rintro e w3 ⟨rfl, hr3, hg3⟩; have HR3 := Lib.hid hr3; have HG3 := Lib.hid hg3; clear hr3 hg3))
    go_ret
    exact ⟨rfl, HR3.out, (Gn.of hb20).trans HG3.out⟩
  · have hk : ((x.k : Int) == 1) = false := beq_eq_false_iff_ne.2 (by omega)
    have hb3 : b = false := by rw [← hb, decide_eq_false h1]; rfl
    subst hb3
    clear h1 hb
    go_enter Tryz.func64, Tryz.ntmps64
    go_wp2_with (first
      | (go_at_call 35; refine cp.mono ?_; rintro e w2 ⟨rfl, hb2⟩; have hb20 := hb2.alloc hb2.size (.cells #[.int .i64 (x.k : Nat), .string (str x.t), .int .u64 (x.n : Nat), .int .i64 (x.a : Nat), .int .i64 (x.e : Nat)] 84))
      | (go_at_call 88; refine (CW.out _ hb20).mono ?_; rintro e w3 ⟨rfl, hr3, hg3⟩; have HR3 := Lib.hid hr3; have HG3 := Lib.hid hg3; clear hr3 hg3))
    go_ret
    exact ⟨rfl, HR3.out, (Gn.of hb20).trans HG3.out⟩

set_option maxRecDepth 100000 in
set_option maxHeartbeats 1000000 in
theorem cend_any : Calls Tryz.prog 19 #[.pointer (some ⟨g, 0, none⟩)] w fun e w' => e = .returned (.tuple #[]) ∧ RS w' g A c T (p.end_ T) ∧ Gn g w w' := by
  obtain ⟨x, hx⟩ : ∃ x, p.ct T = x := ⟨_, rfl⟩
  have cp := peek_then h hx (Below.refl _ _)
  by_cases h1 : x.k = 0
  · have he : p.end_ T = p := by
      unfold PS.end_
      by_cases z : p.flt = 0
      · rw [if_neg]
        rintro ⟨_, z2⟩
        rw [← ct_ok z, hx] at z2
        exact z2 h1
      · rw [if_neg (fun q => z q.1)]
    rw [he]
    have HR := Lib.hid (fun (W : World) (hb : Below w.heap.size w W) => h.below hb)
    have hk : ((x.k : Int) != 0) = false := by rw [h1]; rfl
    clear h hx h1 he
    go_enter Tryz.func19, Tryz.ntmps19
    go_wp2_with (go_at_call 35; refine cp.mono ?_; rintro e w2 ⟨rfl, hb2⟩; have hb20 := hb2.alloc hb2.size (.cells #[.int .i64 (x.k : Nat), .string (str x.t), .int .u64 (x.n : Nat), .int .i64 (x.a : Nat), .int .i64 (x.e : Nat)] 84))
    go_end0
    exact ⟨rfl, HR.out _ hb20, Gn.of hb20⟩
  · have h0 : p.flt = 0 := Decidable.byContradiction fun z => by have := ct_bad h.ends h.inn z; rw [hx] at this; omega
    have he : p.end_ T = p.fail x.a 90 := by
      unfold PS.end_
      rw [← ct_ok h0, hx, if_pos ⟨h0, h1⟩]
    rw [he]
    have CF := Lib.hid (fun (W : World) (hb : Below w.heap.size w W) => cfault_any (h.below hb) x.a 90 (by decide))
    have hk : ((x.k : Int) != 0) = true := by simp; omega
    clear h hx h1 he
    go_enter Tryz.func19, Tryz.ntmps19
    go_wp2_with (first
      | (go_at_call 35; refine cp.mono ?_; rintro e w2 ⟨rfl, hb2⟩; have hb20 := hb2.alloc hb2.size (.cells #[.int .i64 (x.k : Nat), .string (str x.t), .int .u64 (x.n : Nat), .int .i64 (x.a : Nat), .int .i64 (x.e : Nat)] 84))
      | (go_at_call 36; refine (CF.out _ hb20).mono ?_; rintro e w3 ⟨rfl, hr3, hg3⟩; have HR3 := Lib.hid hr3; have HG3 := Lib.hid hg3; clear hr3 hg3))
    go_end0
    exact ⟨rfl, HR3.out, (Gn.of hb20).trans HG3.out⟩
end
end Go.Proofs.YtipcgmaobiobbaaGreatDoor
