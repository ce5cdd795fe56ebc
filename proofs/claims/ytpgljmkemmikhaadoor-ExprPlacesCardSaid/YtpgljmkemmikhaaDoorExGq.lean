/- A block of bytes that a call writes over, whole. No walk here. -/
import Derived.Test.YtpgljmkemmikhaaDoorExGb
import Derived.Test.YtpgljmkemmikhaaDoorExPure
import Derived.Test.YtpgljmkemmikhaaDoorExGy
import Derived.Laws.MakeOwn
import Derived.Deep.MidRow
namespace Go.Proofs.YtpgljmkemmikhaaDoor
open Go.RowKit
open Go.Lib (byteCells)

/-- the block g holds just these bytes -/
def BRow (w : World) (g : Nat) (l : List UInt8) : Prop := w.heap[g]? = some (.cells (byteCells l).toArray 5 (0, 0))
section
variable {w w' : World} {g : Nat} {l : List UInt8}
theorem BRow.start (w : World) (n : Nat) : BRow (w.alloc (.cells (Array.replicate n (.int .u8 0)) 5)) w.heap.size (List.replicate n 0) := by
  unfold BRow
  rw [heap_alloc_new w _]
  simp [byteCells]
theorem BRow.len (h : BRow w g l) : g < w.heap.size := (Array.getElem?_eq_some_iff.1 h).1
theorem BRow.cell (h : BRow w g l) {k : Nat} {x : UInt8} (hk : l[k]? = some x) : w.cell? ⟨g, k, none⟩ = some (.int .u8 (x.toNat : Nat)) := by
  obtain ⟨hl, hx⟩ := List.getElem?_eq_some_iff.1 hk
  rw [cell_of_row w g k _ 5 (0, 0) h, List.getElem?_toArray, byteCells_get _ k hl, hx]
theorem BRow.frozen (h : BRow w g l) (i : Nat) : w.frozen? ⟨g, i, none⟩ = false := by
  unfold BRow at h
  simp [World.frozen?, h]
theorem BRow.set (h : BRow w g l) (k : Nat) (x : UInt8) (z : Int) (hz : z = (x.toNat : Int)) : BRow (w.setCell ⟨g, k, none⟩ (.int .u8 z)) g (l.set k x) := by
  subst hz
  unfold BRow at h ⊢
  have e : byteCells (l.set k x) = (byteCells l).set k (.int .u8 (x.toNat : Int)) := by
    unfold byteCells; rw [List.map_set]
  rw [e]
  simp [World.setCell, Array.getElem?_modify, h]
theorem BRow.reads (h : BRow w g l) : Byt w w.heap.size (some ⟨g, 0, none⟩) l :=
  .inr ⟨g, 0, rfl, h.len, fun j hj => by rw [Nat.zero_add]; exact h.cell (List.getElem?_eq_getElem hj)⟩
theorem BRow.keep (h : BRow w g l) (hb : w'.heap[g]? = w.heap[g]?) : BRow w' g l := hb.trans h
theorem BRow.below (h : BRow w g l) (hb : Below w.heap.size w w') : BRow w' g l := h.keep (hb.block g h.len)
theorem BRow.grown {row : Option Nat} (h : BRow w g l) (hg : w.grownBy w' row) (hne : row ≠ some g) : BRow w' g l := h.keep (hg.block g h.len fun e => hne e.symm)
end
theorem take_set {α : Type} {cur L : List α} {k : Nat} {x : α} (hl : cur.length = L.length) (h : cur.take k = L.take k) (hx : L[k]? = some x) : (cur.set k x).take (k + 1) = L.take (k + 1) := by
  obtain ⟨hk, hv⟩ := List.getElem?_eq_some_iff.1 hx
  have hk2 : k < (cur.set k x).length := by rw [List.length_set]; omega
  rw [List.take_succ_eq_append_getElem hk, List.take_succ_eq_append_getElem hk2, List.getElem_set_self, hv, List.take_set, List.set_eq_of_length_le (by rw [List.length_take]; omega), h]
theorem take_all {α : Type} {cur L : List α} {n : Nat} (hl : cur.length = n) (hL : L.length = n) (h : cur.take n = L.take n) : cur = L := by
  rwa [List.take_of_length_le (by omega), List.take_of_length_le (by omega)] at h
theorem drop_set {α : Type} {cur L : List α} {k : Nat} {x : α} (h : cur.drop k = L.drop k) : (cur.set k x).drop (k + 1) = L.drop (k + 1) := by
  rw [List.drop_set_of_lt (by omega), ← List.drop_drop, ← List.drop_drop, h]
theorem drop_get {α : Type} {cur L : List α} {k : Nat} (h : cur.drop k = L.drop k) : cur[k]? = L[k]? := by
  have := congrArg (fun l => l[0]?) h
  simpa [List.getElem?_drop] using this

theorem infoBR : (Tryd.prog.info? 5).map (fun i => (i.zero, i.size, i.bytes)) = some (some (.int .u8 0), 1, 1) := by kernel_rfl
set_option maxRecDepth 100000 in
/-- make of bytes -/
theorem run_mkB (n : Nat) (hn : n ≤ 140737488355328) (W : World) : (Instr.makeSlice 105 (.int .i64 (n : Int)) (.int .i64 (n : Int))).run Tryd.prog W =
    .ok (.slice (some ⟨W.heap.size, 0, none⟩) n n) (W.alloc (.cells (Array.replicate n (.int .u8 0)) 5)) := by
  have hb := infoBR
  cases hq : Tryd.prog.info? 5 with
  | none => simp [hq] at hb
  | some i0 =>
    simp [hq] at hb
    obtain ⟨hz0, hz1, hz2⟩ := hb
    have h := run_make (P := Tryd.prog) W 105 5 i0 _ Tryd.underlying105 hq hz0 .i64 .i64 (n : Int) (n : Int) (by omega) (by omega) (by rw [hz2]; omega) (by omega)
    rw [hz1] at h
    simp only [Int.toNat_natCast, Nat.mul_one] at h
    rw [h]
    congr 3
    apply Array.toList_inj.1
    rw [Array.toList_replicate]
    exact toList_madeCells_one _ _
end Go.Proofs.YtpgljmkemmikhaaDoor
/- Plain: where nodes stood plays no part. No walk here. -/
namespace Go.Proofs.YtpgljmkemmikhaaDoor

/-- a node that stood elsewhere -/
def placedN (d : Int) (x : Rn) : Rn := ⟨x.op, x.n, x.num, x.t, d⟩
section
variable (d : Int)
theorem placed_arity (x : Rn) : arity (placedN d x) = arity x := rfl
theorem placed_over (i : Nat) (x : Rn) (ks : List Pe) : overP i (placedN d x) ks = overP i x ks := rfl
theorem placed_push (i : Nat) (x : Rn) (P : List Pe) : pushP i (placedN d x) P = pushP i x P := rfl
theorem placed_own (x : Rn) (ts : List Th) : ownV (placedN d x) ts = ownV x ts := rfl
theorem placed_comb (i : Nat) (x : Rn) (rs : List Res) : combR i (placedN d x) rs = combR i x rs := rfl
theorem placed_pile (N : List Rn) : ∀ i, pileP (N.map (placedN d)) i = pileP N i
  | 0 => rfl
  | i + 1 => by
    unfold pileP
    rw [placed_pile N i, List.getElem?_map]
    cases pileP N i with
    | none => rfl
    | some P => cases N[i]? <;> rfl
theorem placed_expr (N : List Rn) : exprP (N.map (placedN d)) = exprP N := by
  unfold exprP
  rw [placed_pile, List.length_map]
theorem placed_bad (N : List Rn) : ∀ i, badP (N.map (placedN d)) i = badP N i
  | 0 => rfl
  | i + 1 => by
    unfold badP
    rw [placed_bad N i, placed_pile]
theorem placed_chk (N : List Rn) : chkP (N.map (placedN d)) = chkP N := by
  unfold chkP
  rw [List.length_map, placed_bad, placed_expr]
theorem placed_vals (N : List Rn) : ∀ i, valsP (N.map (placedN d)) i = valsP N i
  | 0 => rfl
  | i + 1 => by
    unfold valsP
    rw [placed_vals N i, List.getElem?_map]
    cases N[i]? with
    | none => rfl
    | some x =>
      simp only [Option.map_some, placed_arity, placed_comb]
theorem placed_res (N : List Rn) (j : Nat) : resAt (N.map (placedN d)) j = resAt N j := by
  unfold resAt
  rw [placed_vals]
theorem placed_val (N : List Rn) (k : Int) : valV (N.map (placedN d)) k = valV N k := by
  unfold valV
  rw [placed_chk, List.length_map, placed_res]
end
end Go.Proofs.YtpgljmkemmikhaaDoor
/- A whole block of nodes that a call writes over. No walk here. -/
namespace Go.Proofs.YtpgljmkemmikhaaDoor
open Go.RowKit

/-- the block g holds just these nodes -/
def NBlk (w : World) (g : Nat) (l : List Rn) : Prop := CB w g 37 (flatR rnC l).toArray
def markN : Rn := ⟨77, 0, 0, [], 0⟩
def zeroN : Rn := ⟨0, 0, 0, [], 0⟩
theorem flatRn_cons (x : Rn) (r : List Rn) : flatR rnC (x :: r) = .int .i64 x.op :: .int .i64 x.n :: .int .u64 (x.num : Nat) :: .string (str x.t) :: .int .i64 x.a :: flatR rnC r := rfl
theorem flatRn_set : ∀ (l : List Rn) (k : Nat) (x : Rn), k < l.length → flatR rnC (l.set k x) = (((((flatR rnC l).set (k * 5) (.int .i64 x.op)).set (k * 5 + 1) (.int .i64 x.n)).set (k * 5 + 2) (.int .u64 (x.num : Nat))).set (k * 5 + 3) (.string (str x.t))).set (k * 5 + 4) (.int .i64 x.a)
  | [], _, _, h => by simp at h
  | y :: r, 0, x, _ => by
    rw [List.set_cons_zero, flatRn_cons, flatRn_cons]
    rfl
  | y :: r, k + 1, x, h => by
    rw [List.set_cons_succ, flatRn_cons, flatRn_cons, flatRn_set r k x (by simpa using h)]
    rw [show (k + 1) * 5 = k * 5 + 1 + 1 + 1 + 1 + 1 by omega]
    rfl
theorem flatRn_at : ∀ (l : List Rn) (k : Nat) (x : Rn) (d : Int), l[k]? = some x → flatR rnC (l.set k (placedN d x)) = (flatR rnC l).set (k * 5 + 4) (.int .i64 d)
  | [], _, _, _, h => by simp at h
  | y :: r, 0, x, d, h => by
    rw [List.getElem?_cons_zero] at h
    cases h
    rw [List.set_cons_zero, flatRn_cons, flatRn_cons]
    rfl
  | y :: r, k + 1, x, d, h => by
    rw [List.getElem?_cons_succ] at h
    rw [List.set_cons_succ, flatRn_cons, flatRn_cons, flatRn_at r k x d h]
    rw [show (k + 1) * 5 + 4 = k * 5 + 4 + 1 + 1 + 1 + 1 + 1 by omega]
    rfl
theorem flatRn_len (l : List Rn) : (flatR rnC l).length = l.length * 5 := flatR_len (f := rnC) (s := 5) (fun _ => rfl) l
section
variable {w w' : World} {g : Nat} {l : List Rn}
theorem NBlk.cell (h : NBlk w g l) {k : Nat} {x : Rn} (hk : l[k]? = some x) (j : Nat) (hj : j < 5) : w.cell? ⟨g, k * 5 + j, none⟩ = (rnC x)[j]? := by
  rw [CB.at_ h, List.getElem?_toArray, flatR_at (f := rnC) (s := 5) (fun _ => rfl) l k x hk j hj]
theorem NBlk.cells (h : NBlk w g l) {k : Nat} {x : Rn} (hk : l[k]? = some x) : w.cell? ⟨g, k * 5, none⟩ = some (.int .i64 x.op) ∧ w.cell? ⟨g, k * 5 + 1, none⟩ = some (.int .i64 x.n) ∧ w.cell? ⟨g, k * 5 + 2, none⟩ = some (.int .u64 (x.num : Nat)) ∧ w.cell? ⟨g, k * 5 + 3, none⟩ = some (.string (str x.t)) ∧ w.cell? ⟨g, k * 5 + 4, none⟩ = some (.int .i64 x.a) :=
  ⟨h.cell hk 0 (by omega), h.cell hk 1 (by omega), h.cell hk 2 (by omega), h.cell hk 3 (by omega), h.cell hk 4 (by omega)⟩
theorem NBlk.there (h : NBlk w g l) {k : Nat} (hk : k < l.length) : w.there g (k * 5) 5 := fun j hj => by
  refine ⟨?_, CB.frozen h _⟩
  rw [CB.at_ h, List.getElem?_toArray, List.getElem?_eq_getElem (by rw [flatRn_len]; omega)]
  rfl
theorem NBlk.set (h : NBlk w g l) {k : Nat} (hk : k < l.length) (x : Rn) : NBlk (w.setCells g (k * 5) (rnC x).toList) g (l.set k x) := by
  have h0 := heap_setCell_same w g (k * 5) _ _ (.int .i64 x.op) h
  have h1 := heap_setCell_same _ g (k * 5 + 1) _ _ (.int .i64 x.n) h0
  have h2 := heap_setCell_same _ g (k * 5 + 2) _ _ (.int .u64 (x.num : Nat)) h1
  have h3 := heap_setCell_same _ g (k * 5 + 3) _ _ (.string (str x.t)) h2
  have h4 := heap_setCell_same _ g (k * 5 + 4) _ _ (.int .i64 x.a) h3
  unfold NBlk CB
  rw [flatRn_set l k x hk]
  refine Eq.trans h4 ?_
  simp
theorem NBlk.setA (h : NBlk w g l) {k : Nat} {x : Rn} (hk : l[k]? = some x) (d : Int) : NBlk (w.setCell ⟨g, k * 5 + 4, none⟩ (.int .i64 d)) g (l.set k (placedN d x)) := by
  have h0 := heap_setCell_same w g (k * 5 + 4) _ _ (.int .i64 d) h
  unfold NBlk CB
  rw [flatRn_at l k x d hk]
  refine Eq.trans h0 ?_
  simp
theorem NBlk.rest (h : NBlk w g l) (n : Nat) : RN w w.heap.size (some ⟨g, 0, none⟩) (l.take n) :=
  .inr ⟨g, 0, rfl, CB.len h, fun i x hx j v hv => by
    have hj : j < 5 := (Array.getElem?_eq_some_iff.1 hv).1
    have hi : l[i]? = some x := by
      rw [List.getElem?_take] at hx
      split at hx
      · exact hx
      · cases hx
    rw [Nat.zero_add, h.cell hi j hj]
    exact hv⟩
end
theorem run_mkN (n : Nat) (hn : n ≤ 1000000) (W : World) : (Instr.makeSlice 22 (.int .i64 (n : Int)) (.int .i64 (n : Int))).run Tryd.prog W =
    .ok (.slice (some ⟨W.heap.size, 0, none⟩) n n) (W.alloc (.cells (flatR rnC (List.replicate n zeroN)).toArray 37)) := by
  obtain ⟨i0, hi, hz0, hz1, hz2⟩ := info_three infoRn
  have h := run_make (P := Tryd.prog) W 22 37 i0 _ Tryd.underlying22 hi hz0 .i64 .i64 (n : Int) (n : Int) (by omega) (by omega) (by rw [hz2]; omega) (by omega)
  rw [hz1] at h
  simp only [Int.toNat_natCast] at h
  rw [h]
  suffices e : madeCells (Value.agg #[.int .i64 0, .int .i64 0, .int .u64 0, .string ⟨#[]⟩, .int .i64 0]).cells (n * 5) = (flatR rnC (List.replicate n zeroN)).toArray by rw [e]
  apply Array.ext_getElem?
  intro j
  rw [show (flatR rnC (List.replicate n zeroN)).toArray[j]? = (flatR rnC (List.replicate n zeroN))[j]? from by simp]
  rcases Nat.lt_or_ge j (n * 5) with hj | hj
  · have e : (List.replicate n zeroN)[j / 5]? = some zeroN := by rw [List.getElem?_replicate, if_pos (by omega)]
    have := flatR_at (f := rnC) (s := 5) (fun _ => rfl) _ (j / 5) zeroN e (j % 5) (by omega)
    rw [show j / 5 * 5 + j % 5 = j by omega] at this
    rw [this]
    unfold madeCells
    rw [Array.getElem?_map, Array.getElem?_eq_getElem (by simpa using hj), Array.getElem_range]
    have hm : j % 5 < 5 := by omega
    show some ((rnC zeroN)[j % 5]!) = _
    rw [getElem!_pos (rnC zeroN) (j % 5) hm, Array.getElem?_eq_getElem hm]
  · rw [Array.getElem?_eq_none (by rw [size_madeCells]; exact hj), List.getElem?_eq_none (by rw [flatRn_len, List.length_replicate]; exact hj)]
theorem elem_n : Tryd.prog.elem 22 = 37 := by unfold Program.elem; rw [Tryd.underlying22]
theorem add_zero_n (A : Option Addr) : Option.map (fun x => x.add 0) A = A := by
  cases A with
  | none => rfl
  | some a => obtain ⟨b, o, s⟩ := a; cases s <;> rfl
theorem run_cutN (A : Option Addr) (n c k : Nat) (hk : k ≤ c) (W : World) :
    (Instr.sliceAt 22 (.slice A n c) none (some (.int .i64 (k : Int))) none).run Tryd.prog W = .ok (.slice A k c) W := by
  have hE : Tryd.prog.elem 22 = 37 := elem_n
  have ht' : Tryd.prog.underlying 22 = some (.slice (Tryd.prog.elem 22)) := by rw [hE]; exact Tryd.underlying22
  obtain ⟨i0, hi, _, hz1, _⟩ := info_three infoRn
  have hs : (sizeOf 37).run Tryd.prog W = .ok 5 W := by
    simp [sizeOf, typeInfo, hi, hz1]
  rw [run_sliceAt_slice _ _ _ _ _ _ ht', run_slice_h _ _ A n c ht' .i64 k (by omega) (by omega), hE, hs]
  simp only [Result.andThen, sliced, Int.toNat_natCast, Nat.zero_mul, Nat.sub_zero, add_zero_n]
  simp
/-- the nodes, stood elsewhere, and their spare room -/
def wideN (d : Int) (l : List Rn) : List Rn := l.map (placedN d) ++ List.replicate 9 markN
theorem wideN_len (d : Int) (l : List Rn) : (wideN d l).length = l.length + 9 := by simp [wideN]
theorem wideN_low {d : Int} {l : List Rn} {k : Nat} {x : Rn} (h : l[k]? = some x) : (wideN d l)[k]? = some (placedN d x) := by
  have hk := (List.getElem?_eq_some_iff.1 h).1
  unfold wideN
  rw [List.getElem?_append_left (by rw [List.length_map]; exact hk), List.getElem?_map, h]
  rfl
theorem wideN_high {d : Int} {l : List Rn} {k : Nat} (h : ¬ k < l.length) (h' : k < l.length + 9) : (wideN d l)[k]? = some markN := by
  unfold wideN
  rw [List.getElem?_append_right (by rw [List.length_map]; omega), List.getElem?_replicate, if_pos (by rw [List.length_map]; omega)]
theorem wideN_take (d : Int) (l : List Rn) : (wideN d l).take l.length = l.map (placedN d) := by
  unfold wideN
  rw [List.take_append_of_le_length (by rw [List.length_map]; exact Nat.le_refl _), List.take_of_length_le (by rw [List.length_map]; exact Nat.le_refl _)]
theorem CB.trans' {w w' : World} {b : Nat} {T : TypeId} {cs : Array Value} (h : CB w b T cs) (hb : w'.heap[b]? = w.heap[b]?) : CB w' b T cs := hb.trans h
theorem few_placed (d : Int) {l : List Rn} (h : Few l) : Few (l.map (placedN d)) := by
  refine ⟨by rw [List.length_map]; exact h.few, fun x hx => ?_, fun x hx => ?_⟩
  · obtain ⟨y, hy, rfl⟩ := List.mem_map.1 hx
    exact h.n y hy
  · obtain ⟨y, hy, rfl⟩ := List.mem_map.1 hx
    exact h.num y hy
/-- a node stored into a block of nodes -/
theorem wpList_store_nd {ops : Array Oper} {rest : List Oper} {op : Oper} {a : Act} {w : World} {Q : Exit → Act → World → Prop} (hgd : op.guard = none) (x y : Operand) (ho : op.op = .store 37 x y)
    (g k o : Nat) (f : Rn) (cur : List Rn) (ho2 : o = k * 5) (hx : a.eval x = .pointer (some ⟨g, o, none⟩)) (hy : a.eval y = .agg (rnC f)) (hB : NBlk w g cur) (hk : k < cur.length)
    (h : ∀ w2, NBlk w2 g (cur.set k f) → Turned g w w2 → wpList Tryd.prog ops Q rest (a.put op.dst undef) w2) : wpList Tryd.prog ops Q (op :: rest) a w := by
  subst ho2
  exact wpList_store_mid hgd 37 x y ho g (k * 5) (rnC f) hx hy (hB.there hk) (by kernel_rfl) (by kernel_rfl) (h _ (hB.set hk f) (Turned.setCells _ _ _ (Turned.refl g w)))
end Go.Proofs.YtpgljmkemmikhaaDoor
/- The walk of ExprPlaces. -/
namespace Go.Proofs.YtpgljmkemmikhaaDoor
open Go.RowKit

set_option maxRecDepth 100000 in
set_option maxHeartbeats 16000000 in
theorem places_good {w : World} {A : Option Addr} {c : Nat} {l : List Rn} {d : Int} (hK : KSt w w) (hR : RN w w.heap.size A l) (hF : Few l) (hlen : l.length ≤ 65536) :
    Calls Tryd.prog 8 #[.slice A l.length c, .int .i64 d] w fun e w' => e = .returned (.bool true) ∧ Below w.heap.size w w' := by
  obtain ⟨n, hn⟩ : ∃ n, l.length = n := ⟨_, rfl⟩
  obtain ⟨N, hN⟩ : ∃ N, N = n + 9 := ⟨_, rfl⟩
  have hmk : ∀ W : World, (Instr.makeSlice 22 (.int .i64 ((n : Int) + 9)) (.int .i64 ((n : Int) + 9))).run Tryd.prog W =
      .ok (.slice (some ⟨W.heap.size, 0, none⟩) N N) (W.alloc (.cells (flatR rnC (List.replicate N zeroN)).toArray 37)) := by
    intro W
    have := run_mkN N (by omega) W
    rw [hN] at this ⊢
    exact this
  have hz : ¬ (65536 : Int) < (n : Int) := by omega
  have hn1 : n < N := by omega
  have hn2 : N ≤ 65545 := by omega
  have HLN := Lib.hid hn
  have HN := Lib.hid hN
  have HR := Lib.hid hR
  have CL := Lib.hid (lives_any hK)
  rw [hn]
  -- Check and Value, of both rows
  have CK : Hid (∃ a e : Nat, ∀ (F : Nat) (w2 : World), Below w.heap.size w w2 → NBlk w2 F (wideN d l) → (∀ W, Below w2.heap.size w2 W → Calls Tryd.prog 11 #[.slice (some ⟨F, 0, none⟩) n N] W fun E W' => E = .returned (.tuple #[.int .i64 (a : Nat), .int .i64 (e : Nat)]) ∧ Hid (Below w2.heap.size w2 W')) ∧ (∀ W, Below w2.heap.size w2 W → Calls Tryd.prog 11 #[.slice A n c] W fun E W' => E = .returned (.tuple #[.int .i64 (a : Nat), .int .i64 (e : Nat)]) ∧ Hid (Below w2.heap.size w2 W'))) := by
    refine ⟨(chkP l).1, (chkP l).2, fun F w2 hb hB => ⟨fun W hW => ?_, fun W hW => ?_⟩⟩
    · have hr := hB.rest l.length
      rw [wideN_take] at hr
      have := check_any (c := N) ((hr.below hW).more hW.size) (few_placed d hF)
      rw [placed_chk, List.length_map, hn] at this
      exact this.mono fun E W' h => ⟨h.1, hW.trans (h.2.mono hW.size)⟩
    · have hW' := hb.trans (hW.mono hb.size)
      have := check_any (c := c) ((hR.below hW').more hW'.size) hF
      rw [hn] at this
      exact this.mono fun E W' h => ⟨h.1, hW.trans (h.2.mono hW.size)⟩
  have CV : Hid (∀ K : Nat, ∃ (z0 : Int) (z1 : Nat) (z2 : ByteArray) (a e : Nat), ∀ (F : Nat) (w2 : World), Below w.heap.size w w2 → NBlk w2 F (wideN d l) → Hid (∀ W, Below w2.heap.size w2 W → Calls Tryd.prog 19 #[.slice (some ⟨F, 0, none⟩) n N, .int .i64 (K : Nat)] W fun E W' => E = .returned (.tuple #[.agg #[.int .i64 z0, .int .u64 (z1 : Nat), .string z2], .int .i64 (a : Nat), .int .i64 (e : Nat)]) ∧ Hid (Below W.heap.size W W')) ∧ Hid (∀ W, Below w2.heap.size w2 W → Calls Tryd.prog 19 #[.slice A n c, .int .i64 (K : Nat)] W fun E W' => E = .returned (.tuple #[.agg #[.int .i64 z0, .int .u64 (z1 : Nat), .string z2], .int .i64 (a : Nat), .int .i64 (e : Nat)]) ∧ Hid (Below W.heap.size W W'))) := by
    intro K
    refine ⟨(valV l K).k, (valV l K).n, str (valV l K).s, (valV l K).at_, (valV l K).e, fun F w2 hb hB => ⟨fun W hW => ?_, fun W hW => ?_⟩⟩
    · have hr := hB.rest l.length
      rw [wideN_take] at hr
      have hW' := hb.trans (hW.mono hb.size)
      have := value_any (c := N) (k := (K : Nat)) (hK.then_ hW').self ((hr.below hW).more hW.size) (few_placed d hF)
      rw [placed_val, List.length_map, hn] at this
      exact this
    · have hW' := hb.trans (hW.mono hb.size)
      have := value_any (c := c) (k := (K : Nat)) (hK.then_ hW').self ((hR.below hW').more hW'.size) hF
      rw [hn] at this
      exact this
  obtain ⟨ka, ke, CK⟩ := CK.out
  have CK := Lib.hid CK
  clear hN hn hK hR hF hlen
  go_enter Tryd.func8, Tryd.ntmps8
  go_wp2_with (go_at_call 9; refine CL.out.mono ?_; rintro e w1 ⟨rfl, h1⟩)
  have hB1 : Below w.heap.size w w1 := h1
  have hs1 := hB1.size
  obtain ⟨M, hM⟩ : ∃ M, M = w1.heap.size := ⟨_, rfl⟩
  obtain ⟨F, hF⟩ : ∃ F, F = w1.heap.size + 1 := ⟨_, rfl⟩
  obtain ⟨wa, hwa⟩ : ∃ wa, wa = (w1.alloc (.cells #[.int .i64 77, .int .i64 0, .int .u64 0, .string ⟨#[]⟩, .int .i64 0] 37)).alloc (.cells (flatR rnC (List.replicate N zeroN)).toArray 37) := ⟨_, rfl⟩
  have hm0 : CB wa M 37 (rnC markN) := by rw [hwa, hM]; unfold CB; rw [heap_alloc_old _ _ (by simp)]; exact heap_alloc_new w1 _
  have hf0 : NBlk wa F (List.replicate N zeroN) := by rw [hwa, hF]; unfold NBlk CB; have := heap_alloc_new (w1.alloc (.cells #[.int .i64 77, .int .i64 0, .int .u64 0, .string ⟨#[]⟩, .int .i64 0] 37)) (.cells (flatR rnC (List.replicate N zeroN)).toArray 37); simpa using this
  have hBa : Below w.heap.size w wa := by rw [hwa]; exact (hB1.alloc hs1 _).alloc (by simp; omega) _
  rw [← hwa, ← hF, ← hM]
  have hwM : w.heap.size ≤ M := by omega
  have hMF : M ≠ F := by omega
  have hwF : w.heap.size ≤ F := by omega
  have HM0 := Lib.hid hm0
  have HF0 := Lib.hid hf0
  clear hm0 hf0 hwa hF hM hmk h1 hs1 hB1 CL
  go_loopw [7] (fun i wr => ∃ (k : Nat) (cur : List Rn), i = .int .i64 k ∧ k ≤ N ∧ Below w.heap.size w wr ∧ Hid (CB wr M 37 (rnC markN)) ∧ Hid (NBlk wr F cur) ∧ Hid (cur.length = N) ∧ Hid (cur.take k = (wideN d l).take k)) (fun i _ => N - (intOf i).toNat)
  case atStart => exact ⟨0, _, rfl, Nat.zero_le _, hBa, HM0, HF0, by unfold Hid; rw [List.length_replicate], by unfold Hid; rw [List.take_zero, List.take_zero]⟩
  case round =>
    clear HM0 HF0 hBa
    obtain ⟨k, cur, rfl, hk, hB, HM, HF, HCL, HCT⟩ := hrel
    have HWL : Hid ((wideN d l).length = N) := by unfold Hid; rw [wideN_len, HLN.out]; exact HN.out.symm
    by_cases hlt : k < N
    · have hkc : k < cur.length := by rw [HCL.out]; exact hlt
      have HKC := Lib.hid hkc
      clear hkc
      have m0 : wr.cell? ⟨M, 0, none⟩ = some (.int .i64 77) := CB.at_ HM.out 0
      have m1 : wr.cell? ⟨M, 1, none⟩ = some (.int .i64 0) := CB.at_ HM.out 1
      have m2 : wr.cell? ⟨M, 2, none⟩ = some (.int .u64 0) := CB.at_ HM.out 2
      have m3 : wr.cell? ⟨M, 3, none⟩ = some (.string ⟨#[]⟩) := CB.at_ HM.out 3
      have m4 : wr.cell? ⟨M, 4, none⟩ = some (.int .i64 0) := CB.at_ HM.out 4
      by_cases hkl : k < n
      · obtain ⟨f, hf⟩ : ∃ f, l[k]? = some f := ⟨l[k]'(by rw [HLN.out]; exact hkl), List.getElem?_eq_getElem _⟩
        obtain ⟨g, o, rfl, hgB, c0, c1, c2, c3, c4⟩ := RN.cells (HR.out.below hB) hf
        have hne : g ≠ F := by omega
        have HWK : Hid ((wideN d l)[k]? = some (placedN d f)) := wideN_low hf
        clear hf
        go_wp2_with (first
          | (refine wpList_store_nd rfl (.tmp 39) (.tmp 38) rfl F k (k * 5) markN cur rfl rfl rfl HF.out HKC.out ?_; intro w2 hf2 ht2; have b0 := (ht2.cell hne _).trans c0; have b1 := (ht2.cell hne _).trans c1; have b2 := (ht2.cell hne _).trans c2; have b3 := (ht2.cell hne _).trans c3; have b4 := (ht2.cell hne _).trans c4; have HF2 := Lib.hid hf2; have HT2 := Lib.hid ht2; clear hf2 ht2 c0 c1 c2 c3 c4 m0 m1 m2 m3 m4)
          | (refine wpList_store_nd rfl (.tmp 50) (.tmp 49) rfl F k (k * 5) f (cur.set k markN) rfl rfl rfl HF2.out (by rw [List.length_set]; exact HKC.out) ?_; intro w3 hf3 ht3; have hq : ((cur.set k markN).set k f)[k]? = some f := (by rw [List.getElem?_set_self (by rw [List.length_set]; exact HKC.out)]); have e4 : w3.cell? ⟨F, k * 5 + 4, none⟩ = some (.int .i64 f.a) := hf3.cell hq 4 (by decide); have z4 := CB.frozen hf3 (k * 5 + 4); have HQ := Lib.hid hq; have HF3 := Lib.hid hf3; have HT3 := Lib.hid ht3; clear hq hf3 ht3 b0 b1 b2 b3 b4))
        go_roundw
        case rel => exact ⟨k + 1, _, by go_num, by omega, ((hB.trans (HT2.out.below hwF)).trans (HT3.out.below hwF)).trans (((Turned.refl F w3).setCell _ _).below hwF), ((HM.out.trans' (HT2.out.others M hMF)).trans' (HT3.out.others M hMF)).trans' (((Turned.refl F w3).setCell _ _).others M hMF), HF3.out.setA HQ.out d, by unfold Hid; rw [List.length_set, List.length_set, List.length_set]; exact HCL.out, by unfold Hid; rw [List.set_set, List.set_set]; exact take_set (HCL.out.trans HWL.out.symm) HCT.out HWK.out⟩
        case measure => simp [intOf]; omega
      · have HWK : Hid ((wideN d l)[k]? = some markN) := wideN_high (by rw [HLN.out]; exact hkl) (by rw [HLN.out]; have := HN.out; omega)
        go_wp2_with (refine wpList_store_nd rfl (.tmp 39) (.tmp 38) rfl F k (k * 5) markN cur rfl rfl rfl HF.out HKC.out ?_; intro w2 hf2 ht2; have HF2 := Lib.hid hf2; have HT2 := Lib.hid ht2; clear hf2 ht2 m0 m1 m2 m3 m4)
        go_roundw
        case rel => exact ⟨k + 1, _, by go_num, by omega, hB.trans (HT2.out.below hwF), HM.out.trans' (HT2.out.others M hMF), HF2, by unfold Hid; rw [List.length_set]; exact HCL.out, by unfold Hid; exact take_set (HCL.out.trans HWL.out.symm) HCT.out HWK.out⟩
        case measure => simp [intOf]; omega
    · have hkN : k = N := by omega
      have hcur : cur = wideN d l := take_all HCL.out HWL.out (by rw [← hkN]; exact HCT.out)
      have HF1 : Hid (NBlk wr F (wideN d l)) := by rw [← hcur]; exact HF.out
      have hlz : ¬ (k : Int) < (N : Int) := by omega
      clear hcur hkN HCT HCL HF hk hlt
      have hcut := run_cutN (some ⟨F, 0, none⟩) N N n (by omega)
      obtain ⟨k1, k2⟩ := CK.out F wr hB HF1.out
      have CV1 := Lib.hid (fun K => (CV.out K).imp fun z0 h => h.imp fun z1 h => h.imp fun z2 h => h.imp fun a h => h.imp fun e h => h F wr hB HF1.out)
      have K1 := Lib.hid k1
      have K2 := Lib.hid k2
      clear k1 k2 CK CV
      have B0 : Below wr.heap.size wr wr := Below.refl _ _
      go_wp2_with fail
      refine (K1.out wr B0).mono ?_
      rintro e w2 ⟨rfl, b2⟩
      go_wp2_with fail
      refine (K2.out w2 b2.out).mono ?_
      rintro e w3 ⟨rfl, b3⟩
      clear b2 K1 K2 B0
      obtain ⟨wo, rfl⟩ : ∃ wo : World, wo = wr := ⟨_, rfl⟩
      go_wp2_with fail
      go_loopw [12] (fun vk wx => ∃ K : Nat, vk = .int .i64 K ∧ 1 ≤ K ∧ K ≤ 6 ∧ Hid (Below wo.heap.size wo wx)) (fun vk _ => 6 - (intOf vk).toNat)
      case atStart => exact ⟨1, rfl, by decide, by decide, b3⟩
      case round =>
        obtain ⟨K, rfl, hK1, hK6, HX⟩ := hrel
        by_cases hlt : K ≤ 5
        · have hlz5 : (K : Int) ≤ 5 := by omega
          obtain ⟨z0, z1, z2, za, ze, c1, c2⟩ := CV1.out K
          go_wp2_with fail
          refine (c1.out _ HX.out).mono ?_
          rintro e w4 ⟨rfl, H4⟩
          have B4 := HX.out.trans (H4.out.mono HX.out.size)
          have B5 := B4.trans (((Below.refl _ w4).alloc (Nat.le_refl _) (.cells #[.int .i64 z0, .int .u64 (z1 : Nat), .string z2] 39)).mono B4.size)
          have n5 := CB.new w4 39 #[.int .i64 z0, .int .u64 (z1 : Nat), .string z2]
          have hs5 : w4.heap.size < (w4.alloc (.cells #[.int .i64 z0, .int .u64 (z1 : Nat), .string z2] 39)).heap.size := by simp
          have X5 := Lib.hid (And.intro B5 (And.intro n5 hs5))
          clear B4 B5 n5 hs5 c1 H4
          go_wp2_with fail
          refine (c2.out _ X5.out.1).mono ?_
          rintro e w6 ⟨rfl, H6⟩
          have B6 := X5.out.1.trans (H6.out.mono X5.out.1.size)
          have B7 := Lib.hid (B6.trans (((Below.refl _ w6).alloc (Nat.le_refl _) (.cells #[.int .i64 z0, .int .u64 (z1 : Nat), .string z2] 39)).mono B6.size))
          have n7 := (X5.out.2.1.below H6.out).below ((Below.refl _ w6).alloc (Nat.le_refl _) (.cells #[.int .i64 z0, .int .u64 (z1 : Nat), .string z2] 39))
          have m7 := CB.new w6 39 #[.int .i64 z0, .int .u64 (z1 : Nat), .string z2]
          have q0 := n7.at_ 0
          have q1 := n7.at_ 1
          have q2 := n7.at_ 2
          have p0 := m7.at_ 0
          have p1 := m7.at_ 1
          have p2 := m7.at_ 2
          simp only [List.getElem?_toArray, List.getElem?_cons_zero, List.getElem?_cons_succ] at q0 q1 q2 p0 p1 p2
          have hne : w4.heap.size ≠ w6.heap.size := by
            have := H6.out.size
            have := X5.out.2.2
            omega
          clear B6 n7 m7 H6 X5 c2
          go_wp2
          go_roundw
          case rel => exact ⟨K + 1, by go_num, by omega, by omega, B7⟩
          case measure => simp [intOf]; omega
        · have hlz5 : ¬ (K : Int) ≤ 5 := by omega
          obtain ⟨w5, rfl⟩ : ∃ wx : World, wx = wr := ⟨_, rfl⟩
          have HB5 := Lib.hid (hB.trans (HX.out.mono hB.size))
          have HF5 : Hid (NBlk w5 F (wideN d l)) := CB.below HF1.out HX.out
          have HM5 := Lib.hid (HM.out.below HX.out)
          have HR5 := Lib.hid (HR.out.below HB5.out)
          clear HX HF1 HM HR hB b3 CV1 hcut
          go_wp2_with fail
          go_loopw [19] (fun i wr => ∃ k : Nat, i = .int .i64 k ∧ k ≤ N ∧ ∃ dd, wr = w5.drewN dd) (fun i _ => N - (intOf i).toNat)
          case atStart => exact ⟨0, rfl, Nat.zero_le _, 0, rfl⟩
          case round =>
            obtain ⟨k, rfl, hk, dd, rfl⟩ := hrel
            by_cases hlt3 : k < N
            · have i0 : (0 : Int) ≤ (k : Int) := by omega
              have i1 : (k : Int) < (N : Int) := by omega
              by_cases hkl : k < n
              · obtain ⟨f, hf⟩ : ∃ f, l[k]? = some f := ⟨l[k]'(by rw [HLN.out]; exact hkl), List.getElem?_eq_getElem _⟩
                obtain ⟨g, o, rfl, hgB, c0, c1, c2, c3, c4⟩ := RN.cells HR5.out hf
                obtain ⟨e0, e1, e2, e3, e4⟩ := HF5.out.cells (wideN_low hf)
                have i2 : (k : Int) < (n : Int) := by omega
                have d1 : decide (k < n) = true := by simp; omega
                have d2 : decide ((k : Int) < (n : Int)) = true := by simp; omega
                have d3 : decide (n ≤ k) = false := by simp; omega
                have d4 : decide ((n : Int) ≤ (k : Int)) = false := by simp; omega
                clear hf
                obtain ⟨fo, fn, fm, ft, fa⟩ := f
                dsimp only [placedN] at c0 c1 c2 c3 c4 e0 e1 e2 e3 e4
                go_wp2_with fail
                go_quiet (fail)
                go_wp2_with fail
                go_quiet (fail)
                go_wp2
                go_roundw
                case rel => exact ⟨k + 1, by go_num, by omega, _, rfl⟩
                case measure => simp [intOf]; omega
              · obtain ⟨e0, e1, e2, e3, e4⟩ := HF5.out.cells (wideN_high (d := d) (l := l) (k := k) (by rw [HLN.out]; exact hkl) (by rw [HLN.out]; have := HN.out; omega))
                have m0 : w5.cell? ⟨M, 0, none⟩ = some (.int .i64 77) := CB.at_ HM5.out 0
                have m1 : w5.cell? ⟨M, 1, none⟩ = some (.int .i64 0) := CB.at_ HM5.out 1
                have m2 : w5.cell? ⟨M, 2, none⟩ = some (.int .u64 0) := CB.at_ HM5.out 2
                have m3 : w5.cell? ⟨M, 3, none⟩ = some (.string ⟨#[]⟩) := CB.at_ HM5.out 3
                have m4 : w5.cell? ⟨M, 4, none⟩ = some (.int .i64 0) := CB.at_ HM5.out 4
                have e0' : w5.cell? ⟨F, k * 5, none⟩ = some (.int .i64 77) := e0
                have e1' : w5.cell? ⟨F, k * 5 + 1, none⟩ = some (.int .i64 0) := e1
                have e2' : w5.cell? ⟨F, k * 5 + 2, none⟩ = some (.int .u64 0) := e2
                have e3' : w5.cell? ⟨F, k * 5 + 3, none⟩ = some (.string ⟨#[]⟩) := e3
                have e4' : w5.cell? ⟨F, k * 5 + 4, none⟩ = some (.int .i64 0) := e4
                have d1 : decide (k < n) = false := by simp; omega
                have d2 : decide ((k : Int) < (n : Int)) = false := by simp; omega
                have d3 : decide (n ≤ k) = true := by simp; omega
                have d4 : decide ((n : Int) ≤ (k : Int)) = true := by simp; omega
                clear e0 e1 e2 e3 e4
                go_wp2_with fail
                go_quiet (fail)
                go_wp2_with fail
                go_quiet (fail)
                go_wp2
                go_roundw
                case rel => exact ⟨k + 1, by go_num, by omega, _, rfl⟩
                case measure => simp [intOf]; omega
            · have hlz3 : ¬ (k : Int) < (N : Int) := by omega
              go_wp2
              go_ret
              exact ⟨rfl, HB5.out.trans ((Below.newN w5 dd).mono HB5.out.size)⟩
set_option maxRecDepth 100000 in
set_option maxHeartbeats 8000000 in
theorem places_any {w : World} {A : Option Addr} {c : Nat} {l : List Rn} (hK : KSt w w) (hR : RN w w.heap.size A l) (hF : Few l) (d : Int) :
    Calls Tryd.prog 8 #[.slice A l.length c, .int .i64 d] w fun e w' => e = .returned (.bool true) ∧ Below w.heap.size w w' := by
  by_cases hlen : l.length ≤ 65536
  · exact places_good hK hR hF hlen
  · have CL := Lib.hid (lives_any hK)
    obtain ⟨n, hn⟩ : ∃ n, l.length = n := ⟨_, rfl⟩
    rw [hn] at hlen ⊢
    have hz : (65536 : Int) < (n : Int) := by omega
    clear hK hR hF hn
    go_enter Tryd.func8, Tryd.ntmps8
    go_wp2_with (go_at_call 9; refine CL.out.mono ?_; rintro e w1 ⟨rfl, h1⟩)
    go_ret
    exact ⟨rfl, h1⟩
end Go.Proofs.YtpgljmkemmikhaaDoor
