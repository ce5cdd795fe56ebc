/- Rows of raw nodes of the call's own: a row appended, one appended and the old row kept. No walk here. -/
import Derived.Test.YtdkcnepjjinpdaaDoorPrAw
import Derived.Test.YtdkcnepjjinpdaaDoorPrExp
import Derived.Test.YtdkcnepjjinpdaaDoorParGb
import Derived.Laws.OwnMore
import Derived.ArgAppend
namespace Go.Proofs.YtdkcnepjjinpdaaDoor
open Go.RowKit

/-- append of one struct that was just laid onto a row of the call's own: the old row stays as it was, in place or not -/
theorem own_keep {P : Program} {T : TypeId} {w : World} {base g cap n s b : Nat} {xs : List Value} (ho : w.ownsRow base T s (.slice (some ⟨g, 0, none⟩) n cap) n xs) (hbase : base ≤ w.heap.size)
    (t ty : TypeId) (i : TypeInfo) (z : Value) (ht : P.underlying t = some (.slice T)) (hi : P.info? T = some i) (hz : i.zero = some z) (hs : i.size = s) (hs0 : 0 < s) (hby : i.bytes = b) (hzs : z.cells.size = s)
    (cs : Array Value) (hc : cs.size = s) (h1 : ∀ u ∈ cs.toList, u.oneCell' = true) (hl : (n + 1) * b ≤ 140737488355328) (hn : n + 1 ≤ 9223372036854775807) :
    ∃ g' cap' w', (Builtin.append_ #[t, t] ty #[.slice (some ⟨g, 0, none⟩) n cap, .slice (some ⟨w.heap.size, 0, none⟩) 1 1]).run P (w.alloc (.cells cs T)) = .ok (.slice (some ⟨g', 0, none⟩) (n + 1) cap') w' ∧
      w'.ownsRow base T s (.slice (some ⟨g', 0, none⟩) (n + 1) cap') (n + 1) (xs ++ cs.toList) ∧ w'.ownsRow base T s (.slice (some ⟨g, 0, none⟩) n cap) n xs ∧ w.grownBy w' (some g) := by
  have hlt : g < w.heap.size := (World.ownsRow.lt ho g rfl).2
  have ho2 : (w.alloc (.cells cs T)).ownsRow base T s (.slice (some ⟨g, 0, none⟩) n cap) n xs := ho.alloc _
  have hnews : ∀ j u, cs.toList[j]? = some u → (w.alloc (.cells cs T)).cell? ((⟨w.heap.size, 0, none⟩ : Addr).add j) = some u := World.news_of_block (heap_alloc_new w _)
  obtain ⟨g', cap', w', hr, hown, hgr, hat, _⟩ := run_append_lies (P := P) (w.alloc (.cells cs T)) t ty base T i z s b ht hi hz hs hby hzs hs0 (.slice (some ⟨g, 0, none⟩) n cap) n xs ho2 ⟨w.heap.size, 0, none⟩ 1 1 cs.toList (by simpa using hc) hnews h1 (by decide) (by simp only [maxLen]; omega) hl (by simp; omega) _ rfl
  have hgb : (Value.slice (some ⟨g, 0, none⟩) n cap).ownBlock = some g := rfl
  rw [hgb] at hgr hat
  have hgw : w.grownBy w' (some g) := ⟨hgr.os, hgr.tape, hgr.output, by have := hgr.size; simp at this; omega, fun k hk hne => (hgr.block k (by simp; omega) hne).trans (heap_alloc_old w _ hk)⟩
  refine ⟨g', cap', w', hr, hown, ?_, hgw⟩
  by_cases hroom : n + 1 ≤ cap
  · have hr2 := run_append_room_cells (P := P) (w.alloc (.cells cs T)) t ty T i ht hi g 0 n cap ⟨w.heap.size, 0, none⟩ 1 1 cs.toList (by rw [hs]; simpa using hc) hnews h1 hroom
      (fun j hj => by
        rcases ho2.2 with ⟨h', _⟩ | ⟨g2, cap2, cur, h', _, hg2, hnc, _, hcs, _⟩
        · simp at h'
        · simp only [Value.slice.injEq, Option.some.injEq, Addr.mk.injEq, and_true, true_and] at h'
          obtain ⟨rfl, rfl⟩ := h'
          rw [cell_of_row _ g _ cur T (0, 0) hg2, hs]
          have hj : j < s := by simpa [hc] using hj
          have hm : (n + 1) * s ≤ cap * s := Nat.mul_le_mul_right s hroom
          rw [Nat.add_mul, Nat.one_mul] at hm
          rw [Array.getElem?_eq_getElem (by omega)]; rfl)
      (fun j _ => ho2.frozenAt _)
    rw [hr] at hr2
    injection hr2 with e1 e2
    injection e1 with e1 _ e3
    injection e1 with e1
    injection e1 with e1
    subst e1 e3
    refine ⟨ho.1, .inr ?_⟩
    rcases hown.2 with ⟨h', _⟩ | ⟨g2, cap2, cur, h', hb, hg2, hnc, hcm, hcs, htk⟩
    · simp at h'
    · simp only [Value.slice.injEq, Option.some.injEq, Addr.mk.injEq, and_true, true_and] at h'
      obtain ⟨rfl, rfl⟩ := h'
      refine ⟨_, _, cur, rfl, hb, hg2, by omega, hcm, hcs, ?_⟩
      have hle : n * s ≤ (n + 1) * s := Nat.mul_le_mul_right s (Nat.le_succ n)
      have := congrArg (List.take (n * s)) htk
      rw [List.take_take, Nat.min_eq_left hle, ← ho.1, List.take_left] at this
      rw [← ho.1]
      exact this
  · have hr2 := run_append_grow (P := P) (w.alloc (.cells cs T)) t ty T i z ht hi hz ⟨g, 0, none⟩ n cap xs (by rw [hs]; exact ho.1) (fun j v hv => by
        rw [Addr.add_lit, Nat.zero_add, ho2.cellAt j (by have := (List.getElem?_eq_some_iff.1 hv).1; have := ho.1; omega)]; exact hv)
      ⟨w.heap.size, 0, none⟩ 1 1 cs.toList (by rw [hs]; simpa using hc) hnews (by omega) (by omega) (growslice_fits (by omega) (by rw [hby]; omega))
    rw [hr] at hr2
    injection hr2 with e1 e2
    subst e2
    have hB : Below w.heap.size w ((w.alloc (.cells cs T)).drew) := Below.drew ((Below.refl _ _).alloc (Nat.le_refl _) _)
    have hB2 := hB.alloc hB.size (.cells (xs.toArray ++ cs.toList.toArray ++ Builtin.zeroCells z.cells (grownCap (w.alloc (.cells cs T)) (n + 1) cap T - (n + 1))) T)
    exact ownsRow_keep ho fun k hk => by
      obtain rfl : g = k := Option.some.inj hk
      exact hB2.block g hlt

/-- raw nodes in a row of the call's own -/
def OwnRn (w : World) (B : Nat) (A : Option Addr) (c : Nat) (l : List Rn) : Prop := w.ownsRow B 38 5 (.slice A l.length c) l.length (flatR rnC l)
theorem infoRn : (Tryd.prog.info? 38).map (fun i => (i.zero, i.size, i.bytes)) = some (some (.agg #[.int .i64 0, .int .i64 0, .int .u64 0, .string ⟨#[]⟩, .int .i64 0]), 5, 48) := by kernel_rfl
theorem OwnRn.nil (w : World) (B : Nat) : OwnRn w B none 0 [] := World.ownsRow_nil w B _ 5
theorem OwnRn.rn {w : World} {B c : Nat} {A : Option Addr} {l : List Rn} (h : OwnRn w B A c l) : RN w w.heap.size A l := by
  rcases h.2 with ⟨hv, h0⟩ | ⟨g, cap, cur, hv, hg, hc, rest⟩
  · exact .inl (List.length_eq_zero_iff.1 h0)
  · injection hv with e1 e2 e3
    subst e1
    refine .inr ⟨g, 0, rfl, (Array.getElem?_eq_some_iff.1 hc).1, fun i x hx j v hv => ?_⟩
    have hj : j < 5 := (Array.getElem?_eq_some_iff.1 hv).1
    have hf := flatR_at (f := rnC) (s := 5) (fun _ => rfl) l i x hx j hj
    rw [hv] at hf
    have := World.ownsRow.cells h (g := g) rfl (i * 5 + j) _ hf
    rw [Addr.add_lit, Nat.zero_add] at this
    rw [Nat.zero_add]
    exact this
theorem rnC_one (x : Rn) : ∀ u ∈ (rnC x).toList, u.oneCell' = true := by
  intro u hu
  simp only [rnC, List.mem_cons, List.not_mem_nil, or_false] at hu
  rcases hu with rfl | rfl | rfl | rfl | rfl <;> rfl
theorem flatRn_one (l : List Rn) : ∀ u ∈ flatR rnC l, u.oneCell' = true := by
  intro u hu
  obtain ⟨x, _, hx⟩ := List.mem_flatMap.1 hu
  exact rnC_one x u hx
/-- the cells of raw nodes that stand at an address -/
theorem RN.flat {w : World} {B : Nat} {b o : Nat} {l : List Rn} (h : RN w B (some ⟨b, o, none⟩) l) : ∀ j u, (flatR rnC l)[j]? = some u → w.cell? ((⟨b, o, none⟩ : Addr).add j) = some u := by
  intro j u hu
  have hlen : (flatR rnC l).length = l.length * 5 := flatR_len (f := rnC) (s := 5) (fun _ => rfl) l
  have hj : j < l.length * 5 := by rw [← hlen]; exact (List.getElem?_eq_some_iff.1 hu).1
  have hi : j / 5 < l.length := by omega
  have hx : l[j / 5]? = some l[j / 5] := List.getElem?_eq_getElem hi
  have hf := flatR_at (f := rnC) (s := 5) (fun _ => rfl) l (j / 5) _ hx (j % 5) (by omega)
  rw [show j / 5 * 5 + j % 5 = j by omega, hu] at hf
  obtain ⟨b', o', e, _, hc⟩ := h.at_ hx
  cases e
  have := hc (j % 5) u hf.symm
  rw [Addr.add_lit]
  rwa [show o + j / 5 * 5 + j % 5 = o + j by omega] at this
theorem run_app_rn {w : World} {B B' c cS : Nat} {A S : Option Addr} {l N : List Rn} (h : OwnRn w B A c l) (hS : RN w B' S N) (h0 : N ≠ []) (hl : (l.length + N.length) * 48 ≤ 140737488355328) (hB : B ≤ w.heap.size) :
    ∃ g c' w', (Builtin.append_ #[22, 22] 22 #[.slice A l.length c, .slice S N.length cS]).run Tryd.prog w = .ok (.slice (some ⟨g, 0, none⟩) (l.length + N.length) c') w' ∧
      OwnRn w' B (some ⟨g, 0, none⟩) c' (l ++ N) ∧ w.grownBy w' (obk A) ∧ Below B w w' := by
  obtain ⟨i, hi, hz, hs, hb⟩ := info_three infoRn
  have hpos := List.length_pos_iff.2 h0
  obtain ⟨b, o, rfl, _, _⟩ := hS.at_ (List.getElem?_eq_getElem hpos)
  obtain ⟨g, c', w', hr, hown, hg, hat, hlt⟩ := run_append_lies (P := Tryd.prog) w 22 22 B 38 i _ 5 48 Tryd.underlying22 hi hz hs hb rfl (by decide) _ l.length (flatR rnC l) h ⟨b, o, none⟩ N.length cS (flatR rnC N)
    (flatR_len (f := rnC) (s := 5) (fun _ => rfl) N) (RN.flat hS) (flatRn_one N) hpos (by simp only [maxLen]; omega) hl hB _ rfl
  rw [obk_own] at hg
  refine ⟨g, c', w', hr, ?_, hg, ⟨hg.os, hg.tape, hg.output, hg.size, fun k hk => hg.block k (by omega) fun e => ?_⟩⟩
  · unfold OwnRn
    rw [List.length_append, flatR, List.flatMap_append]
    exact hown
  · have := World.ownsRow.lt h k (by rw [obk_own]; exact e.symm)
    omega
/-- one node more; the old row stays -/
theorem run_app_one {w : World} {B c g : Nat} {l : List Rn} (h : OwnRn w B (some ⟨g, 0, none⟩) c l) (x : Rn) (hl : l.length + 1 ≤ 2932031007402) (hB : B ≤ w.heap.size) :
    ∃ g' c' w', (Builtin.append_ #[22, 22] 22 #[.slice (some ⟨g, 0, none⟩) l.length c, .slice (some ⟨w.heap.size, 0, none⟩) 1 1]).run Tryd.prog (w.alloc (.cells (rnC x) 38)) = .ok (.slice (some ⟨g', 0, none⟩) (l.length + 1) c') w' ∧
      OwnRn w' B (some ⟨g', 0, none⟩) c' (l ++ [x]) ∧ OwnRn w' B (some ⟨g, 0, none⟩) c l ∧ w.grownBy w' (some g) ∧ Below B w w' := by
  obtain ⟨i, hi, hz, hs, hb⟩ := info_three infoRn
  obtain ⟨g', c', w', hr, hown, hold, hg⟩ := own_keep (P := Tryd.prog) h hB 22 22 i _ Tryd.underlying22 hi hz hs (by decide) hb rfl (rnC x) rfl (rnC_one x) (by omega) (by omega)
  refine ⟨g', c', w', hr, ?_, hold, hg, ⟨hg.os, hg.tape, hg.output, hg.size, fun k hk => hg.block k (by omega) fun e => ?_⟩⟩
  · unfold OwnRn
    rw [flatR_snoc, List.length_append]
    exact hown
  · have := World.ownsRow.lt h k (show (Value.slice (some ⟨g, 0, none⟩) l.length c).ownBlock = some k from e.symm)
    omega
end Go.Proofs.YtdkcnepjjinpdaaDoor
/- Plain: expressions out of expressions. No walk here. -/
namespace Go.Proofs.YtdkcnepjjinpdaaDoor
open Go.RowKit

theorem pile_pre (N M : List Rn) : ∀ i, i ≤ N.length → pileP (N ++ M) i = pileP N i
  | 0, _ => rfl
  | i + 1, h => by
    unfold pileP
    rw [pile_pre N M i (by omega), List.getElem?_append_left (by omega)]
def shiftP (n : Nat) (e : Pe) : Pe := ⟨e.r + n, e.fi + n, e.dp, e.tx⟩
theorem bottom_shift (n : Nat) : ∀ (l : List Pe) (i : Nat), bottom (i + n) (l.map (shiftP n)) = bottom i l + n
  | [], _ => rfl
  | e :: l, _ => bottom_shift n l e.fi
theorem over_shift (n i : Nat) (x : Rn) (l : List Pe) : overP (i + n) x (l.map (shiftP n)) = shiftP n (overP i x l) := by
  unfold overP shiftP
  simp only [Pe.mk.injEq, true_and]
  refine ⟨bottom_shift n l i, ?_, ?_⟩
  · unfold deepest
    rw [List.foldl_map]
  · rw [← List.map_reverse, List.map_map]
    rfl
theorem pile_shift {N M : List Rn} {P : List Pe} (hN : pileP N N.length = some P) : ∀ (j : Nat) (Q : List Pe), pileP M j = some Q → pileP (N ++ M) (j + N.length) = some (Q.map (shiftP N.length) ++ P)
  | 0, Q, h => by
    cases h
    rw [Nat.zero_add, pile_pre N M _ (Nat.le_refl _), hN]
    rfl
  | j + 1, Q, h => by
    obtain ⟨Q', x, k, hQ, hx, ha, hk, rfl⟩ := pile_succ h
    have ih := pile_shift hN j Q' hQ
    rw [show j + 1 + N.length = (j + N.length) + 1 by omega]
    unfold pileP
    rw [ih, List.getElem?_append_right (by omega), show j + N.length - N.length = j by omega, hx]
    dsimp only
    unfold pushP
    rw [ha]
    dsimp only
    have hl : (Q'.map (shiftP N.length)).length = Q'.length := List.length_map _
    rw [if_pos (by rw [List.length_append, hl]; omega), List.take_append_of_le_length (by omega), List.drop_append_of_le_length (by omega), ← List.map_take, ← List.map_drop, over_shift]
    rfl
theorem expr_two_of {N M : List Rn} {x : Rn} {e f : Pe} (hN : exprP N = some e) (hM : exprP M = some f) (ha : arity x = some 2) :
    ∃ r, exprP (N ++ M ++ [x]) = some ⟨r, 0, max (max 0 f.dp) e.dp + 1, aheadL x ++ (e.tx ++ (betwL x ++ f.tx)) ++ behL x⟩ := by
  have h1 := expr_some hN
  have h2 := pile_shift h1 _ _ (expr_some hM)
  have hfi := (expr_at hN).2.2
  have hl : (N ++ M).length = M.length + N.length := by rw [List.length_append, Nat.add_comm]
  have h3 : pileP (N ++ M ++ [x]) (M.length + N.length) = some [shiftP N.length f, e] := by
    rw [pile_pre _ _ _ (by omega), h2]
    rfl
  refine ⟨M.length + N.length, ?_⟩
  have h4 : pileP (N ++ M ++ [x]) (N ++ M ++ [x]).length = some [overP (M.length + N.length) x [shiftP N.length f, e]] := by
    rw [show (N ++ M ++ [x]).length = (M.length + N.length) + 1 by simp; omega]
    unfold pileP
    rw [h3, List.getElem?_append_right (by omega), hl, Nat.sub_self]
    dsimp only [List.getElem?_cons_zero]
    unfold pushP
    rw [ha]
    rfl
  unfold exprP
  rw [h4]
  show some (overP _ x [shiftP N.length f, e]) = _
  unfold overP
  simp only [Option.some.injEq, Pe.mk.injEq, true_and]
  refine ⟨hfi, rfl, ?_⟩
  simp [inter, shiftP]
theorem expr_one_of {N : List Rn} {x : Rn} {e : Pe} (hN : exprP N = some e) (ha : arity x = some 1) :
    ∃ r, exprP (N ++ [x]) = some ⟨r, 0, max 0 e.dp + 1, aheadL x ++ e.tx ++ behL x⟩ := by
  have h1 := expr_some hN
  have hfi := (expr_at hN).2.2
  refine ⟨N.length, ?_⟩
  have h4 : pileP (N ++ [x]) (N ++ [x]).length = some [overP N.length x [e]] := by
    rw [show (N ++ [x]).length = N.length + 1 by simp]
    unfold pileP
    rw [pile_pre _ _ _ (Nat.le_refl _), h1, List.getElem?_append_right (Nat.le_refl _), Nat.sub_self]
    dsimp only [List.getElem?_cons_zero]
    unfold pushP
    rw [ha]
    rfl
  unfold exprP
  rw [h4]
  show some (overP _ x [e]) = _
  unfold overP
  simp only [Option.some.injEq, Pe.mk.injEq, true_and]
  refine ⟨hfi, rfl, ?_⟩
  simp [inter]
/-- no more nodes than bytes -/
theorem inter_len (b : List UInt8) : ∀ l : List (List UInt8), (l.map List.length).sum ≤ (inter b l).length
  | [] => Nat.le_refl _
  | k :: r => by
    have h : ∀ r : List (List UInt8), (r.map List.length).sum ≤ (r.flatMap fun x => b ++ x).length := by
      intro r
      induction r with
      | nil => exact Nat.le_refl _
      | cons x r ih =>
        rw [List.map_cons, List.sum_cons, List.flatMap_cons, List.length_append, List.length_append]
        omega
    have := h r
    unfold inter
    rw [List.map_cons, List.sum_cons, List.length_append]
    omega
theorem pile_size {N : List Rn} : ∀ (i : Nat) (P : List Pe), pileP N i = some P → i ≤ (P.map fun e => e.tx.length).sum
  | 0, _, _ => Nat.zero_le _
  | i + 1, Q, h => by
    obtain ⟨P, x, k, hP, hx, ha, hk, rfl⟩ := pile_succ h
    have ih := pile_size i P hP
    have h1 : (P.map fun e => e.tx.length).sum = ((P.take k).map fun e => e.tx.length).sum + ((P.drop k).map fun e => e.tx.length).sum := by
      rw [← List.sum_append, ← List.map_append, List.take_append_drop]
    have h2 := inter_len (betwL x) ((P.take k).reverse.map (·.tx))
    rw [List.map_map, List.map_reverse, List.sum_reverse] at h2
    have h3 : 0 < (aheadL x).length := List.length_pos_iff.2 (head_ne x)
    rw [List.map_cons, List.sum_cons]
    show i + 1 ≤ (aheadL x ++ inter (betwL x) ((P.take k).reverse.map (·.tx)) ++ behL x).length + _
    rw [List.length_append, List.length_append]
    have h2 : ((P.take k).map fun e => e.tx.length).sum ≤ (inter (betwL x) ((P.take k).reverse.map (·.tx))).length := h2
    omega
theorem expr_size {N : List Rn} {e : Pe} (h : exprP N = some e) : N.length ≤ e.tx.length := by
  have := pile_size _ _ (expr_some h)
  simpa using this
theorem val_of {N : List Rn} {e : Pe} (h : exprP N = some e) : valP N = if 100 < e.dp then ([], 91) else if 1048576 < e.tx.length then ([], 2) else (e.tx, 0) := by
  unfold valP
  rw [h]
theorem val_ok {N : List Rn} (h : (valP N).2 = 0) : ∃ e, exprP N = some e ∧ e.dp ≤ 100 ∧ e.tx.length ≤ 1048576 ∧ valP N = (e.tx, 0) := by
  cases he : exprP N with
  | none => unfold valP at h; rw [he] at h; cases h
  | some e =>
    have hv := val_of he
    rw [hv] at h
    refine ⟨e, rfl, ?_⟩
    by_cases h1 : 100 < e.dp
    · rw [if_pos h1] at h; cases h
    · rw [if_neg h1] at h hv
      by_cases h2 : 1048576 < e.tx.length
      · rw [if_pos h2] at h; cases h
      · rw [if_neg h2] at hv
        exact ⟨by omega, by omega, hv⟩
theorem val_err (N : List Rn) : (valP N).2 = 0 ∨ (valP N).1 = [] ∧ ((valP N).2 = 1 ∨ (valP N).2 = 2 ∨ (valP N).2 = 91) := by
  cases he : exprP N with
  | none => right; unfold valP; rw [he]; exact ⟨rfl, .inl rfl⟩
  | some e =>
    rw [val_of he]
    by_cases h1 : 100 < e.dp
    · right; rw [if_pos h1]; exact ⟨rfl, .inr (.inr rfl)⟩
    · rw [if_neg h1]
      by_cases h2 : 1048576 < e.tx.length
      · right; rw [if_pos h2]; exact ⟨rfl, .inr (.inl rfl)⟩
      · left; rw [if_neg h2]
/-- an expression's value, or why it has none -/
theorem val_three {N : List Rn} {e : Pe} (h : exprP N = some e) : valP N = (e.tx, 0) ∨ valP N = ([], 91) ∨ valP N = ([], 2) := by
  rw [val_of h]
  by_cases h1 : 100 < e.dp
  · rw [if_pos h1]; exact .inr (.inl rfl)
  · rw [if_neg h1]
    by_cases h2 : 1048576 < e.tx.length
    · rw [if_pos h2]; exact .inr (.inr rfl)
    · rw [if_neg h2]; exact .inl rfl
end Go.Proofs.YtdkcnepjjinpdaaDoor
/- PrintBuilds: what is appended, and what is answered of it. No walk here. -/
namespace Go.Proofs.YtdkcnepjjinpdaaDoor
open Go.RowKit

theorem run_first {w : World} {B' cS : Nat} {S : Option Addr} {N : List Rn} (hS : RN w B' S N) (h0 : N ≠ []) (hl : N.length ≤ 1048576) :
    ∃ g c' w', (Builtin.append_ #[22, 22] 22 #[.slice none 0 0, .slice S N.length cS]).run Tryd.prog w = .ok (.slice (some ⟨g, 0, none⟩) N.length c') w' ∧ OwnRn w' w.heap.size (some ⟨g, 0, none⟩) c' N ∧ Below w.heap.size w w' := by
  obtain ⟨g, c', w', hr, ho, _, hb⟩ := run_app_rn (OwnRn.nil w w.heap.size) hS h0 (by simp only [List.length_nil]; omega) (Nat.le_refl _) (cS := cS)
  rw [List.nil_append] at ho
  rw [show ([] : List Rn).length + N.length = N.length by simp] at hr
  exact ⟨g, c', w', hr, ho, hb⟩
theorem few_snoc {N : List Rn} {x : Rn} (hN : Few N) (hl : N.length + 1 ≤ 2932031007402) (hx : x.n ≤ 9223372036854775807 ∧ x.num < 18446744073709551616 ∧ x.t.length ≤ 9223372036854775807) : Few (N ++ [x]) := by
  refine ⟨by simp only [List.length_append, List.length_cons, List.length_nil]; omega, fun y hy => ?_, fun y hy => ?_⟩
  · simp only [List.mem_append, List.mem_singleton] at hy
    rcases hy with hy | rfl
    · exact hN.n y hy
    · exact hx.1
  · simp only [List.mem_append, List.mem_singleton] at hy
    rcases hy with hy | rfl
    · exact hN.num y hy
    · exact hx.2
theorem few_both {N M : List Rn} (hN : Few N) (hM : Few M) (hl : N.length + M.length ≤ 2932031007402) : Few (N ++ M) := by
  refine ⟨by rw [List.length_append]; omega, fun y hy => ?_, fun y hy => ?_⟩
  · rcases List.mem_append.1 hy with hy | hy
    · exact hN.n y hy
    · exact hM.n y hy
  · rcases List.mem_append.1 hy with hy | hy
    · exact hN.num y hy
    · exact hM.num y hy
theorem own_cap {w : World} {B c g : Nat} {l : List Rn} (h : OwnRn w B (some ⟨g, 0, none⟩) c l) : l.length ≤ c := by
  rcases h.2 with ⟨hv, _⟩ | ⟨g', cap, cur, hv, _, _, hnc, _⟩
  · cases hv
  · injection hv with _ _ e3
    omega
theorem OwnRn.below {w w' : World} {B c : Nat} {A : Option Addr} {l : List Rn} (h : OwnRn w B A c l) (hb : Below w.heap.size w w') : OwnRn w' B A c l :=
  ownsRow_keep h fun k hk => hb.block k (World.ownsRow.lt h k (by rw [obk_own]; exact hk)).2
/-- one of three answers -/
def Three (s : ByteArray) (v : List UInt8 × Nat) : Prop := v = (ls s, 0) ∨ v = ([], 91) ∨ v = ([], 2)
/-- what stands at the beginning: two rows of nodes that are expressions, their texts -/
structure Two (w1 : World) (A B : Option Addr) (N M : List Rn) (e f : Pe) : Prop where
  ten : Ten w1 w1.heap.size
  a : RN w1 w1.heap.size A N
  b : RN w1 w1.heap.size B M
  fa : Few N
  fb : Few M
  ea : exprP N = some e
  eb : exprP M = some f
  la : e.tx.length ≤ 1048576
  lb : f.tx.length ≤ 1048576
section
variable {w1 : World} {A B : Option Addr} {N M : List Rn} {e f : Pe}
theorem Two.sizes (h : Two w1 A B N M e f) : N ≠ [] ∧ M ≠ [] ∧ N.length ≤ 1048576 ∧ M.length ≤ 1048576 := by
  refine ⟨fun q => ?_, fun q => ?_, Nat.le_trans (expr_size h.ea) h.la, Nat.le_trans (expr_size h.eb) h.lb⟩
  · have := h.ea
    rw [q, expr_nil rfl] at this
    cases this
  · have := h.eb
    rw [q, expr_nil rfl] at this
    cases this
/-- the first row, laid anew -/
theorem Two.first (h : Two w1 A B N M e f) (cA : Nat) {w : World} (hb : Below w1.heap.size w1 w) :
    ∃ g c' w', (Builtin.append_ #[22, 22] 22 #[.slice none 0 0, .slice A N.length cA]).run Tryd.prog w = .ok (.slice (some ⟨g, 0, none⟩) N.length c') w' ∧ OwnRn w' w1.heap.size (some ⟨g, 0, none⟩) c' N ∧ Below w1.heap.size w1 w' := by
  obtain ⟨h1, _, h3, _⟩ := h.sizes
  obtain ⟨g, c', w', hr, ho, hb'⟩ := run_first (cS := cA) (h.a.below hb) h1 h3
  exact ⟨g, c', w', hr, ownsRow_low ho hb.size, hb.trans (hb'.mono hb.size)⟩
/-- the second row behind it -/
theorem Two.second (h : Two w1 A B N M e f) (cB : Nat) {w : World} {g c : Nat} (ho : OwnRn w w1.heap.size (some ⟨g, 0, none⟩) c N) (hb : Below w1.heap.size w1 w) :
    ∃ g' c' w', (Builtin.append_ #[22, 22] 22 #[.slice (some ⟨g, 0, none⟩) N.length c, .slice B M.length cB]).run Tryd.prog w = .ok (.slice (some ⟨g', 0, none⟩) (N.length + M.length) c') w' ∧ OwnRn w' w1.heap.size (some ⟨g', 0, none⟩) c' (N ++ M) ∧ Below w1.heap.size w1 w' := by
  obtain ⟨_, h2, h3, h4⟩ := h.sizes
  obtain ⟨g', c', w', hr, ho', _, hb'⟩ := run_app_rn (cS := cB) ho (h.b.below hb) h2 (by omega) hb.size
  exact ⟨g', c', w', hr, ho', hb.trans hb'⟩
/-- one node more, and what Value answers of it -/
theorem Two.more (h : Two w1 A B N M e f) {L : List Rn} (hL : Few L) (hl : L.length ≤ 2097152) {w : World} {g c : Nat} (ho : OwnRn w w1.heap.size (some ⟨g, 0, none⟩) c L) (hb : Below w1.heap.size w1 w) (op n : Int) (hn : n ≤ 9) {s : ByteArray} (hv : Three s (valP (L ++ [⟨op, n, 0, [], 0⟩]))) :
    ∃ g' c' w', (Builtin.append_ #[22, 22] 22 #[.slice (some ⟨g, 0, none⟩) L.length c, .slice (some ⟨w.heap.size, 0, none⟩) 1 1]).run Tryd.prog (w.alloc (.cells #[.int .i64 op, .int .i64 n, .int .u64 0, .string ⟨#[]⟩, .int .i64 0] 38)) = .ok (.slice (some ⟨g', 0, none⟩) (L.length + 1) c') w' ∧
      Hid (Calls Tryd.prog 9 #[.slice (some ⟨g', 0, none⟩) (L.length + 1) c'] w' fun e w'' => ((e = .returned (.tuple #[.string s, .int .i64 0]) ∨ e = .returned (.tuple #[.string ⟨#[]⟩, .int .i64 91]) ∨ e = .returned (.tuple #[.string ⟨#[]⟩, .int .i64 2])) ∧ (OwnRn w'' w1.heap.size (some ⟨g, 0, none⟩) c L ∧ Below w1.heap.size w1 w''))) := by
  obtain ⟨g', c', w', hr, ho1, ho2, _, hb'⟩ := run_app_one ho ⟨op, n, 0, [], 0⟩ (by omega) hb.size
  refine ⟨g', c', w', hr, ?_⟩
  have hbw : Below w1.heap.size w1 w' := hb.trans hb'
  have := pvalue_any (c := c') ho1.rn ((h.ten.below hbw).more hbw.size) (few_snoc hL (by omega) ⟨by show n ≤ _; omega, by show 0 < 18446744073709551616; decide, by show 0 ≤ 9223372036854775807; decide⟩)
  rw [List.length_append] at this
  refine this.mono ?_
  rintro e w'' ⟨rfl, hb2⟩
  refine ⟨?_, ho2.below hb2, hbw.trans (hb2.mono hbw.size)⟩
  rcases hv with q | q | q
  · rw [q]
    left
    show Ending.returned (.tuple #[.string (str (ls s)), .int .i64 0]) = _
    rw [str_ls]
  · rw [q]
    exact .inr (.inl rfl)
  · rw [q]
    exact .inr (.inr rfl)
end
theorem three_of {L : List Rn} {e : Pe} {s : ByteArray} (h : exprP L = some e) (hs : ls s = e.tx) : Three s (valP L) := by
  unfold Three
  rw [hs]
  exact val_three h
end Go.Proofs.YtdkcnepjjinpdaaDoor
