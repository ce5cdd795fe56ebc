/- Plain: expressions out of expressions. No walk here. -/
import Derived.Test.YtipcgmaobiobbaaGreatDoorPrExp
import Derived.Test.YtipcgmaobiobbaaGreatDoorPrGi
import Derived.Test.YtipcgmaobiobbaaGreatDoorPrGp
import Derived.Test.YtipcgmaobiobbaaGreatDoorPrAw
import Derived.Test.YtipcgmaobiobbaaGreatDoorParGj
namespace Go.Proofs.YtipcgmaobiobbaaGreatDoor
open Go.RowKit

theorem pile_pre (N M : List Rn) : ∀ i, i ≤ N.length → pileP (N ++ M) i = pileP N i
  | 0, _ => rfl
  | i + 1, h => by
    unfold pileP
    rw [pile_pre N M i (by omega), List.getElem?_append_left (by omega)]
def shiftP (n : Nat) (e : Pe) : Pe := ⟨e.r + n, e.fi + n, e.dp, e.tx⟩
theorem bottom_shift (n : Nat) : ∀ (l : List Pe) (i : Nat), bottom (i + n) (l.map (shiftP n)) = bottom i l + n
  | [], _ => rfl
  | e :: l, _ => bottom_shift n l e.fi
theorem over_shift (n i : Nat) (x : Rn) (l : List Pe) : overP (i + n) x (l.map (shiftP n)) = shiftP n (overP i x l) := by
  unfold overP shiftP
  simp only [Pe.mk.injEq, true_and]
  refine ⟨bottom_shift n l i, ?_, ?_⟩
  · unfold deepest
    rw [List.foldl_map]
  · rw [← List.map_reverse, List.map_map]
    rfl
theorem pile_shift {N M : List Rn} {P : List Pe} (hN : pileP N N.length = some P) : ∀ (j : Nat) (Q : List Pe), pileP M j = some Q → pileP (N ++ M) (j + N.length) = some (Q.map (shiftP N.length) ++ P)
  | 0, Q, h => by
    cases h
    rw [Nat.zero_add, pile_pre N M _ (Nat.le_refl _), hN]
    rfl
  | j + 1, Q, h => by
    obtain ⟨Q', x, k, hQ, hx, ha, hk, rfl⟩ := pile_succ h
    have ih := pile_shift hN j Q' hQ
    rw [show j + 1 + N.length = (j + N.length) + 1 by omega]
    unfold pileP
    rw [ih, List.getElem?_append_right (by omega), show j + N.length - N.length = j by omega, hx]
    dsimp only
    unfold pushP
    rw [ha]
    dsimp only
    have hl : (Q'.map (shiftP N.length)).length = Q'.length := List.length_map _
    rw [if_pos (by rw [List.length_append, hl]; omega), List.take_append_of_le_length (by omega), List.drop_append_of_le_length (by omega), ← List.map_take, ← List.map_drop, over_shift]
    rfl
theorem expr_two_of {N M : List Rn} {x : Rn} {e f : Pe} (hN : exprP N = some e) (hM : exprP M = some f) (ha : arity x = some 2) :
    ∃ r, exprP (N ++ M ++ [x]) = some ⟨r, 0, max (max 0 f.dp) e.dp + 1, aheadL x ++ (e.tx ++ (betwL x ++ f.tx)) ++ behL x⟩ := by
  have h1 := expr_some hN
  have h2 := pile_shift h1 _ _ (expr_some hM)
  have hfi := (expr_at hN).2.2
  have hl : (N ++ M).length = M.length + N.length := by rw [List.length_append, Nat.add_comm]
  have h3 : pileP (N ++ M ++ [x]) (M.length + N.length) = some [shiftP N.length f, e] := by
    rw [pile_pre _ _ _ (by omega), h2]
    rfl
  refine ⟨M.length + N.length, ?_⟩
  have h4 : pileP (N ++ M ++ [x]) (N ++ M ++ [x]).length = some [overP (M.length + N.length) x [shiftP N.length f, e]] := by
    rw [show (N ++ M ++ [x]).length = (M.length + N.length) + 1 by simp; omega]
    unfold pileP
    rw [h3, List.getElem?_append_right (by omega), hl, Nat.sub_self]
    dsimp only [List.getElem?_cons_zero]
    unfold pushP
    rw [ha]
    rfl
  unfold exprP
  rw [h4]
  show some (overP _ x [shiftP N.length f, e]) = _
  unfold overP
  simp only [Option.some.injEq, Pe.mk.injEq, true_and]
  refine ⟨hfi, rfl, ?_⟩
  simp [inter, shiftP]
theorem expr_one_of {N : List Rn} {x : Rn} {e : Pe} (hN : exprP N = some e) (ha : arity x = some 1) :
    ∃ r, exprP (N ++ [x]) = some ⟨r, 0, max 0 e.dp + 1, aheadL x ++ e.tx ++ behL x⟩ := by
  have h1 := expr_some hN
  have hfi := (expr_at hN).2.2
  refine ⟨N.length, ?_⟩
  have h4 : pileP (N ++ [x]) (N ++ [x]).length = some [overP N.length x [e]] := by
    rw [show (N ++ [x]).length = N.length + 1 by simp]
    unfold pileP
    rw [pile_pre _ _ _ (Nat.le_refl _), h1, List.getElem?_append_right (Nat.le_refl _), Nat.sub_self]
    dsimp only [List.getElem?_cons_zero]
    unfold pushP
    rw [ha]
    rfl
  unfold exprP
  rw [h4]
  show some (overP _ x [e]) = _
  unfold overP
  simp only [Option.some.injEq, Pe.mk.injEq, true_and]
  refine ⟨hfi, rfl, ?_⟩
  simp [inter]
/-- no more nodes than bytes -/
theorem inter_len (b : List UInt8) : ∀ l : List (List UInt8), (l.map List.length).sum ≤ (inter b l).length
  | [] => Nat.le_refl _
  | k :: r => by
    have h : ∀ r : List (List UInt8), (r.map List.length).sum ≤ (r.flatMap fun x => b ++ x).length := by
      intro r
      induction r with
      | nil => exact Nat.le_refl _
      | cons x r ih =>
        rw [List.map_cons, List.sum_cons, List.flatMap_cons, List.length_append, List.length_append]
        omega
    have := h r
    unfold inter
    rw [List.map_cons, List.sum_cons, List.length_append]
    omega
theorem pile_size {N : List Rn} : ∀ (i : Nat) (P : List Pe), pileP N i = some P → i ≤ (P.map fun e => e.tx.length).sum
  | 0, _, _ => Nat.zero_le _
  | i + 1, Q, h => by
    obtain ⟨P, x, k, hP, hx, ha, hk, rfl⟩ := pile_succ h
    have ih := pile_size i P hP
    have h1 : (P.map fun e => e.tx.length).sum = ((P.take k).map fun e => e.tx.length).sum + ((P.drop k).map fun e => e.tx.length).sum := by
      rw [← List.sum_append, ← List.map_append, List.take_append_drop]
    have h2 := inter_len (betwL x) ((P.take k).reverse.map (·.tx))
    rw [List.map_map, List.map_reverse, List.sum_reverse] at h2
    have h3 : 0 < (aheadL x).length := List.length_pos_iff.2 (head_ne x)
    rw [List.map_cons, List.sum_cons]
    show i + 1 ≤ (aheadL x ++ inter (betwL x) ((P.take k).reverse.map (·.tx)) ++ behL x).length + _
    rw [List.length_append, List.length_append]
    have h2 : ((P.take k).map fun e => e.tx.length).sum ≤ (inter (betwL x) ((P.take k).reverse.map (·.tx))).length := h2
    omega
theorem expr_size {N : List Rn} {e : Pe} (h : exprP N = some e) : N.length ≤ e.tx.length := by
  have := pile_size _ _ (expr_some h)
  simpa using this
theorem val_of {N : List Rn} {e : Pe} (h : exprP N = some e) : valP N = if 100 < e.dp then ([], 91) else if 1048576 < e.tx.length then ([], 2) else (e.tx, 0) := by
  unfold valP
  rw [h]
theorem val_ok {N : List Rn} (h : (valP N).2 = 0) : ∃ e, exprP N = some e ∧ e.dp ≤ 100 ∧ e.tx.length ≤ 1048576 ∧ valP N = (e.tx, 0) := by
  cases he : exprP N with
  | none => unfold valP at h; rw [he] at h; cases h
  | some e =>
    have hv := val_of he
    rw [hv] at h
    refine ⟨e, rfl, ?_⟩
    by_cases h1 : 100 < e.dp
    · rw [if_pos h1] at h; cases h
    · rw [if_neg h1] at h hv
      by_cases h2 : 1048576 < e.tx.length
      · rw [if_pos h2] at h; cases h
      · rw [if_neg h2] at hv
        exact ⟨by omega, by omega, hv⟩
theorem val_err (N : List Rn) : (valP N).2 = 0 ∨ (valP N).1 = [] ∧ ((valP N).2 = 1 ∨ (valP N).2 = 2 ∨ (valP N).2 = 91) := by
  cases he : exprP N with
  | none => right; unfold valP; rw [he]; exact ⟨rfl, .inl rfl⟩
  | some e =>
    rw [val_of he]
    by_cases h1 : 100 < e.dp
    · right; rw [if_pos h1]; exact ⟨rfl, .inr (.inr rfl)⟩
    · rw [if_neg h1]
      by_cases h2 : 1048576 < e.tx.length
      · right; rw [if_pos h2]; exact ⟨rfl, .inr (.inl rfl)⟩
      · left; rw [if_neg h2]
/-- an expression's value, or why it has none -/
theorem val_three {N : List Rn} {e : Pe} (h : exprP N = some e) : valP N = (e.tx, 0) ∨ valP N = ([], 91) ∨ valP N = ([], 2) := by
  rw [val_of h]
  by_cases h1 : 100 < e.dp
  · rw [if_pos h1]; exact .inr (.inl rfl)
  · rw [if_neg h1]
    by_cases h2 : 1048576 < e.tx.length
    · rw [if_pos h2]; exact .inr (.inr rfl)
    · rw [if_neg h2]; exact .inl rfl
end Go.Proofs.YtipcgmaobiobbaaGreatDoor
/- What layer 9 answers, as what layer 10 takes; what is printed, read. No walk here. -/
namespace Go.Proofs.YtipcgmaobiobbaaGreatDoor
open Go.RowKit

def toRn (y : Nd) : Rn := ⟨(y.op : Nat), (y.n : Nat), y.num, y.t, (y.a : Nat)⟩
def toRs (d : St) : Rs := ⟨(d.k : Nat), d.a, d.b, d.c, d.sep, d.ty, d.v.map toRn, (d.at_ : Nat)⟩
def toRv (d : Ve) : Rv := ⟨d.num, d.st.map toRs, (d.at_ : Nat)⟩
def toRe (d : Ev) : Re := ⟨d.name, d.vs.map toRv, (d.at_ : Nat)⟩
theorem alike_n {x : Rn} {y : Nd} (h : AlikeN x y) : EqN x (toRn y) := ⟨h.op.symm, h.n.symm, h.num.symm, h.t.symm⟩
theorem Rel2.to {α β γ : Type} {r : α → β → Prop} {q : α → γ → Prop} {f : β → γ} (k : ∀ x y, r x y → q x (f y)) : ∀ {l : List α} {m : List β}, Rel2 r l m → Rel2 q l (m.map f)
  | [], [], _ => .nil
  | [], _ :: _, h => by cases h
  | _ :: _, [], h => by cases h
  | _ :: _, _ :: _, .cons h t => .cons (k _ _ h) (Rel2.to k t)
theorem alike_s {x : Rs} {y : St} (h : SAlike x y) : EqS x (toRs y) := ⟨h.k.symm, h.a.symm, h.b.symm, h.c.symm, h.sep.symm, h.ty.symm, h.v.to fun _ _ q => alike_n q⟩
theorem alike_v {x : Rv} {y : Ve} (h : VAlike x y) : EqV x (toRv y) := ⟨h.num.symm, h.st.to fun _ _ q => alike_s q⟩
theorem alike_e {x : Re} {y : Ev} (h : EAlike x y) : EqE x (toRe y) := ⟨h.name.symm, h.vs.to fun _ _ q => alike_v q⟩

def LSt.m (x : LSt) : Ms := ⟨toRs x.s, x.A, x.c⟩
def LVe.m (x : LVe) : Mv := ⟨x.num, x.st.map LSt.m, x.A, x.c, (x.at_ : Nat)⟩
def LEv.m (x : LEv) : Me := ⟨x.name, x.vs.map LVe.m, x.A, x.c, (x.at_ : Nat)⟩
theorem lst_C (x : LSt) : (LSt.m x).C = x.C := by
  unfold LSt.m Ms.C LSt.C stC toRs
  simp
theorem lve_C (x : LVe) : (LVe.m x).C = x.C := by
  unfold LVe.m Mv.C LVe.C veC
  simp
theorem lev_C (x : LEv) : (LEv.m x).C = x.C := by
  unfold LEv.m Me.C LEv.C evC
  simp
theorem lve_v (x : LVe) : (LVe.m x).v = toRv x.ve := by
  unfold LVe.m Mv.v toRv LVe.ve
  simp only [List.map_map]
  rfl
theorem lev_e (x : LEv) : (LEv.m x).e = toRe x.ev := by
  unfold LEv.m Me.e toRe LEv.ev
  simp only [List.map_map, Re.mk.injEq, true_and, and_true]
  exact List.map_congr_left fun v _ => lve_v v
theorem map_lev (es : List LEv) : (es.map LEv.m).map Me.e = (es.map (·.ev)).map toRe := by
  rw [List.map_map, List.map_map]
  exact List.map_congr_left fun x _ => lev_e x
/-- rows of the call's own, as rows of raw things -/
theorem rows_map {α β : Type} {f : α → Array Value} {g : β → Array Value} {s : Nat} {h : α → β} (hg : ∀ x, g (h x) = f x) (hs : ∀ x, (f x).size = s) {w : World} {B : Nat} {T : TypeId} {A : Option Addr} {c : Nat} {l : List α} (ho : w.ownsRow B T s (.slice A l.length c) l.length (flatR f l)) :
    Rows g s w w.heap.size A (l.map h) := by
  rcases ho.2 with ⟨hv, h0⟩ | ⟨b, cap, cur, hv, _, hc, rest⟩
  · rw [List.length_eq_zero_iff.1 h0]
    exact .inl rfl
  · injection hv with e1 e2 e3
    subst e1
    refine .inr ⟨b, 0, rfl, (Array.getElem?_eq_some_iff.1 hc).1, fun i y hy j v hv => ?_⟩
    rw [List.getElem?_map, Option.map_eq_some_iff] at hy
    obtain ⟨x, hx, rfl⟩ := hy
    rw [hg] at hv
    have hj : j < s := by rw [← hs x]; exact (Array.getElem?_eq_some_iff.1 hv).1
    have hf := flatR_at hs l i x hx j hj
    rw [hv] at hf
    have := World.ownsRow.cells ho (g := b) rfl (i * s + j) _ hf
    rw [Addr.add_lit, Nat.zero_add] at this
    rw [Nat.zero_add]
    exact this
/-- what layer 9 answered is of a size that layer 10 takes: as large as something that came in -/
structure Like (l : List Me) (d : List Ev) : Prop where
  rel : Rel2 EqE (l.map Me.e) (d.map toRe)
theorem few_like {N M : List Rn} (h : Rel2 EqN N M) (hN : Few N) : Few M := by
  refine ⟨by rw [h.len]; exact hN.few, fun y hy => ?_, fun y hy => ?_⟩
  · obtain ⟨i, hi⟩ := List.mem_iff_getElem?.1 hy
    rcases h.get i with ⟨_, h2⟩ | ⟨x, y', h1, h2, h3⟩
    · rw [hi] at h2; cases h2
    · rw [hi] at h2
      cases h2
      rw [h3.n]
      exact hN.n x (List.mem_of_getElem? h1)
  · obtain ⟨i, hi⟩ := List.mem_iff_getElem?.1 hy
    rcases h.get i with ⟨_, h2⟩ | ⟨x, y', h1, h2, h3⟩
    · rw [hi] at h2; cases h2
    · rw [hi] at h2
      cases h2
      rw [h3.num, h3.t]
      exact hN.num x (List.mem_of_getElem? h1)
theorem lts_like {s s' : Rs} (h : EqS s s') (hs : Lts s) : Lts s' := ⟨by rw [h.a]; exact hs.a, by rw [h.b]; exact hs.b, by rw [h.c]; exact hs.c, by rw [h.sep]; exact hs.sep, by rw [h.ty]; exact hs.ty, few_like h.v hs.few⟩
/-- sizes, plainly -/
structure Zv (v : Rv) : Prop where
  each : ∀ s ∈ v.st, Lts s
  num : v.num < 18446744073709551616
  len : v.st.length ≤ 140737488355328
structure Ze (e : Re) : Prop where
  each : ∀ v ∈ e.vs, Zv v
  name : e.name.length ≤ 140737488355328
  len : e.vs.length ≤ 140737488355328
structure Zt (l : List Re) : Prop where
  each : ∀ e ∈ l, Ze e
  len : l.length ≤ 140737488355328
theorem MvAt.z {w : World} {B : Nat} {m : Mv} (h : MvAt w B m) : Zv m.v := ⟨fun s hs => by
  obtain ⟨x, hx, rfl⟩ := List.mem_map.1 hs
  exact (h.each x hx).lt, h.num, by show (m.st.map Ms.s).length ≤ _; rw [List.length_map]; exact h.len⟩
theorem MeAt.z {w : World} {B : Nat} {m : Me} (h : MeAt w B m) : Ze m.e := ⟨fun v hv => by
  obtain ⟨x, hx, rfl⟩ := List.mem_map.1 hv
  exact (h.each x hx).z, h.name, by show (m.vs.map Mv.v).length ≤ _; rw [List.length_map]; exact h.len⟩
theorem MtAt.z {w : World} {B : Nat} {A : Option Addr} {l : List Me} (h : MtAt w B A l) : Zt (l.map Me.e) := ⟨fun e he => by
  obtain ⟨x, hx, rfl⟩ := List.mem_map.1 he
  exact (h.each x hx).z, by rw [List.length_map]; exact h.len⟩
theorem Rel2.back {α β : Type} {r : α → β → Prop} {l : List α} {m : List β} (h : Rel2 r l m) {y : β} (hy : y ∈ m) : ∃ x ∈ l, r x y := by
  obtain ⟨i, hi⟩ := List.mem_iff_getElem?.1 hy
  rcases h.get i with ⟨_, h2⟩ | ⟨x, y', h1, h2, h3⟩
  · rw [hi] at h2; cases h2
  · rw [hi] at h2
    cases h2
    exact ⟨x, List.mem_of_getElem? h1, h3⟩
theorem Zv.like {v v' : Rv} (h : Zv v) (q : EqV v v') : Zv v' := ⟨fun s hs => by
  obtain ⟨x, hx, hr⟩ := q.st.back hs
  exact lts_like hr (h.each x hx), by rw [q.num]; exact h.num, by rw [q.st.len]; exact h.len⟩
theorem Ze.like {e e' : Re} (h : Ze e) (q : EqE e e') : Ze e' := ⟨fun s hs => by
  obtain ⟨x, hx, hr⟩ := q.vs.back hs
  exact (h.each x hx).like hr, by rw [q.name]; exact h.name, by rw [q.vs.len]; exact h.len⟩
theorem Zt.like {l m : List Re} (h : Zt l) (q : Rel2 EqE l m) : Zt m := ⟨fun s hs => by
  obtain ⟨x, hx, hr⟩ := q.back hs
  exact (h.each x hx).like hr, by rw [q.len]; exact h.len⟩
/-- the tree that layer 9 answered, in memory, as layer 10 takes it -/
theorem mt_built {w : World} {B : Nat} {A : Option Addr} {c : Nat} {es : List LEv} (h : Built EvLev w B A c es) (hz : Zt ((es.map (·.ev)).map toRe)) : MtAt w w.heap.size A (es.map LEv.m) := by
  refine ⟨rows_map lev_C (fun _ => rfl) h.own, fun m hm => ?_, by have := hz.len; simpa using this⟩
  obtain ⟨x, hx, rfl⟩ := List.mem_map.1 hm
  have hb : Built VeLev w B x.A x.c x.vs := h.each x hx
  have hze : Ze (toRe x.ev) := hz.each _ (List.mem_map.2 ⟨x.ev, List.mem_map.2 ⟨x, hx, rfl⟩, rfl⟩)
  refine ⟨rows_map lve_C (fun _ => rfl) hb.own, fun v hv => ?_, hze.name, ?_⟩
  · obtain ⟨y, hy, rfl⟩ := List.mem_map.1 hv
    have hb2 : Built StLev w B y.A y.c y.st := hb.each y hy
    have hzv : Zv (toRv y.ve) := hze.each _ (List.mem_map.2 ⟨y.ve, List.mem_map.2 ⟨y, hy, rfl⟩, rfl⟩)
    refine ⟨rows_map lst_C (fun _ => rfl) hb2.own, fun s hs => ?_, hzv.num, ?_⟩
    · obtain ⟨u, hu, rfl⟩ := List.mem_map.1 hs
      have ho : OwnN w B u.A u.c u.s.v := hb2.each u hu
      refine ⟨rows_map (f := ndC) (g := rnC) (h := toRn) (fun _ => rfl) (fun _ => rfl) ho, ?_⟩
      exact hzv.each (toRs u.s) (List.mem_map.2 ⟨u.s, List.mem_map.2 ⟨u, hu, rfl⟩, rfl⟩)
    · have := hzv.len
      show (y.st.map LSt.m).length ≤ _
      simpa [toRv, LVe.ve] using this
  · have := hze.len
    show (x.vs.map LVe.m).length ≤ _
    simpa [toRe, LEv.ev] using this
/-- texts of up to 2^20 bytes: schemaL and valueL -/
theorem schS_eq {l : List UInt8} (h : l.length ≤ 1048576) : schS (str l) = schemaL l := by
  unfold schS schemaL lexS
  rw [str_size, if_neg (by omega), ls_str]
  cases lexL l 0 with
  | bad a e => rfl
  | ok T => rfl
theorem valS_eq {l : List UInt8} (h : l.length ≤ 1048576) : valS (str l) = valueL l := by
  unfold valS valueL lexS
  rw [str_size, if_neg (by omega), ls_str]
  cases lexL l 0 with
  | bad a e => rfl
  | ok T => rfl
/-- what is printed of a tree is read back to it -/
theorem sch_round {l : List Re} (hz : Zt l) (h : okT l = true) (hd : l.any deepE = false) (hl : (ptT l).length ≤ 1048576) : ∃ d, schS (str (ptT l)) = .ok d ∧ Rel2 EqE l (d.map toRe) := by
  obtain ⟨d, h1, h2⟩ := sch_back (l := l) fun e he => ev_fit (List.all_eq_true.1 h e he) (by simpa using List.any_eq_false.1 hd e he) fun v hv => ⟨((hz.each e he).each v hv).num, fun s hs y hy => (((((hz.each e he).each v hv).each s hs).few).num y hy).1⟩
  exact ⟨d, by rw [schS_eq hl, h1], h2.to fun _ _ q => alike_e q⟩
theorem val_round {N : List Rn} (hN : Few N) {e : Pe} (h : exprP N = some e) (hd : e.dp ≤ 100) (hl : e.tx.length ≤ 1048576) : ∃ d, valS (str e.tx) = .ok d ∧ Rel2 EqN N (d.map toRn) := by
  obtain ⟨d, h1, h2⟩ := val_back (fun y hy => (hN.num y hy).1) h hd
  exact ⟨d, by rw [valS_eq hl, h1], h2.to fun _ _ q => alike_n q⟩
end Go.Proofs.YtipcgmaobiobbaaGreatDoor
/- The walk of PrintBack (gen_back.py). -/
namespace Go.Proofs.YtipcgmaobiobbaaGreatDoor
open Go.RowKit

/-- Schema of a tree that can be printed, read, printed and set beside it -/
def SchOk (W : World) (A : Option Addr) (n c : Nat) (S : ByteArray) (w2 : World) : Prop :=
  Hid (Calls Tryz.prog 7 #[.string S] w2 fun e w3 => ∃ As cs, e = .returned (.tuple #[.agg #[.slice As n cs], .int .i64 0, .int .i64 0]) ∧
    Hid (Calls Tryz.prog 6 #[.agg #[.slice As n cs]] (w3.alloc (.cells #[.slice As n cs] 24)) fun e w4 => e = .returned (.tuple #[.string S, .int .i64 0]) ∧ (w4.cell? ⟨W.heap.size, 0, none⟩ = some (.slice A n c) ∧ w4.cell? ⟨w3.heap.size, 0, none⟩ = some (.slice As n cs)) ∧
      Hid (Calls Tryz.prog 8 #[.agg #[.slice A n c], .agg #[.slice As n cs]] w4 fun e w5 => e = .returned (.bool true) ∧ Hid (Below W.heap.size W w5))))
theorem sch_ok {W w2 : World} {A : Option Addr} {c : Nat} {l : List Me} (hEV : EV W) (hT : Ten W W.heap.size) (h : MtAt W W.heap.size A l) (hb : Below W.heap.size W w2) (hc : CB w2 W.heap.size 24 #[.slice A l.length c])
    (h1 : okT (l.map Me.e) = true) (h2 : (l.map Me.e).any deepE = false) (h3 : (ptT (l.map Me.e)).length ≤ 1048576) (hv : schP (l.map Me.e) = (ptT (l.map Me.e), 0)) : SchOk W A l.length c (str (ptT (l.map Me.e))) w2 := by
  unfold SchOk
  obtain ⟨d, hd, hr⟩ := sch_round h.z h1 h2 h3
  have := cschema_any w2 (str (ptT (l.map Me.e))) (hEV.below hb)
  refine Calls.mono this ?_
  rintro e w3 ⟨As, cs, es, rfl, hb3, hB, he⟩
  rw [hd] at he
  have he : es.map (·.ev) = d := he
  rw [hd]
  have hr2 : Rel2 EqE (l.map Me.e) ((es.map LEv.m).map Me.e) := by rw [map_lev, he]; exact hr
  have hlen : es.length = l.length := by have := hr2.len; simpa using this
  refine ⟨As, cs, by rw [hlen]; rfl, ?_⟩
  have hbw : Below W.heap.size W w3 := hb.trans (hb3.mono hb.size)
  have hmt : MtAt w3 w3.heap.size As (es.map LEv.m) := mt_built hB (by rw [← map_lev]; exact h.z.like hr2)
  have ba : Below w3.heap.size w3 (w3.alloc (.cells #[.slice As l.length cs] 24)) := (Below.refl _ _).alloc (Nat.le_refl _) _
  have hbw4 := hbw.trans (ba.mono hbw.size)
  have q := pschema_any (c := cs) ((hmt.below ba).more ba.size) ((hT.below hbw4).more hbw4.size)
  rw [List.length_map, hlen] at q
  refine Calls.mono q ?_
  rintro e w4 ⟨rfl, hb4⟩
  rw [sch_eq hr2, hv]
  have b34 : Below w3.heap.size w3 w4 := ba.trans (hb4.mono ba.size)
  have hbw5 : Below W.heap.size W w4 := hbw.trans (b34.mono hbw.size)
  have hc4 : CB w4 W.heap.size 24 #[.slice A l.length c] := (hc.below hb3).below b34
  refine ⟨rfl, ⟨hc4.at_ 0, ((CB.new w3 24 #[.slice As l.length cs]).below hb4).at_ 0⟩, ?_⟩
  have t := ptrees_any (c := c) (c' := cs) (h.below hbw5) (hmt.below b34) hbw5.size b34.size hr2.unmap
  rw [List.length_map, hlen] at t
  refine Calls.mono t ?_
  rintro e w5 ⟨rfl, hb5⟩
  exact ⟨rfl, hbw5.trans (hb5.mono hbw5.size)⟩
/-- the same of an expression -/
def ValOk (W : World) (B : Option Addr) (n c : Nat) (S : ByteArray) (w6 : World) : Prop :=
  Hid (Calls Tryz.prog 10 #[.string S] w6 fun e w7 => ∃ An cn, e = .returned (.tuple #[.slice An n cn, .int .i64 0, .int .i64 0]) ∧
    Hid (Calls Tryz.prog 9 #[.slice An n cn] w7 fun e w8 => e = .returned (.tuple #[.string S, .int .i64 0]) ∧
      Hid (Calls Tryz.prog 11 #[.slice B n c, .slice An n cn] w8 fun e w9 => e = .returned (.bool true) ∧ Hid (Below W.heap.size W w9))))
theorem rn_own {w : World} {B : Nat} {A : Option Addr} {c : Nat} {l : List Nd} (h : OwnN w B A c l) : RN w w.heap.size A (l.map toRn) := rows_map (f := ndC) (g := rnC) (h := toRn) (fun _ => rfl) (fun _ => rfl) h
theorem val_rt {W w6 : World} {B : Option Addr} {c : Nat} {N : List Rn} {e0 : Pe} (hEV : EV W) (hT : Ten W W.heap.size) (h : RN W W.heap.size B N) (hF : Few N) (hb : Below W.heap.size W w6)
    (h1 : exprP N = some e0) (h2 : e0.dp ≤ 100) (h3 : e0.tx.length ≤ 1048576) (hv : valP N = (e0.tx, 0)) : ValOk W B N.length c (str e0.tx) w6 := by
  unfold ValOk
  obtain ⟨d, hd, hr⟩ := val_round hF h1 h2 h3
  have := cvalue_any w6 (str e0.tx) (hEV.below hb)
  refine Calls.mono this ?_
  rintro e w7 ⟨An, cn, rfl, hb7, ho⟩
  rw [hd] at ho ⊢
  have ho : OwnN w7 w6.heap.size An cn d := ho
  have hlen : d.length = N.length := by have := hr.len; simpa using this
  refine ⟨An, cn, by show Ending.returned (.tuple #[.slice An d.length cn, _, _]) = _; rw [hlen]; rfl, ?_⟩
  have hbw : Below W.heap.size W w7 := hb.trans (hb7.mono hb.size)
  have hrn := rn_own ho
  have q := pvalue_any (c := cn) hrn ((hT.below hbw).more hbw.size) (few_like hr hF)
  rw [List.length_map, hlen] at q
  refine Calls.mono q ?_
  rintro e w8 ⟨rfl, hb8⟩
  rw [val_eq hr, hv]
  have hbw8 : Below W.heap.size W w8 := hbw.trans (hb8.mono hbw.size)
  refine ⟨rfl, ?_⟩
  have t := pnodes_any (c := c) (c' := cn) (h.below hbw8) (hrn.below hb8) hbw8.size hb8.size hr (by have := hF.few; omega)
  rw [List.length_map, hlen] at t
  refine Calls.mono t ?_
  rintro e w9 ⟨rfl, hb9⟩
  exact ⟨rfl, hbw8.trans (hb9.mono hbw8.size)⟩

set_option maxRecDepth 100000 in
set_option maxHeartbeats 16000000 in
theorem back_any {W : World} (hEV : EV W) (hT : Ten W W.heap.size) {A B : Option Addr} {c cB : Nat} {l : List Me} {N : List Rn} (h : MtAt W W.heap.size A l) (hN : RN W W.heap.size B N) (hF : Few N) :
    Calls Tryz.prog 3 #[.agg #[.slice A l.length c], .slice B N.length cB] W fun e w' => e = .returned (.bool true) ∧ Below W.heap.size W w' := by
  obtain ⟨w1, hw1⟩ : ∃ w1, W.alloc (.cells #[.slice A l.length c] 24) = w1 := ⟨_, rfl⟩
  have b1 : Below W.heap.size W w1 := by rw [← hw1]; exact (Below.refl _ W).alloc (Nat.le_refl _) _
  have k1 : CB w1 W.heap.size 24 #[.slice A l.length c] := by rw [← hw1]; exact CB.new W _ _
  have ca := pawake_any w1 ((hT.below b1).more b1.size)
  have CA : Hid (∀ w2, Below w1.heap.size w1 w2 → Calls Tryz.prog 6 #[.agg #[.slice A l.length c]] w2 fun e w3 => e = .returned (.tuple #[.string (str (schP (l.map Me.e)).1), .int .i64 ((schP (l.map Me.e)).2 : Nat)]) ∧ w2.cell? ⟨W.heap.size, 0, none⟩ = some (.slice A l.length c) ∧ w3.cell? ⟨W.heap.size, 0, none⟩ = some (.slice A l.length c) ∧ Hid (Below W.heap.size W w3 ∧ CB w3 W.heap.size 24 #[.slice A l.length c])) := by
    intro w2 hb
    have hb2 : Below W.heap.size W w2 := b1.trans (hb.mono b1.size)
    refine (pschema_any (c := c) ((h.below hb2).more hb2.size) ((hT.below hb2).more hb2.size)).mono ?_
    rintro e w3 ⟨rfl, hb3⟩
    exact ⟨rfl, (k1.below hb).at_ 0, ((k1.below hb).below hb3).at_ 0, hb2.trans (hb3.mono hb2.size), (k1.below hb).below hb3⟩
  have LD : Hid (∀ w2, Below w1.heap.size w1 w2 → w2.cell? ⟨W.heap.size, 0, none⟩ = some (.slice A l.length c)) := fun w2 hb => (k1.below hb).at_ 0
  have CV : Hid (∀ w5, Below W.heap.size W w5 → Calls Tryz.prog 9 #[.slice B N.length cB] w5 fun e w6 => e = .returned (.tuple #[.string (str (valP N).1), .int .i64 ((valP N).2 : Nat)]) ∧ Hid (Below W.heap.size W w6)) := by
    intro w5 hb
    refine (pvalue_any (c := cB) ((hN.below hb).more hb.size) ((hT.below hb).more hb.size) hF).mono ?_
    rintro e w6 ⟨rfl, hb6⟩
    exact ⟨rfl, hb.trans (hb6.mono hb.size)⟩
  rcases sch_err (l.map Me.e) with ⟨hv, o1, o2, o3⟩ | hse
  · have SK : Hid (∀ w3, Below W.heap.size W w3 ∧ CB w3 W.heap.size 24 #[.slice A l.length c] → SchOk W A l.length c (str (ptT (l.map Me.e))) w3) := fun w3 hw => sch_ok hEV hT h hw.1 hw.2 o1 o2 o3 hv
    rw [hv] at CA
    obtain ⟨S, hS⟩ : ∃ S, str (ptT (l.map Me.e)) = S := ⟨_, rfl⟩
    have CA : Hid (∀ w2, Below w1.heap.size w1 w2 → Calls Tryz.prog 6 #[.agg #[.slice A l.length c]] w2 fun e w3 => e = .returned (.tuple #[.string S, .int .i64 0]) ∧ w2.cell? ⟨W.heap.size, 0, none⟩ = some (.slice A l.length c) ∧ w3.cell? ⟨W.heap.size, 0, none⟩ = some (.slice A l.length c) ∧ Hid (Below W.heap.size W w3 ∧ CB w3 W.heap.size 24 #[.slice A l.length c])) := by rw [← hS]; exact CA
    rw [hS] at SK
    obtain ⟨n, hn⟩ : ∃ n, l.length = n := ⟨_, rfl⟩
    rw [hn] at CA SK hw1 LD
    rcases val_err N with hv0 | ⟨hv0, hvk⟩
    · obtain ⟨e0, x1, x2, x3, x4⟩ := val_ok hv0
      have VK : Hid (∀ w6, Below W.heap.size W w6 → ValOk W B N.length cB (str e0.tx) w6) := fun w6 hw => val_rt hEV hT hN hF hw x1 x2 x3 x4
      rw [x4] at CV
      obtain ⟨V, hV⟩ : ∃ V, str e0.tx = V := ⟨_, rfl⟩
      have CV : Hid (∀ w5, Below W.heap.size W w5 → Calls Tryz.prog 9 #[.slice B N.length cB] w5 fun e w6 => e = .returned (.tuple #[.string V, .int .i64 0]) ∧ Hid (Below W.heap.size W w6)) := by rw [← hV]; exact CV
      rw [hV] at VK
      obtain ⟨m, hm⟩ : ∃ m, N.length = m := ⟨_, rfl⟩
      rw [hm] at CV VK
      rw [hn, hm]
      clear h hN hF hT hEV k1 b1 hn hm hv o1 o2 o3 hS x1 x2 x3 x4 hV hv0
      go_enter Tryz.func3, Tryz.ntmps3
      go_wp2_with (first
        | (go_at_call 5; (with_reducible refine ca.mono ?_); rintro e w2 ⟨rfl, hb2⟩; have cs := CA.out w2 hb2; have l0 := LD.out w2 hb2)
        | (go_at_call 6; (with_reducible refine cs.mono ?_); rintro e w3 ⟨rfl, -, l1, H3⟩; have cp := SK.out w3 H3.out; unfold SchOk at cp; clear cs)
        | (go_at_call 7; (with_reducible refine cp.out.mono ?_); rintro e w4 ⟨As, cs4, rfl, CQ⟩)
        | (go_at_call 6; (with_reducible refine CQ.out.mono ?_); rintro e w5 ⟨rfl, ⟨m1, m2⟩, CT⟩)
        | (go_at_call 8; (with_reducible refine CT.out.mono ?_); rintro e w6 ⟨rfl, HS⟩; have cv := CV.out w6 HS.out)
        | (go_at_call 9; (with_reducible refine cv.mono ?_); rintro e w7 ⟨rfl, H7⟩; have cx := VK.out w7 H7.out; unfold ValOk at cx; clear cv)
        | (go_at_call 10; (with_reducible refine cx.out.mono ?_); rintro e w8 ⟨An, cn, rfl, CY⟩)
        | (go_at_call 9; (with_reducible refine CY.out.mono ?_); rintro e w9 ⟨rfl, CZ⟩)
        | (go_at_call 11; (with_reducible refine CZ.out.mono ?_); rintro e w10 ⟨rfl, H9⟩))
      go_ret
      exact ⟨rfl, H9.out⟩
    · obtain ⟨kv, hkv⟩ : ∃ kv : Int, ((valP N).2 : Nat) = kv := ⟨_, rfl⟩
      rw [hv0, hkv] at CV
      have CV : Hid (∀ w5, Below W.heap.size W w5 → Calls Tryz.prog 9 #[.slice B N.length cB] w5 fun e w6 => e = .returned (.tuple #[.string ⟨#[]⟩, .int .i64 kv]) ∧ Hid (Below W.heap.size W w6)) := CV
      obtain ⟨m, hm⟩ : ∃ m, N.length = m := ⟨_, rfl⟩
      rw [hm] at CV
      rw [hn, hm]
      have hkv3 : kv = 1 ∨ kv = 2 ∨ kv = 91 := by omega
      clear hkv hvk hv0
      rcases hkv3 with rfl | rfl | rfl
      all_goals
        clear h hN hF hT hEV k1 b1 hn hm hv o1 o2 o3 hS
        go_enter Tryz.func3, Tryz.ntmps3
        go_wp2_with (first
          | (go_at_call 5; (with_reducible refine ca.mono ?_); rintro e w2 ⟨rfl, hb2⟩; have cs := CA.out w2 hb2; have l0 := LD.out w2 hb2)
          | (go_at_call 6; (with_reducible refine cs.mono ?_); rintro e w3 ⟨rfl, -, l1, H3⟩; have cp := SK.out w3 H3.out; unfold SchOk at cp; clear cs)
          | (go_at_call 7; (with_reducible refine cp.out.mono ?_); rintro e w4 ⟨As, cs4, rfl, CQ⟩)
          | (go_at_call 6; (with_reducible refine CQ.out.mono ?_); rintro e w5 ⟨rfl, ⟨m1, m2⟩, CT⟩)
          | (go_at_call 8; (with_reducible refine CT.out.mono ?_); rintro e w6 ⟨rfl, HS⟩; have cv := CV.out w6 HS.out)
          | (go_at_call 9; (with_reducible refine cv.mono ?_); rintro e w7 ⟨rfl, H6⟩; clear cv))
        go_ret
        exact ⟨rfl, H6.out⟩
  · obtain ⟨ks, hks⟩ : ∃ ks : Int, ((schP (l.map Me.e)).2 : Nat) = ks := ⟨_, rfl⟩
    have hs0 : (schP (l.map Me.e)).1 = [] := by rcases hse with q | q | q <;> rw [q]
    rw [hs0, hks] at CA
    have CA : Hid (∀ w2, Below w1.heap.size w1 w2 → Calls Tryz.prog 6 #[.agg #[.slice A l.length c]] w2 fun e w3 => e = .returned (.tuple #[.string ⟨#[]⟩, .int .i64 ks]) ∧ w2.cell? ⟨W.heap.size, 0, none⟩ = some (.slice A l.length c) ∧ w3.cell? ⟨W.heap.size, 0, none⟩ = some (.slice A l.length c) ∧ Hid (Below W.heap.size W w3 ∧ CB w3 W.heap.size 24 #[.slice A l.length c])) := CA
    have hks3 : ks = 1 ∨ ks = 91 ∨ ks = 2 := by
      rcases hse with q | q | q
      · rw [q] at hks; exact .inl hks.symm
      · rw [q] at hks; exact .inr (.inl hks.symm)
      · rw [q] at hks; exact .inr (.inr hks.symm)
    obtain ⟨n, hn⟩ : ∃ n, l.length = n := ⟨_, rfl⟩
    rw [hn] at CA hw1 LD
    clear hks hse hs0
    rcases val_err N with hv0 | ⟨hv0, hvk⟩
    · obtain ⟨e0, x1, x2, x3, x4⟩ := val_ok hv0
      have VK : Hid (∀ w6, Below W.heap.size W w6 → ValOk W B N.length cB (str e0.tx) w6) := fun w6 hw => val_rt hEV hT hN hF hw x1 x2 x3 x4
      rw [x4] at CV
      obtain ⟨V, hV⟩ : ∃ V, str e0.tx = V := ⟨_, rfl⟩
      have CV : Hid (∀ w5, Below W.heap.size W w5 → Calls Tryz.prog 9 #[.slice B N.length cB] w5 fun e w6 => e = .returned (.tuple #[.string V, .int .i64 0]) ∧ Hid (Below W.heap.size W w6)) := by rw [← hV]; exact CV
      rw [hV] at VK
      obtain ⟨m, hm⟩ : ∃ m, N.length = m := ⟨_, rfl⟩
      rw [hm] at CV VK
      rw [hn, hm]
      rcases hks3 with rfl | rfl | rfl
      all_goals
        clear h hN hF hT hEV k1 b1 hn hm x1 x2 x3 x4 hV hv0
        go_enter Tryz.func3, Tryz.ntmps3
        go_wp2_with (first
          | (go_at_call 5; (with_reducible refine ca.mono ?_); rintro e w2 ⟨rfl, hb2⟩; have cs := CA.out w2 hb2; have l0 := LD.out w2 hb2)
          | (go_at_call 6; (with_reducible refine cs.mono ?_); rintro e w3 ⟨rfl, -, l1, H3⟩; have cv := CV.out w3 H3.out.1; clear cs)
          | (go_at_call 9; (with_reducible refine cv.mono ?_); rintro e w7 ⟨rfl, H7⟩; have cx := VK.out w7 H7.out; unfold ValOk at cx; clear cv)
          | (go_at_call 10; (with_reducible refine cx.out.mono ?_); rintro e w8 ⟨An, cn, rfl, CY⟩)
          | (go_at_call 9; (with_reducible refine CY.out.mono ?_); rintro e w9 ⟨rfl, CZ⟩)
          | (go_at_call 11; (with_reducible refine CZ.out.mono ?_); rintro e w10 ⟨rfl, H9⟩))
        go_ret
        exact ⟨rfl, H9.out⟩
    · obtain ⟨kv, hkv⟩ : ∃ kv : Int, ((valP N).2 : Nat) = kv := ⟨_, rfl⟩
      rw [hv0, hkv] at CV
      have CV : Hid (∀ w5, Below W.heap.size W w5 → Calls Tryz.prog 9 #[.slice B N.length cB] w5 fun e w6 => e = .returned (.tuple #[.string ⟨#[]⟩, .int .i64 kv]) ∧ Hid (Below W.heap.size W w6)) := CV
      obtain ⟨m, hm⟩ : ∃ m, N.length = m := ⟨_, rfl⟩
      rw [hm] at CV
      rw [hn, hm]
      have hkv3 : kv = 1 ∨ kv = 2 ∨ kv = 91 := by omega
      clear hkv hvk hv0
      rcases hks3 with rfl | rfl | rfl
      all_goals
        rcases hkv3 with rfl | rfl | rfl
      all_goals
        clear h hN hF hT hEV k1 b1 hn hm
        go_enter Tryz.func3, Tryz.ntmps3
        go_wp2_with (first
          | (go_at_call 5; (with_reducible refine ca.mono ?_); rintro e w2 ⟨rfl, hb2⟩; have cs := CA.out w2 hb2; have l0 := LD.out w2 hb2)
          | (go_at_call 6; (with_reducible refine cs.mono ?_); rintro e w3 ⟨rfl, -, l1, H3⟩; have cv := CV.out w3 H3.out.1; clear cs)
          | (go_at_call 9; (with_reducible refine cv.mono ?_); rintro e w7 ⟨rfl, H6⟩; clear cv))
        go_ret
        exact ⟨rfl, H6.out⟩
end Go.Proofs.YtipcgmaobiobbaaGreatDoor
