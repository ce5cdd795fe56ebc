/- Rows of numbers of the call's own: cut, read, appended to. No walk here. -/
import Derived.Test.YtmbiompmhaiehaaDoorExGb
import Derived.Test.YtmbiompmhaiehaaDoorExGa
import Derived.Test.YtmbiompmhaiehaaDoorExGx
import Derived.Test.YtmbiompmhaiehaaDoorExAw
import Derived.Laws.Slices
namespace Go.Proofs.YtmbiompmhaiehaaDoor
open Go.RowKit
open Go.Lib (byteCells)

theorem ownd_then {w w' : World} {base : Nat} {e : TypeId} {s : Nat} {v : Value} {n : Nat} {xs : List Value} (h : w.ownsRow base e s v n xs) (hb : Below w.heap.size w w') : w'.ownsRow base e s v n xs := by
  refine ⟨h.1, ?_⟩
  rcases h.2 with h0 | ⟨g, cap, cur, hv, hg, hc, rest⟩
  · exact .inl h0
  · exact .inr ⟨g, cap, cur, hv, hg, (hb.block g (Array.getElem?_eq_some_iff.1 hc).1).trans hc, rest⟩
/-- a row of the call's own: these numbers -/
def natC (l : List Nat) : List Value := l.map fun n => .int .i64 (n : Nat)
def OwnD (w : World) (base : Nat) (A : Option Addr) (c : Nat) (l : List Nat) : Prop := w.ownsRow base 3 1 (.slice A l.length c) l.length (natC l)
theorem infoI : (Tryd.prog.info? 3).map (fun i => (i.zero, i.size, i.bytes)) = some (some (.int .i64 0), 1, 8) := by kernel_rfl
theorem natC_len (l : List Nat) : (natC l).length = l.length := List.length_map ..
theorem natC_append (a b : List Nat) : natC (a ++ b) = natC a ++ natC b := List.map_append
section
variable {w w' : World} {base : Nat} {A : Option Addr} {c : Nat} {l : List Nat}
theorem OwnD.then_ (h : OwnD w base A c l) (hb : Below w.heap.size w w') : OwnD w' base A c l := ownd_then h hb
theorem OwnD.new (h : OwnD w base A c l) (o : Obj) : OwnD (w.alloc o) base A c l := h.then_ ((Below.refl _ _).alloc (Nat.le_refl _) _)
theorem OwnD.cut {g : Nat} (h : OwnD w base (some ⟨g, 0, none⟩) c l) (k : Nat) (hk : k ≤ l.length) : OwnD w base (some ⟨g, 0, none⟩) c (l.take k) := by
  have hl : (l.take k).length = k := by rw [List.length_take]; omega
  refine ⟨by rw [natC_len]; omega, ?_⟩
  rcases h.2 with ⟨h0, _⟩ | ⟨g2, cap, cur, hv, hg, hc, h1, h2, h3, h4⟩
  · injection h0 with e; cases e
  · injection hv with e1 e2 e3
    cases e1
    subst e3
    refine .inr ⟨g, c, cur, rfl, hg, hc, by omega, h2, h3, ?_⟩
    rw [hl, Nat.mul_one]
    rw [Nat.mul_one] at h4
    have : natC (l.take k) = (natC l).take k := List.map_take
    rw [this, ← h4, List.take_take]
    congr 1
    omega
theorem OwnD.cap {g : Nat} (h : OwnD w base (some ⟨g, 0, none⟩) c l) : l.length ≤ c ∧ base ≤ g ∧ g < w.heap.size := by
  rcases h.2 with ⟨h0, _⟩ | ⟨g2, cap, cur, hv, hg, hc, h1, _⟩
  · injection h0 with e; cases e
  · injection hv with e1 e2 e3
    cases e1
    subst e3
    exact ⟨h1, hg, (Array.getElem?_eq_some_iff.1 hc).1⟩
theorem OwnD.at_ {g : Nat} (h : OwnD w base (some ⟨g, 0, none⟩) c l) {i : Nat} (hi : i < l.length) : w.cell? ⟨g, i, none⟩ = some (.int .i64 ((l[i] : Nat) : Int)) := by
  have := World.ownsRow.cells h (g := g) rfl i (.int .i64 ((l[i] : Nat) : Int)) (by unfold natC; rw [List.getElem?_map, List.getElem?_eq_getElem hi]; rfl)
  rwa [Addr.add_lit, Nat.zero_add] at this
end
/-- one depth that was just laid, appended -/
theorem run_app_int {w : World} {base : Nat} {A : Option Addr} {c : Nat} {l : List Nat} (ho : OwnD w base A c l) (d : Nat) (r : List Nat) (hr : r = l ++ [d]) (hm : r.length ≤ 4000000000000) (hbase : base ≤ w.heap.size) :
    ∃ g c' w', (Builtin.append_ #[72, 72] 72 #[.slice A l.length c, .slice (some ⟨w.heap.size, 0, none⟩) 1 1]).run Tryd.prog (w.alloc (.cells #[.int .i64 (d : Nat)] 3)) = .ok (.slice (some ⟨g, 0, none⟩) r.length c') w' ∧
      OwnD w' base (some ⟨g, 0, none⟩) c' r ∧ ((Value.slice A l.length c).ownBlock = some g ∨ w.heap.size ≤ g) ∧ w.grownBy w' (Value.slice A l.length c).ownBlock := by
  obtain ⟨i0, hi, hz0, hz1, hz2⟩ := info_parts infoI
  subst hr
  have hln : (l ++ [d]).length = l.length + 1 := List.length_append
  rw [hln] at hm
  obtain ⟨v', w', hr, hown, hg, _, hat⟩ := run_append_own_at (P := Tryd.prog) (w.alloc (.cells #[.int .i64 (d : Nat)] 3)) base 72 72 3 i0 _ 1 8 Tryd.underlying72 hi hz0 hz1 hz2 rfl (by decide) _ l.length (natC l) (ho.new _) ⟨w.heap.size, 0, none⟩ 1 1 [.int .i64 (d : Nat)]
    rfl (fun j u hu => by rw [Addr.add_lit, Nat.zero_add, cell_of_row _ w.heap.size _ _ 3 (0, 0) (heap_alloc_new w _), ← Array.getElem?_toList]; exact hu)
    (fun u hu => by simp only [List.mem_cons, List.not_mem_nil, or_false] at hu; subst hu; rfl) (by simp only [maxLen]; omega) (by omega) (by simp; omega)
  have e : natC l ++ [.int .i64 (d : Nat)] = natC (l ++ [d]) := by rw [natC_append]; rfl
  rw [e, ← hln] at hown
  have hg2 : w.grownBy w' (Value.slice A l.length c).ownBlock := grown_trans (below_grown ((Below.refl _ w).alloc (Nat.le_refl _) _) _) hg
  rcases hown.2 with ⟨_, h0⟩ | ⟨g, cap, cur, rfl, rest⟩
  · rw [hln] at h0; omega
  · refine ⟨g, cap, w', hr, hown, ?_, hg2⟩
    rcases hat with h | h
    · exact .inl h.symm
    · have : g = (w.alloc (.cells #[.int .i64 (d : Nat)] 3)).heap.size := Option.some.inj h
      exact .inr (by rw [this]; simp)
theorem OwnD.some_ {w : World} {base : Nat} {A : Option Addr} {c : Nat} {l : List Nat} (h : OwnD w base A c l) (hl : 0 < l.length) : ∃ g, A = some ⟨g, 0, none⟩ := by
  rcases h.2 with ⟨h1, h2⟩ | ⟨g, cap, cur, hv, _⟩
  · omega
  · injection hv with e1 _ _
    exact ⟨g, e1⟩
theorem OwnD.cap' {w : World} {base : Nat} {A : Option Addr} {c : Nat} {l : List Nat} (h : OwnD w base A c l) : l.length ≤ c := by
  rcases h.2 with ⟨h1, h2⟩ | ⟨g, cap, cur, hv, _, _, hn, _⟩
  · omega
  · injection hv with _ _ e3
    omega
theorem OwnD.none (w : World) (base : Nat) : OwnD w base none 0 [] := World.ownsRow_nil w base _ 1
/-- a row cut to its beginning, none too -/
theorem OwnD.cut' {w : World} {base : Nat} {A : Option Addr} {c : Nat} {l : List Nat} (h : OwnD w base A c l) (k : Nat) (hk : k ≤ l.length) : OwnD w base A c (l.take k) := by
  have h0 := h
  rcases h.2 with ⟨h1, h2⟩ | ⟨g, cap, cur, hv, _⟩
  · have : l = [] := List.length_eq_zero_iff.1 h2
    subst this
    rw [List.take_nil]
    exact h0
  · injection hv with e1 _ _
    subst e1
    exact h0.cut k hk
end Go.Proofs.YtmbiompmhaiehaaDoor
/- Cuts of a slice of one-cell elements, as run equations to lay ahead of a walk. No walk here. -/
namespace Go.Proofs.YtmbiompmhaiehaaDoor
open Go.RowKit

theorem add_zero (a : Addr) : a.add 0 = a := by simp [Addr.add]
theorem map_add_zero (A : Option Addr) : A.map (·.add 0) = A := by
  cases A with
  | none => rfl
  | some a => simp [add_zero]

theorem run_size1 {P : Program} {e : TypeId} (hs : (P.info? e).map (·.size) = some 1) (W : World) : (sizeOf e).run P W = .ok 1 W := by
  cases hq : P.info? e with
  | none => simp [hq] at hs
  | some i =>
    have : i.size = 1 := by simpa [hq] using hs
    simp [sizeOf, typeInfo, hq, this]
theorem elem_of {P : Program} {T e : TypeId} (ht : P.underlying T = some (.slice e)) : P.elem T = e := by simp [Program.elem, ht]

theorem run_cut_l {P : Program} {T e : TypeId} (ht : P.underlying T = some (.slice e)) (hs : (P.info? e).map (·.size) = some 1) (A A' : Option Addr) (n c k : Nat) (hk : k ≤ n) (hA : A' = if c = k then A else A.map (·.add k)) (W : World) :
    (Instr.sliceAt T (.slice A n c) (some (.int .i64 (k : Int))) none none).run P W = .ok (.slice A' (n - k) (c - k)) W := by
  have hE := elem_of ht
  have ht' : P.underlying T = some (.slice (P.elem T)) := by rw [hE]; exact ht
  rw [run_sliceAt_slice _ _ _ _ _ _ ht', run_slice_l _ T A n c ht' .i64 k (by omega) (by omega), hE, run_size1 hs]
  simp only [Result.andThen, sliced, Int.toNat_natCast, Nat.mul_one]
  rw [← hA]

theorem run_cut_h {P : Program} {T e : TypeId} (ht : P.underlying T = some (.slice e)) (hs : (P.info? e).map (·.size) = some 1) (A : Option Addr) (n c k : Nat) (hk : k ≤ c) (W : World) :
    (Instr.sliceAt T (.slice A n c) none (some (.int .i64 (k : Int))) none).run P W = .ok (.slice A k c) W := by
  have hE := elem_of ht
  have ht' : P.underlying T = some (.slice (P.elem T)) := by rw [hE]; exact ht
  rw [run_sliceAt_slice _ _ _ _ _ _ ht', run_slice_h _ T A n c ht' .i64 k (by omega) (by omega), hE, run_size1 hs]
  simp only [Result.andThen, sliced, Int.toNat_natCast, Nat.zero_mul, Nat.sub_zero, map_add_zero]
  simp

theorem run_cut_lh {P : Program} {T e : TypeId} (ht : P.underlying T = some (.slice e)) (hs : (P.info? e).map (·.size) = some 1) (A A' : Option Addr) (n c k m : Nat) (hk : k ≤ m) (hm : m ≤ c) (hA : A' = if c = k then A else A.map (·.add k)) (W : World) :
    (Instr.sliceAt T (.slice A n c) (some (.int .i64 (k : Int))) (some (.int .i64 (m : Int))) none).run P W = .ok (.slice A' (m - k) (c - k)) W := by
  have hE := elem_of ht
  have ht' : P.underlying T = some (.slice (P.elem T)) := by rw [hE]; exact ht
  rw [run_sliceAt_slice _ _ _ _ _ _ ht', run_slice_lh _ T A n c ht' .i64 .i64 k m (by omega) (by omega) (by omega), hE, run_size1 hs]
  simp only [Result.andThen, sliced, Int.toNat_natCast, Nat.mul_one]
  rw [← hA]
end Go.Proofs.YtmbiompmhaiehaaDoor
/- Plain: the document's own Check, as a pile of depths. No walk here. -/
namespace Go.Proofs.YtmbiompmhaiehaaDoor

/-- how many kids by its mark; -1: none of them -/
def kidR (x : Rn) : Int :=
  if x.op = 1 ∨ x.op = 2 ∨ x.op = 3 ∨ x.op = 4 then 0
  else if x.op = 5 ∨ x.op = 11 ∨ x.op = 12 then 1
  else if x.op = 6 ∨ x.op = 7 ∨ x.op = 8 ∨ x.op = 10 then 2
  else if x.op = 9 ∧ 1 ≤ x.n then x.n else -1
def plainR (x : Rn) : Bool := (decide (x.n = 0) || decide (x.op = 9)) && (decide (x.num = 0) || decide (x.op = 1)) && (decide (x.t = []) || decide (x.op = 2))
theorem arity_kid (x : Rn) : arity x = if 0 ≤ kidR x ∧ plainR x = true then some (kidR x).toNat else none := by
  obtain ⟨op, n, num, t, a⟩ := x
  by_cases h1 : op = 1
  · subst h1
    by_cases hn : n = 0 <;> by_cases ht : t = [] <;> simp [arity, kidR, plainR, hn, ht]
  by_cases h2 : op = 2
  · subst h2
    by_cases hn : n = 0 <;> by_cases hm : num = 0 <;> simp [arity, kidR, plainR, hn, hm]
  by_cases h9 : op = 9
  · subst h9
    by_cases hn : 1 ≤ n <;> by_cases hm : num = 0 <;> by_cases ht : t = [] <;> simp [arity, kidR, plainR, hn, hm, ht]
    omega
  have hp : plainR ⟨op, n, num, t, a⟩ = decide (n = 0 ∧ num = 0 ∧ t = []) := by
    by_cases hn : n = 0 <;> by_cases hm : num = 0 <;> by_cases ht : t = [] <;> simp [plainR, h1, h2, h9, hn, hm, ht]
  have hk : kidR ⟨op, n, num, t, a⟩ = if op = 3 ∨ op = 4 then 0 else if op = 5 ∨ op = 11 ∨ op = 12 then 1 else if op = 6 ∨ op = 7 ∨ op = 8 ∨ op = 10 then 2 else -1 := by
    simp [kidR, h1, h2, h9]
  have ha : arity ⟨op, n, num, t, a⟩ = if n = 0 ∧ num = 0 ∧ t = [] then (if op = 3 ∨ op = 4 then some 0 else if op = 5 ∨ op = 11 ∨ op = 12 then some 1 else if op = 6 ∨ op = 7 ∨ op = 8 ∨ op = 10 then some 2 else none) else none := by
    simp [arity, h1, h2, h9]
  rw [hp, hk, ha]
  by_cases hq : n = 0 ∧ num = 0 ∧ t = []
  · rw [if_pos hq]
    by_cases g1 : op = 3 ∨ op = 4
    · rw [if_pos g1, if_pos g1, if_pos ⟨by decide, decide_eq_true hq⟩]
      rfl
    · rw [if_neg g1, if_neg g1]
      by_cases g2 : op = 5 ∨ op = 11 ∨ op = 12
      · rw [if_pos g2, if_pos g2, if_pos ⟨by decide, decide_eq_true hq⟩]
        rfl
      · rw [if_neg g2, if_neg g2]
        by_cases g3 : op = 6 ∨ op = 7 ∨ op = 8 ∨ op = 10
        · rw [if_pos g3, if_pos g3, if_pos ⟨by decide, decide_eq_true hq⟩]
          rfl
        · rw [if_neg g3, if_neg g3, if_neg (fun h => absurd h.1 (by decide))]
  · rw [if_neg hq, if_neg (fun h => hq (of_decide_eq_true h.2))]
theorem kid_small {x : Rn} (h : x.n ≤ 9223372036854775807) : -1 ≤ kidR x ∧ kidR x ≤ 9223372036854775807 := by
  unfold kidR
  split
  · omega
  · split
    · omega
    · split
      · omega
      · split
        · next h2 => omega
        · omega
/-- the greatest of them -/
def topL (l : List Nat) : Nat := l.foldl max 0
theorem foldl_max (l : List Nat) : ∀ d, l.foldl max d = max d (l.foldl max 0) := by
  induction l with
  | nil => intro d; simp
  | cons a r ih =>
    intro d
    rw [List.foldl_cons, List.foldl_cons, ih (max d a), ih (max 0 a)]
    omega
theorem top_rev (l : List Nat) : topL l.reverse = topL l := by
  unfold topL
  induction l with
  | nil => rfl
  | cons a r ih =>
    rw [List.reverse_cons, List.foldl_append, List.foldl_cons, List.foldl_nil, ih, List.foldl_cons, foldl_max r (max 0 a)]
    omega
theorem deepest_top (ks : List Pe) : deepest ks = topL (ks.map (·.dp)) := by
  unfold deepest topL
  rw [List.foldl_map]
/-- the depths of what stands behind so many nodes, the last one last -/
structure CkSt (N : List Rn) (i : Nat) (D : List Nat) : Prop where
  bad : badP N i = none
  pile : ∃ P, pileP N i = some P ∧ D = (P.map (·.dp)).reverse
  small : ∀ d ∈ D, d ≤ 100
section
variable {N : List Rn} {i k : Nat} {D : List Nat} {x : Rn}
theorem ck_start (N : List Rn) : CkSt N 0 [] := ⟨rfl, ⟨[], rfl, rfl⟩, fun d h => by cases h⟩
theorem bad_stay {b : Nat × Nat} (h : badP N i = some b) : ∀ d, badP N (i + d) = some b
  | 0 => h
  | d + 1 => by
    show badP N (i + d + 1) = _
    unfold badP
    rw [bad_stay h d]
theorem chk_of {b : Nat × Nat} (h : badP N i = some b) (hi : i ≤ N.length) : chkP N = b := by
  have := bad_stay h (N.length - i)
  rw [show i + (N.length - i) = N.length by omega] at this
  unfold chkP
  rw [this]
theorem ck_bad (h : CkSt N i D) (hx : N[i]? = some x) (hb : kidR x < 0 ∨ (D.length : Int) < kidR x ∨ plainR x = false) : chkP N = (i, 1) := by
  obtain ⟨P, hP, rfl⟩ := h.pile
  have hi := (List.getElem?_eq_some_iff.1 hx).1
  have hl : ((P.map (·.dp)).reverse).length = P.length := by simp
  have hnone : pileP N (i + 1) = none := by
    unfold pileP
    rw [hP, hx]
    show pushP i x P = none
    unfold pushP
    rw [arity_kid]
    by_cases hq : 0 ≤ kidR x ∧ plainR x = true
    · rw [if_pos hq]
      dsimp only
      rw [if_neg]
      rcases hb with hb | hb | hb
      · omega
      · rw [hl] at hb
        omega
      · rw [hq.2] at hb
        cases hb
    · rw [if_neg hq]
  refine chk_of (i := i + 1) ?_ hi
  rw [badp_succ h.bad, hnone]
theorem ck_push (h : CkSt N i D) (hx : N[i]? = some x) (hk : kidR x = (k : Nat)) (hl : k ≤ D.length) (hp : plainR x = true) : ∃ P e, pileP N i = some P ∧ D = (P.map (·.dp)).reverse ∧ pileP N (i + 1) = some (e :: P.drop k) ∧ e.dp = topL (D.drop (D.length - k)) + 1 := by
  obtain ⟨P, hP, rfl⟩ := h.pile
  have hlen : ((P.map (·.dp)).reverse).length = P.length := by simp
  rw [hlen] at hl
  refine ⟨P, overP i x (P.take k), hP, rfl, ?_, ?_⟩
  · conv => lhs; unfold pileP
    rw [hP, hx]
    show pushP i x P = _
    unfold pushP
    rw [arity_kid, if_pos ⟨by omega, hp⟩, hk]
    dsimp only
    rw [Int.toNat_natCast, if_pos hl]
  · show deepest (P.take k) + 1 = _
    rw [deepest_top, hlen, List.drop_reverse, List.length_map, show P.length - (P.length - k) = k by omega, top_rev, List.map_take]
theorem ck_deep (h : CkSt N i D) (hx : N[i]? = some x) (hk : kidR x = (k : Nat)) (hl : k ≤ D.length) (hp : plainR x = true) (hd : 100 < topL (D.drop (D.length - k)) + 1) : chkP N = (i, 91) := by
  obtain ⟨P, e, hP, hD, hn, he⟩ := ck_push h hx hk hl hp
  refine chk_of (i := i + 1) ?_ (List.getElem?_eq_some_iff.1 hx).1
  rw [badp_succ h.bad, hn]
  dsimp only
  rw [if_pos (by omega)]
theorem ck_next (h : CkSt N i D) (hx : N[i]? = some x) (hk : kidR x = (k : Nat)) (hl : k ≤ D.length) (hp : plainR x = true) (hd : ¬ 100 < topL (D.drop (D.length - k)) + 1) : CkSt N (i + 1) (D.take (D.length - k) ++ [topL (D.drop (D.length - k)) + 1]) := by
  obtain ⟨P, e, hP, hD, hn, he⟩ := ck_push h hx hk hl hp
  refine ⟨?_, ⟨_, hn, ?_⟩, fun d hd' => ?_⟩
  · rw [badp_succ h.bad, hn]
    dsimp only
    rw [if_neg (by omega)]
  · rw [List.map_cons, List.reverse_cons, he]
    congr 1
    rw [hD, List.length_reverse, List.take_reverse, List.length_map]
    have hl' : k ≤ P.length := by rw [hD] at hl; simpa using hl
    rw [show P.length - (P.length - k) = k by omega, List.map_drop]
  · rcases List.mem_append.1 hd' with h1 | h1
    · exact h.small d (List.mem_of_mem_take h1)
    · simp only [List.mem_singleton] at h1
      omega
theorem ck_end (h : CkSt N N.length D) : chkP N = if D.length = 1 then (0, 0) else (N.length, 1) := by
  obtain ⟨P, hP, rfl⟩ := h.pile
  unfold chkP exprP
  rw [h.bad, hP]
  match P with
  | [] => simp
  | [e] => simp
  | _ :: _ :: _ => simp
end
end Go.Proofs.YtmbiompmhaiehaaDoor
/- The walk of the reference: kids, plain, Check (gen_rchk.py). -/
namespace Go.Proofs.YtmbiompmhaiehaaDoor
open Go.RowKit

theorem ck_read {v : Nat × Nat} {a e b f : Nat} (h : v = (a, e)) (g : v = (b, f)) : a = b ∧ e = f := by
  rw [h] at g
  exact Prod.mk.inj g
set_option maxRecDepth 100000 in
set_option maxHeartbeats 4000000 in
theorem rkids_any (w : World) (x : Rn) : Calls Tryd.prog 19 #[.agg #[.int .i64 x.op, .int .i64 x.n, .int .u64 (x.num : Nat), .string (str x.t), .int .i64 x.a]] w fun e w' => e = .returned (.int .i64 (kidR x)) ∧ Hid (Below w.heap.size w w') := by
  obtain ⟨op, n, num, t, a⟩ := x
  dsimp only
  generalize str t = T
  by_cases h1 : op = 1
  case pos =>
    subst h1
    have hk : kidR ⟨1, n, num, t, a⟩ = 0 := by simp [kidR]
    rw [hk]
    clear hk
    go_enter Tryd.func19, Tryd.ntmps19
    go_wp2
    all_goals go_ret
    all_goals exact ⟨rfl, Lib.hid ((Below.refl _ w).alloc (Nat.le_refl _) _)⟩
  by_cases h2 : op = 2
  case pos =>
    subst h2
    have hk : kidR ⟨2, n, num, t, a⟩ = 0 := by simp [kidR]
    rw [hk]
    clear hk
    go_enter Tryd.func19, Tryd.ntmps19
    go_wp2
    all_goals go_ret
    all_goals exact ⟨rfl, Lib.hid ((Below.refl _ w).alloc (Nat.le_refl _) _)⟩
  by_cases h3 : op = 3
  case pos =>
    subst h3
    have hk : kidR ⟨3, n, num, t, a⟩ = 0 := by simp [kidR]
    rw [hk]
    clear hk
    go_enter Tryd.func19, Tryd.ntmps19
    go_wp2
    all_goals go_ret
    all_goals exact ⟨rfl, Lib.hid ((Below.refl _ w).alloc (Nat.le_refl _) _)⟩
  by_cases h4 : op = 4
  case pos =>
    subst h4
    have hk : kidR ⟨4, n, num, t, a⟩ = 0 := by simp [kidR]
    rw [hk]
    clear hk
    go_enter Tryd.func19, Tryd.ntmps19
    go_wp2
    all_goals go_ret
    all_goals exact ⟨rfl, Lib.hid ((Below.refl _ w).alloc (Nat.le_refl _) _)⟩
  by_cases h5 : op = 5
  case pos =>
    subst h5
    have hk : kidR ⟨5, n, num, t, a⟩ = 1 := by simp [kidR]
    rw [hk]
    clear hk
    go_enter Tryd.func19, Tryd.ntmps19
    go_wp2
    all_goals go_ret
    all_goals exact ⟨rfl, Lib.hid ((Below.refl _ w).alloc (Nat.le_refl _) _)⟩
  by_cases h11 : op = 11
  case pos =>
    subst h11
    have hk : kidR ⟨11, n, num, t, a⟩ = 1 := by simp [kidR]
    rw [hk]
    clear hk
    go_enter Tryd.func19, Tryd.ntmps19
    go_wp2
    all_goals go_ret
    all_goals exact ⟨rfl, Lib.hid ((Below.refl _ w).alloc (Nat.le_refl _) _)⟩
  by_cases h12 : op = 12
  case pos =>
    subst h12
    have hk : kidR ⟨12, n, num, t, a⟩ = 1 := by simp [kidR]
    rw [hk]
    clear hk
    go_enter Tryd.func19, Tryd.ntmps19
    go_wp2
    all_goals go_ret
    all_goals exact ⟨rfl, Lib.hid ((Below.refl _ w).alloc (Nat.le_refl _) _)⟩
  by_cases h6 : op = 6
  case pos =>
    subst h6
    have hk : kidR ⟨6, n, num, t, a⟩ = 2 := by simp [kidR]
    rw [hk]
    clear hk
    go_enter Tryd.func19, Tryd.ntmps19
    go_wp2
    all_goals go_ret
    all_goals exact ⟨rfl, Lib.hid ((Below.refl _ w).alloc (Nat.le_refl _) _)⟩
  by_cases h7 : op = 7
  case pos =>
    subst h7
    have hk : kidR ⟨7, n, num, t, a⟩ = 2 := by simp [kidR]
    rw [hk]
    clear hk
    go_enter Tryd.func19, Tryd.ntmps19
    go_wp2
    all_goals go_ret
    all_goals exact ⟨rfl, Lib.hid ((Below.refl _ w).alloc (Nat.le_refl _) _)⟩
  by_cases h8 : op = 8
  case pos =>
    subst h8
    have hk : kidR ⟨8, n, num, t, a⟩ = 2 := by simp [kidR]
    rw [hk]
    clear hk
    go_enter Tryd.func19, Tryd.ntmps19
    go_wp2
    all_goals go_ret
    all_goals exact ⟨rfl, Lib.hid ((Below.refl _ w).alloc (Nat.le_refl _) _)⟩
  by_cases h10 : op = 10
  case pos =>
    subst h10
    have hk : kidR ⟨10, n, num, t, a⟩ = 2 := by simp [kidR]
    rw [hk]
    clear hk
    go_enter Tryd.func19, Tryd.ntmps19
    go_wp2
    all_goals go_ret
    all_goals exact ⟨rfl, Lib.hid ((Below.refl _ w).alloc (Nat.le_refl _) _)⟩
  by_cases h9 : op = 9
  case pos =>
    subst h9
    by_cases hn : 1 ≤ n
    case pos =>
      have hk : kidR ⟨9, n, num, t, a⟩ = n := by simp [kidR, hn]
      rw [hk]
      clear hk
      go_enter Tryd.func19, Tryd.ntmps19
      go_wp2
      all_goals go_ret
      all_goals exact ⟨rfl, Lib.hid ((Below.refl _ w).alloc (Nat.le_refl _) _)⟩
    have hk : kidR ⟨9, n, num, t, a⟩ = -1 := by simp [kidR, hn]
    rw [hk]
    clear hk
    have hnd : decide (1 ≤ n) = false := by rw [decide_eq_false_iff_not]; exact hn
    go_enter Tryd.func19, Tryd.ntmps19
    go_wp2
    all_goals go_ret
    all_goals exact ⟨rfl, Lib.hid ((Below.refl _ w).alloc (Nat.le_refl _) _)⟩
  have hk : kidR ⟨op, n, num, t, a⟩ = -1 := by simp [kidR, h1, h2, h3, h4, h5, h11, h12, h6, h7, h8, h10, h9]
  rw [hk]
  have z1 : (op == 1) = false := by rw [beq_eq_false_iff_ne]; exact h1
  have z2 : (op == 2) = false := by rw [beq_eq_false_iff_ne]; exact h2
  have z3 : (op == 3) = false := by rw [beq_eq_false_iff_ne]; exact h3
  have z4 : (op == 4) = false := by rw [beq_eq_false_iff_ne]; exact h4
  have z5 : (op == 5) = false := by rw [beq_eq_false_iff_ne]; exact h5
  have z11 : (op == 11) = false := by rw [beq_eq_false_iff_ne]; exact h11
  have z12 : (op == 12) = false := by rw [beq_eq_false_iff_ne]; exact h12
  have z6 : (op == 6) = false := by rw [beq_eq_false_iff_ne]; exact h6
  have z7 : (op == 7) = false := by rw [beq_eq_false_iff_ne]; exact h7
  have z8 : (op == 8) = false := by rw [beq_eq_false_iff_ne]; exact h8
  have z10 : (op == 10) = false := by rw [beq_eq_false_iff_ne]; exact h10
  have z9 : (op == 9) = false := by rw [beq_eq_false_iff_ne]; exact h9
  clear hk h1 h2 h3 h4 h5 h11 h12 h6 h7 h8 h10 h9
  go_enter Tryd.func19, Tryd.ntmps19
  go_wp2
  all_goals go_ret
  all_goals exact ⟨rfl, Lib.hid ((Below.refl _ w).alloc (Nat.le_refl _) _)⟩

set_option maxRecDepth 100000 in
set_option maxHeartbeats 4000000 in
theorem rplain_any (w : World) (x : Rn) : Calls Tryd.prog 33 #[.agg #[.int .i64 x.op, .int .i64 x.n, .int .u64 (x.num : Nat), .string (str x.t), .int .i64 x.a]] w fun e w' => e = .returned (.bool (plainR x)) ∧ Hid (Below w.heap.size w w') := by
  obtain ⟨op, n, num, t, a⟩ := x
  dsimp only
  obtain ⟨T, hT⟩ : ∃ T, str t = T := ⟨_, rfl⟩
  have hte : t = [] ↔ T.toList = [] := by rw [← hT, ByteArray.toList_eq]; rfl
  obtain ⟨M, hM⟩ : ∃ M : Int, M = (num : Int) := ⟨_, rfl⟩
  have hme : num = 0 ↔ M = 0 := by omega
  rw [hT, ← hM]
  clear hT hM
  by_cases hn : n = 0
  case pos =>
    by_cases hm : num = 0
    case pos =>
      by_cases ht : t = []
      case pos =>
        have hp : plainR ⟨op, n, num, t, a⟩ = true := by simp [plainR, hn, hm, ht]
        rw [hp]
        have fn : (n == 0) = true := by simp [hn]
        have fm : (M == 0) = true := by simp [← hme, hm]
        have ft : T.toList = [] := hte.1 ht
        have ft2 : T.toList.isEmpty = true := by rw [ft]; rfl
        have ft3 : (T.toList == []) = true := by rw [ft]; rfl
        clear hp hte hme hn hm ht
        go_enter Tryd.func33, Tryd.ntmps33
        go_wp2
        all_goals go_ret
        all_goals exact ⟨rfl, Lib.hid ((Below.refl _ w).alloc (Nat.le_refl _) _)⟩
      by_cases h2 : op = 2
      case pos =>
        have hp : plainR ⟨op, n, num, t, a⟩ = true := by simp [plainR, hn, hm, ht, h2]
        rw [hp]
        have fn : (n == 0) = true := by simp [hn]
        have fm : (M == 0) = true := by simp [← hme, hm]
        have ft : ¬ T.toList = [] := fun h => ht (hte.2 h)
        have ft2 : T.toList.isEmpty = false := by rw [List.isEmpty_eq_false_iff]; exact ft
        have ft3 : (T.toList == []) = false := by rw [beq_eq_false_iff_ne]; exact ft
        have f2 : (op == 2) = true := by simp [h2]
        clear hp hte hme hn hm ht h2
        go_enter Tryd.func33, Tryd.ntmps33
        go_wp2
        all_goals go_ret
        all_goals exact ⟨rfl, Lib.hid ((Below.refl _ w).alloc (Nat.le_refl _) _)⟩
      have hp : plainR ⟨op, n, num, t, a⟩ = false := by simp [plainR, hn, hm, ht, h2]
      rw [hp]
      have fn : (n == 0) = true := by simp [hn]
      have fm : (M == 0) = true := by simp [← hme, hm]
      have ft : ¬ T.toList = [] := fun h => ht (hte.2 h)
      have ft2 : T.toList.isEmpty = false := by rw [List.isEmpty_eq_false_iff]; exact ft
      have ft3 : (T.toList == []) = false := by rw [beq_eq_false_iff_ne]; exact ft
      have f2 : (op == 2) = false := by simp [h2]
      clear hp hte hme hn hm ht h2
      go_enter Tryd.func33, Tryd.ntmps33
      go_wp2
      all_goals go_ret
      all_goals exact ⟨rfl, Lib.hid ((Below.refl _ w).alloc (Nat.le_refl _) _)⟩
    by_cases h1 : op = 1
    case pos =>
      by_cases ht : t = []
      case pos =>
        have hp : plainR ⟨op, n, num, t, a⟩ = true := by simp [plainR, hn, hm, h1, ht]
        rw [hp]
        have fn : (n == 0) = true := by simp [hn]
        have fm : (M == 0) = false := by simp [← hme, hm]
        have f1 : (op == 1) = true := by simp [h1]
        have ft : T.toList = [] := hte.1 ht
        have ft2 : T.toList.isEmpty = true := by rw [ft]; rfl
        have ft3 : (T.toList == []) = true := by rw [ft]; rfl
        clear hp hte hme hn hm h1 ht
        go_enter Tryd.func33, Tryd.ntmps33
        go_wp2
        all_goals go_ret
        all_goals exact ⟨rfl, Lib.hid ((Below.refl _ w).alloc (Nat.le_refl _) _)⟩
      by_cases h2 : op = 2
      case pos =>
        omega
      have hp : plainR ⟨op, n, num, t, a⟩ = false := by simp [plainR, hn, hm, h1, ht]
      rw [hp]
      have fn : (n == 0) = true := by simp [hn]
      have fm : (M == 0) = false := by simp [← hme, hm]
      have f1 : (op == 1) = true := by simp [h1]
      have ft : ¬ T.toList = [] := fun h => ht (hte.2 h)
      have ft2 : T.toList.isEmpty = false := by rw [List.isEmpty_eq_false_iff]; exact ft
      have ft3 : (T.toList == []) = false := by rw [beq_eq_false_iff_ne]; exact ft
      have f2 : (op == 2) = false := by simp [h2]
      clear hp hte hme hn hm h1 ht h2
      go_enter Tryd.func33, Tryd.ntmps33
      go_wp2
      all_goals go_ret
      all_goals exact ⟨rfl, Lib.hid ((Below.refl _ w).alloc (Nat.le_refl _) _)⟩
    have hp : plainR ⟨op, n, num, t, a⟩ = false := by simp [plainR, hn, hm, h1]
    rw [hp]
    have fn : (n == 0) = true := by simp [hn]
    have fm : (M == 0) = false := by simp [← hme, hm]
    have f1 : (op == 1) = false := by simp [h1]
    clear hp hte hme hn hm h1
    go_enter Tryd.func33, Tryd.ntmps33
    go_wp2
    all_goals go_ret
    all_goals exact ⟨rfl, Lib.hid ((Below.refl _ w).alloc (Nat.le_refl _) _)⟩
  by_cases h9 : op = 9
  case pos =>
    by_cases hm : num = 0
    case pos =>
      by_cases ht : t = []
      case pos =>
        have hp : plainR ⟨op, n, num, t, a⟩ = true := by simp [plainR, hn, h9, hm, ht]
        rw [hp]
        have fn : (n == 0) = false := by simp [hn]
        have f9 : (op == 9) = true := by simp [h9]
        have fm : (M == 0) = true := by simp [← hme, hm]
        have ft : T.toList = [] := hte.1 ht
        have ft2 : T.toList.isEmpty = true := by rw [ft]; rfl
        have ft3 : (T.toList == []) = true := by rw [ft]; rfl
        clear hp hte hme hn h9 hm ht
        go_enter Tryd.func33, Tryd.ntmps33
        go_wp2
        all_goals go_ret
        all_goals exact ⟨rfl, Lib.hid ((Below.refl _ w).alloc (Nat.le_refl _) _)⟩
      by_cases h2 : op = 2
      case pos =>
        omega
      have hp : plainR ⟨op, n, num, t, a⟩ = false := by simp [plainR, hn, h9, hm, ht]
      rw [hp]
      have fn : (n == 0) = false := by simp [hn]
      have f9 : (op == 9) = true := by simp [h9]
      have fm : (M == 0) = true := by simp [← hme, hm]
      have ft : ¬ T.toList = [] := fun h => ht (hte.2 h)
      have ft2 : T.toList.isEmpty = false := by rw [List.isEmpty_eq_false_iff]; exact ft
      have ft3 : (T.toList == []) = false := by rw [beq_eq_false_iff_ne]; exact ft
      have f2 : (op == 2) = false := by simp [h2]
      clear hp hte hme hn h9 hm ht h2
      go_enter Tryd.func33, Tryd.ntmps33
      go_wp2
      all_goals go_ret
      all_goals exact ⟨rfl, Lib.hid ((Below.refl _ w).alloc (Nat.le_refl _) _)⟩
    by_cases h1 : op = 1
    case pos =>
      omega
    have hp : plainR ⟨op, n, num, t, a⟩ = false := by simp [plainR, hn, h9, hm]
    rw [hp]
    have fn : (n == 0) = false := by simp [hn]
    have f9 : (op == 9) = true := by simp [h9]
    have fm : (M == 0) = false := by simp [← hme, hm]
    have f1 : (op == 1) = false := by simp [h1]
    clear hp hte hme hn h9 hm h1
    go_enter Tryd.func33, Tryd.ntmps33
    go_wp2
    all_goals go_ret
    all_goals exact ⟨rfl, Lib.hid ((Below.refl _ w).alloc (Nat.le_refl _) _)⟩
  have hp : plainR ⟨op, n, num, t, a⟩ = false := by simp [plainR, hn, h9]
  rw [hp]
  have fn : (n == 0) = false := by simp [hn]
  have f9 : (op == 9) = false := by simp [h9]
  clear hp hte hme hn h9
  go_enter Tryd.func33, Tryd.ntmps33
  go_wp2
  all_goals go_ret
  all_goals exact ⟨rfl, Lib.hid ((Below.refl _ w).alloc (Nat.le_refl _) _)⟩

set_option maxRecDepth 100000 in
set_option maxHeartbeats 8000000 in
theorem rcheck_any {w : World} {A : Option Addr} {c : Nat} {N : List Rn} (hR : RN w w.heap.size A N) (hF : Few N) :
    Calls Tryd.prog 18 #[.slice A N.length c] w fun e w' => e = .returned (.tuple #[.int .i64 ((chkP N).1 : Nat), .int .i64 ((chkP N).2 : Nat)]) ∧ Below w.heap.size w w' := by
  obtain ⟨n, hn⟩ : ∃ n, N.length = n := ⟨_, rfl⟩
  have hn9 : n ≤ 2932031007402 := by rw [← hn]; exact hF.few
  obtain ⟨ca, hca⟩ : ∃ a, (chkP N).1 = a := ⟨_, rfl⟩
  obtain ⟨ce, hce⟩ : ∃ a, (chkP N).2 = a := ⟨_, rfl⟩
  have HC : Hid (chkP N = (ca, ce)) := by unfold Hid; rw [← hca, ← hce]
  have HN := Lib.hid hn
  have HR := Lib.hid hR
  have HFN := Lib.hid hF.n
  rw [hn, hca, hce]
  clear hR hF hn hca hce
  go_enter Tryd.func18, Tryd.ntmps18
  go_wp2
  go_loopw [4, 5] (fun u v wr => ∃ (D : List Nat) (A2 : Option Addr) (c2 i : Nat), u = .slice A2 D.length c2 ∧ v = .int .i64 i ∧ i ≤ n ∧ D.length ≤ i ∧ Hid (CkSt N i D) ∧ Hid (OwnD wr w.heap.size A2 c2 D) ∧ Hid (Below w.heap.size w wr)) (fun _ v _ => n - (intOf v).toNat)
  case atStart => exact ⟨[], none, 0, 0, rfl, rfl, Nat.zero_le _, Nat.zero_le _, ck_start N, OwnD.none w w.heap.size, Below.refl _ _⟩
  case round =>
    obtain ⟨D, A2, c2, i, rfl, rfl, hi, hDi, HS, HO, HB⟩ := hrel
    by_cases hlt : i < n
    · have hltz : (i : Int) < (n : Int) := by omega
      obtain ⟨x, hx⟩ : ∃ x, N[i]? = some x := ⟨N[i]'(by rw [HN.out]; exact hlt), List.getElem?_eq_getElem _⟩
      have HX := Lib.hid hx
      obtain ⟨b, o, rfl, hb, x0, x1, x2, x3, x4⟩ := RN.cells (HR.out.below HB.out) hx
      have hbr : b < wr.heap.size := Nat.lt_of_lt_of_le hb HB.out.size
      obtain ⟨k, hk⟩ : ∃ k, kidR x = k := ⟨_, rfl⟩
      have hkl := kid_small (HFN.out x (List.mem_of_getElem? hx))
      rw [hk] at hkl
      have ck := rkids_any wr x
      rw [hk] at ck
      have HK := Lib.hid hk
      have hl9 : (D.length : Int) ≤ 2932031007402 := by omega
      obtain ⟨m, hm⟩ : ∃ m, D.length = m := ⟨_, rfl⟩
      have HM := Lib.hid hm
      rw [hm] at hDi hl9 ⊢
      obtain ⟨X3, hX3⟩ : ∃ T, str x.t = T := ⟨_, rfl⟩
      rw [hX3] at x3 ck
      have HX3 := Lib.hid hX3
      clear hx hk hm hX3
      go_wp2_with fail
      refine ck.mono ?_
      rintro e w2 ⟨rfl, H2⟩
      have y0 := (H2.out.cell (p := ⟨b, o + i * 5, none⟩) hbr).trans x0
      have y1 := (H2.out.cell (p := ⟨b, o + i * 5 + 1, none⟩) hbr).trans x1
      have y2 := (H2.out.cell (p := ⟨b, o + i * 5 + 2, none⟩) hbr).trans x2
      have y3 := (H2.out.cell (p := ⟨b, o + i * 5 + 3, none⟩) hbr).trans x3
      have y4 := (H2.out.cell (p := ⟨b, o + i * 5 + 4, none⟩) hbr).trans x4
      have HB2 := Lib.hid (HB.out.trans (H2.out.mono HB.out.size))
      have HO2 := Lib.hid (HO.out.then_ H2.out)
      clear x0 x1 x2 x3 x4 ck HB HO H2
      by_cases hk0 : k < 0
      · obtain ⟨rfl, rfl⟩ := ck_read HC.out (ck_bad HS.out HX.out (.inl (by rw [HK.out]; exact hk0)))
        go_wp2
        all_goals go_ret2
        all_goals exact ⟨rfl, HB2.out⟩
      · obtain ⟨K, rfl⟩ : ∃ K : Nat, k = (K : Int) := ⟨k.toNat, by omega⟩
        have hkz : decide ((K : Int) < 0) = false := by rw [decide_eq_false_iff_not]; exact hk0
        by_cases hkD : m < K
        · have hkDz : (m : Int) < (K : Int) := by omega
          obtain ⟨rfl, rfl⟩ := ck_read HC.out (ck_bad HS.out HX.out (.inr (.inl (by rw [HK.out, HM.out]; exact hkDz))))
          go_wp2
          all_goals go_ret2
          all_goals exact ⟨rfl, HB2.out⟩
        · have hkDz : ¬ (m : Int) < (K : Int) := by omega
          have hkDd : decide ((m : Int) < (K : Int)) = false := by rw [decide_eq_false_iff_not]; exact hkDz
          have cp := rplain_any w2 x
          rw [HX3.out] at cp
          cases hp : plainR x with
          | false =>
            obtain ⟨rfl, rfl⟩ := ck_read HC.out (ck_bad HS.out HX.out (.inr (.inr hp)))
            rw [hp] at cp
            clear hp
            go_wp2_with fail
            refine cp.mono ?_
            rintro e w3 ⟨rfl, H3⟩
            have HB3 := Lib.hid (HB2.out.trans (H3.out.mono HB2.out.size))
            clear cp
            go_wp2
            all_goals go_ret2
            all_goals exact ⟨rfl, HB3.out⟩
          | true =>
            rw [hp] at cp
            have HP := Lib.hid hp
            obtain ⟨fr, hfr⟩ : ∃ fr, m - K = fr := ⟨_, rfl⟩
            obtain ⟨M, hM⟩ : ∃ M, topL (D.drop fr) = M := ⟨_, rfl⟩
            have hfz : (m : Int) - (K : Int) = (fr : Int) := by omega
            have hfl : fr ≤ m := by omega
            have HFR : Hid (D.length - K = fr) := by unfold Hid; rw [HM.out]; exact hfr
            have HTM : Hid (topL (D.drop fr) = M) := hM
            clear hp hM hfr hk0 hkD
            go_wp2_with fail
            refine cp.mono ?_
            rintro e w3 ⟨rfl, H3⟩
            have HB3 := Lib.hid (HB2.out.trans (H3.out.mono HB2.out.size))
            have HO3 := Lib.hid (HO2.out.then_ H3.out)
            clear cp HO2 HB2 y0 y1 y2 y3 y4 hkz hkDz hkDd H3
            obtain ⟨wo, rfl⟩ : ∃ wo : World, wo = wr := ⟨_, rfl⟩
            go_wp2_with fail
            go_loopw [7, 8] (fun u v wr => ∃ (d j : Nat), u = .int .i64 d ∧ v = .int .i64 j ∧ fr ≤ j ∧ j ≤ m ∧ d ≤ 100 ∧ Hid ((D.drop j).foldl max d = M) ∧ Hid (w3 = wr)) (fun _ v _ => m - (intOf v).toNat)
            case atStart => exact ⟨0, fr, rfl, rfl, Nat.le_refl _, hfl, by omega, HTM.out, rfl⟩
            case round =>
              obtain ⟨d, j, rfl, rfl, hfj, hjm, hd100, HI, HW⟩ := hrel
              obtain rfl := HW.out
              by_cases hjl : j < m
              · have hltj : (j : Int) < (m : Int) := by omega
                have hj0 : (0 : Int) ≤ (j : Int) := by omega
                have hjD : j < D.length := by rw [HM.out]; exact hjl
                obtain ⟨g, rfl⟩ := HO3.out.some_ (by omega)
                have hc := HO3.out.at_ hjD
                have hdr : D.drop j = D[j] :: D.drop (j + 1) := List.drop_eq_getElem_cons hjD
                have hI := HI.out
                have hbd := HS.out.small D[j] (List.getElem_mem _)
                rw [hdr, List.foldl_cons] at hI
                obtain ⟨y, hy⟩ : ∃ y, D[j] = y := ⟨_, rfl⟩
                rw [hy] at hc hI hbd
                by_cases hgt : d < y
                · have hz : (d : Int) < (y : Int) := by omega
                  have HI2 : Hid ((D.drop (j + 1)).foldl max y = M) := by unfold Hid; rw [← hI, Nat.max_eq_right (by omega)]
                  clear hI hdr hy hjD
                  go_wp2
                  go_roundw
                  case rel => exact ⟨y, j + 1, rfl, by go_num, by omega, by omega, hbd, HI2, Lib.hid trivial⟩
                  case measure => simp [intOf]; omega
                · have hz : ¬ (d : Int) < (y : Int) := by omega
                  have HI2 : Hid ((D.drop (j + 1)).foldl max d = M) := by unfold Hid; rw [← hI, Nat.max_eq_left (by omega)]
                  clear hI hdr hy hjD
                  go_wp2
                  go_roundw
                  case rel => exact ⟨d, j + 1, rfl, by go_num, by omega, by omega, hd100, HI2, Lib.hid trivial⟩
                  case measure => simp [intOf]; omega
              · obtain rfl : j = m := by omega
                have hltj : ¬ (j : Int) < (j : Int) := by omega
                have hdM : d = M := by have := HI.out; rw [← HM.out, List.drop_length] at this; exact this
                subst hdM
                by_cases hbig : 100 < d + 1
                · have hz : (100 : Int) < (d : Int) + 1 := by omega
                  obtain ⟨rfl, rfl⟩ := ck_read HC.out (ck_deep HS.out HX.out HK.out (by rw [HM.out]; omega) HP.out (by rw [HFR.out, HTM.out]; exact hbig))
                  go_wp2
                  all_goals go_ret2
                  all_goals exact ⟨rfl, HB3.out⟩
                · have hz : ¬ (100 : Int) < (d : Int) + 1 := by omega
                  have hnext := ck_next HS.out HX.out HK.out (by rw [HM.out]; omega) HP.out (by rw [HFR.out, HTM.out]; exact hbig)
                  rw [HFR.out, HTM.out] at hnext
                  have hlen : (D.take fr).length = fr := by rw [List.length_take, HM.out]; omega
                  have hcap := HO3.out.cap'
                  rw [HM.out] at hcap
                  obtain ⟨r1, hr1⟩ : ∃ r1, r1 = D.take fr ++ [d + 1] := ⟨_, rfl⟩
                  obtain ⟨g1, c1, w4, ha, hD4, _, hg4⟩ := run_app_int (HO3.out.cut' fr (by rw [HM.out]; exact hfl)) (d + 1) r1 hr1 (by rw [hr1, List.length_append, hlen]; show fr + 1 ≤ _; omega) HB3.out.size
                  have hb4 : Below w.heap.size w w4 := grown_below HB3.out hg4 HB3.out.size (fun q hq => (World.ownsRow.lt (HO3.out.cut' fr (by rw [HM.out]; exact hfl)) q hq).1)
                  rw [hlen] at ha
                  have hr1l : r1.length = fr + 1 := by rw [hr1, List.length_append, hlen]; rfl
                  rw [← hr1] at hnext
                  have HA1 : Hid ((Builtin.append_ #[72, 72] 72 #[.slice A2 fr c2, .slice (some ⟨w3.heap.size, 0, none⟩) 1 1]).run Tryd.prog (w3.alloc (.cells #[.int .i64 ((d : Int) + 1)] 3)) = .ok (.slice (some ⟨g1, 0, none⟩) r1.length c1) w4) := ha
                  have HQ : Hid (CkSt N (i + 1) r1 ∧ OwnD w4 w.heap.size (some ⟨g1, 0, none⟩) c1 r1 ∧ Below w.heap.size w w4 ∧ r1.length = fr + 1) := ⟨hnext, hD4, hb4, hr1l⟩
                  have hcut := run_cut_h (P := Tryd.prog) (T := 72) (e := 3) Tryd.underlying72 (by kernel_rfl) A2 j c2 fr (by omega)
                  have hfc : (fr : Int) ≤ (c2 : Int) := by omega
                  have hf0 : (0 : Int) ≤ (fr : Int) := by omega
                  clear hnext hlen ha hD4 hg4 hb4 hr1l hr1
                  go_wp2_with (at_builtin; refine wpList_append_run rfl (.tmp 66) (.tmp 69) _ rfl rfl rfl HA1.out ?_)
                  go_roundw
                  case rel => exact ⟨r1, some ⟨g1, 0, none⟩, c1, i + 1, rfl, by go_num, by omega, by have := HQ.out.2.2.2; omega, HQ.out.1, HQ.out.2.1, HQ.out.2.2.1⟩
                  case measure => simp [intOf]; omega
    · obtain rfl : i = n := by omega
      have hltz : ¬ (i : Int) < (i : Int) := by omega
      have hS := HS.out
      have hend : chkP N = if D.length = 1 then (0, 0) else (N.length, 1) := ck_end (by rw [HN.out]; exact hS)
      rw [HN.out] at hend
      obtain ⟨m, hm⟩ : ∃ m, D.length = m := ⟨_, rfl⟩
      rw [hm] at hDi hend ⊢
      clear hS hm
      by_cases h1 : m = 1
      · rw [if_pos h1] at hend
        obtain ⟨rfl, rfl⟩ := ck_read HC.out hend
        have hz : ((m : Int) != 1) = false := by rw [bne_eq_false_iff_eq]; omega
        clear hend h1
        go_wp2
        all_goals go_ret2
        all_goals exact ⟨rfl, HB.out⟩
      · rw [if_neg h1] at hend
        obtain ⟨rfl, rfl⟩ := ck_read HC.out hend
        have hz : ((m : Int) != 1) = true := by rw [bne_iff_ne]; omega
        clear hend h1
        go_wp2
        all_goals go_ret2
        all_goals exact ⟨rfl, HB.out⟩
end Go.Proofs.YtmbiompmhaiehaaDoor
