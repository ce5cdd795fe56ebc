/- What TableMemory keeps in memory: marks behind rows, a history of its own. No walk here. -/
import Derived.Test.YtnflbnchkcigiaaDoorTabLaw1
import Derived.Test.YtnflbnchkcigiaaDoorCutR
namespace Go.Proofs.YtnflbnchkcigiaaDoor
open Go.RowKit

theorem CB.newAt' (w : World) {b : Nat} (hb : w.heap.size = b) (T : TypeId) (cs : Array Value) : CB (w.alloc (.cells cs T)) b T cs := by subst hb; exact CB.new w T cs
def wMark : ByteArray := ⟨#[109, 97, 114, 107]⟩
def mkC (i : Nat) : Co := ⟨wMark, (i : Int), 0⟩
def mksC (k : Nat) : List Co := (List.range k).map mkC
def mkF (i : Nat) : Fd := ⟨-(i : Int), ⟨0, 0, ⟨#[]⟩⟩⟩
def mksF (k : Nat) : List Fd := (List.range k).map mkF
theorem mksC_succ (k : Nat) : mksC (k + 1) = mksC k ++ [mkC k] := by unfold mksC; rw [List.range_succ, List.map_append]; rfl
theorem mksF_succ (k : Nat) : mksF (k + 1) = mksF k ++ [mkF k] := by unfold mksF; rw [List.range_succ, List.map_append]; rfl
theorem mksC_len (k : Nat) : (mksC k).length = k := by unfold mksC; rw [List.length_map, List.length_range]
theorem mksF_len (k : Nat) : (mksF k).length = k := by unfold mksF; rw [List.length_map, List.length_range]
theorem mksC_at {R : List Co} {j : Nat} (h : j < 9) : (R ++ mksC 9)[R.length + j]? = some (mkC j) := by
  rw [List.getElem?_append_right (by omega), Nat.add_sub_cancel_left]
  unfold mksC
  rw [List.getElem?_map, List.getElem?_range h]
  rfl
theorem mksF_at {R : List Fd} {j : Nat} (h : j < 9) : (R ++ mksF 9)[R.length + j]? = some (mkF j) := by
  rw [List.getElem?_append_right (by omega), Nat.add_sub_cancel_left]
  unfold mksF
  rw [List.getElem?_map, List.getElem?_range h]
  rfl
theorem ffC_size (x : Fd) : (ffC x).size = 4 := rfl
theorem ffC_one (x : Fd) : ∀ u ∈ (ffC x).toList, u.oneCell' = true := by
  intro u hu
  simp only [ffC, List.mem_cons, List.not_mem_nil, or_false] at hu
  rcases hu with rfl | rfl | rfl | rfl <;> rfl
theorem infoFd : (Tryd.prog.info? 53).map (fun i => (i.zero, i.size, i.bytes)) = some (some (.agg (ffC ⟨0, ⟨0, 0, ⟨#[]⟩⟩⟩)), 4, 40) := by kernel_rfl
theorem sizeFd : (Tryd.prog.info? 53).map (·.size) = some 4 := by kernel_rfl
theorem FRow.of_rows {w : World} {B : Nat} {A : Option Addr} {l : List Fd} (h : Rows ffC 4 w B A l) : FRow w B A l := by
  rcases h with h2 | ⟨b, o, rfl, hb, hc⟩
  · exact .inl h2
  · exact .inr ⟨b, o, rfl, hb, fun i f hf => ⟨hc i f hf 0 _ rfl, hc i f hf 1 _ rfl, hc i f hf 2 _ rfl, hc i f hf 3 _ rfl⟩⟩
theorem Rows.of_frow {w : World} {B : Nat} {A : Option Addr} {l : List Fd} (h : FRow w B A l) : Rows ffC 4 w B A l := by
  rcases h with h2 | ⟨b, o, rfl, hb, hc⟩
  · exact .inl h2
  · refine .inr ⟨b, o, rfl, hb, fun i f hf j v hv => ?_⟩
    obtain ⟨c0, c1, c2, c3⟩ := hc i f hf
    match j, hv with
    | 0, hv => cases hv; exact c0
    | 1, hv => cases hv; exact c1
    | 2, hv => cases hv; exact c2
    | 3, hv => cases hv; exact c3
    | j + 4, hv => simp [ffC] at hv
theorem Rows.left {α : Type} {f : α → Array Value} {s : Nat} {w : World} {B : Nat} {A : Option Addr} {l r : List α} (h : Rows f s w B A (l ++ r)) : Rows f s w B A l := by
  have := h.take l.length
  rwa [List.take_left] at this

/-- a row with room, made whole and still empty -/
theorem OwnR.room0 {α : Type} {f : α → Array Value} {s : Nat} {T : TypeId} (w : World) (z0 : α) (m : Nat) (hs : ∀ x, (f x).size = s) (hm : m ≤ maxLen) :
    OwnR f s T (w.alloc (.cells (flatR f (List.replicate m z0)).toArray T)) w.heap.size (some ⟨w.heap.size, 0, none⟩) m [] := by
  refine ⟨by simp [flatR], .inr ⟨w.heap.size, m, _, rfl, Nat.le_refl _, heap_alloc_new w _, Nat.zero_le _, hm, ?_, ?_⟩⟩
  · rw [List.size_toArray, flatR_len hs, List.length_replicate]
  · simp [flatR]
section
variable {α : Type} {f : α → Array Value} {s : Nat} {T : TypeId} {w : World} {B : Nat} {A : Option Addr} {c : Nat} {l : List α}
/-- append of one that was just laid -/
theorem run_app_fresh {P : Program} {TS : TypeId} {z : Value} {bytes : Nat} (x : α) (hs : ∀ x, (f x).size = s) (h1 : ∀ x, ∀ u ∈ (f x).toList, u.oneCell' = true) (hs0 : 0 < s)
    (ht : P.underlying TS = some (.slice T)) (hinfo : (P.info? T).map (fun i => (i.zero, i.size, i.bytes)) = some (some z, s, bytes)) (hz : z.cells.size = s)
    (h : OwnR f s T w B A c l) (hl : (l.length + 1) * bytes ≤ 140737488355328) (h63 : l.length + 1 ≤ 140737488355328) (hB : B ≤ w.heap.size) :
    ∃ A' c' w', (Builtin.append_ #[TS, TS] TS #[.slice A l.length c, .slice (some ⟨w.heap.size, 0, none⟩) 1 1]).run P (w.alloc (.cells (f x) T)) = .ok (.slice A' (l.length + 1) c') w' ∧
      OwnR f s T w' B A' c' (l ++ [x]) ∧ Below B w w' := by
  have hb : Below w.heap.size w (w.alloc (.cells (f x) T)) := (Below.refl _ _).alloc (Nat.le_refl _) _
  have hrow : RB f T (w.alloc (.cells (f x) T)) w.heap.size [x] := by
    have := CB.new w T (f x)
    unfold RB
    have e : (flatR f [x]).toArray = f x := by
      unfold flatR
      rw [List.flatMap_cons, List.flatMap_nil, List.append_nil, Array.toArray_toList]
    rw [e]
    exact this
  obtain ⟨A', c', w', hr, ho, _, _, hbw⟩ := run_app_rows (cS := 1) hs h1 hs0 ht hinfo hz (h.then_ hb) (RB.reads hs hrow) (by simpa using hl) (by simpa using h63) (Nat.le_trans hB hb.size)
  rw [List.length_append] at hr
  exact ⟨A', c', w', hr, ho, (hb.mono hB).trans hbw⟩
end

section
variable {w : World} {B : Nat} {T : TypeId} {s m c : Nat} {A : Option Addr}
theorem Rw.there' {g : Nat} (h : Rw w B T s (.slice (some ⟨g, 0, none⟩) m c) m) {k : Nat} (hk : k < m) : w.there g (k * s) s := fun j hj => by
  have hlt : k * s + j < m * s := by
    have : (k + 1) * s ≤ m * s := Nat.mul_le_mul_right _ hk
    rw [Nat.add_mul, Nat.one_mul] at this
    omega
  obtain ⟨v, hv⟩ := h.cell hlt
  exact ⟨by rw [hv]; rfl, h.frozen _⟩
/-- a struct stored into a row of the call's own, its contents whatever -/
theorem wpList_store_rw {P : Program} {ops : Array Oper} {rest : List Oper} {op : Oper} {a : Act} {Q : Exit → Act → World → Prop} {g : Nat} (hgd : op.guard = none) (x y : Operand) (ho : op.op = .store T x y)
    (k o : Nat) (cs : Array Value) (hs : cs.size = s) (h1 : cs.all (·.oneCell') = true) (hi : (P.info? T).map (·.size) = some s) (ho2 : o = k * s) (hx : a.eval x = .pointer (some ⟨g, o, none⟩)) (hy : a.eval y = .agg cs) (hB : Rw w B T s (.slice (some ⟨g, 0, none⟩) m c) m) (hk : k < m)
    (h : ∀ w2, Rw w2 B T s (.slice (some ⟨g, 0, none⟩) m c) m → Turned g w w2 → wpList P ops Q rest (a.put op.dst undef) w2) : wpList P ops Q (op :: rest) a w := by
  subst ho2
  exact wpList_store_mid hgd T x y ho g (k * s) cs hx hy (by rw [hs]; exact hB.there' hk) (by rw [hs]; exact hi) h1 (h _ (Rw.setCells _ _ _ hB) (Turned.setCells _ _ _ (Turned.refl g w)))
/-- append of one that was just laid, onto a row whose contents are whatever -/
theorem run_app_rw {P : Program} {TS : TypeId} {z : Value} {bytes : Nat} (cs : Array Value) (hcs : cs.size = s) (h1 : ∀ u ∈ cs.toList, u.oneCell' = true) (hs0 : 0 < s)
    (ht : P.underlying TS = some (.slice T)) (hinfo : (P.info? T).map (fun i => (i.zero, i.size, i.bytes)) = some (some z, s, bytes)) (hz : z.cells.size = s)
    (h : Rw w B T s (.slice A m c) m) (hl : (m + 1) * bytes ≤ 140737488355328) (h63 : m + 1 ≤ 140737488355328) (hB : B ≤ w.heap.size) :
    ∃ A' c' w', (Builtin.append_ #[TS, TS] TS #[.slice A m c, .slice (some ⟨w.heap.size, 0, none⟩) 1 1]).run P (w.alloc (.cells cs T)) = .ok (.slice A' (m + 1) c') w' ∧
      Rw w' B T s (.slice A' (m + 1) c') (m + 1) ∧ Below B w w' := by
  have hb : Below w.heap.size w (w.alloc (.cells cs T)) := (Below.refl _ _).alloc (Nat.le_refl _) _
  obtain ⟨xs, h⟩ := h
  obtain ⟨i, hi, hz0, hz1, hz2⟩ := info_three hinfo
  have h' : (w.alloc (.cells cs T)).ownsRow B T s (.slice A m c) m xs := h.alloc _
  obtain ⟨v', w', hr, hown, hg, _, hat⟩ := run_append_own_at (P := P) (w.alloc (.cells cs T)) B TS TS T i z s bytes ht hi hz0 hz1 hz2 hz hs0 (.slice A m c) m xs h' ⟨w.heap.size, 0, none⟩ 1 1 cs.toList
    (by simp [hcs]) (fun j u hu => by
      rw [Addr.add_lit, Nat.zero_add, (CB.new w T cs).at_, ← Array.getElem?_toList]
      exact hu) h1 (by simp only [maxLen]; omega) hl (Nat.le_trans hB hb.size)
  have hv : ∃ A' c', v' = .slice A' (m + 1) c' := by
    rcases hown.2 with ⟨e, e0⟩ | ⟨g, cap, _, e, _⟩
    · omega
    · exact ⟨some ⟨g, 0, none⟩, cap, e⟩
  obtain ⟨A', c', rfl⟩ := hv
  refine ⟨A', c', w', hr, ⟨_, hown⟩, (hb.mono hB).trans ⟨hg.os, hg.tape, hg.output, hg.size, fun k hk => hg.block k (by have := hb.size; omega) fun e => ?_⟩⟩
  have := World.ownsRow.lt h' k e.symm
  omega
end
theorem three_blocks (w : World) (c0 : Array Value) (T0 : TypeId) (c1 : Array Value) (T1 : TypeId) (c2 : Array Value) (T2 : TypeId) :
    CB (((w.alloc (.cells c0 T0)).alloc (.cells c1 T1)).alloc (.cells c2 T2)).drew w.heap.size T0 c0 ∧ CB (((w.alloc (.cells c0 T0)).alloc (.cells c1 T1)).alloc (.cells c2 T2)).drew (w.heap.size + 1) T1 c1 ∧
    CB (((w.alloc (.cells c0 T0)).alloc (.cells c1 T1)).alloc (.cells c2 T2)).drew (w.heap.size + 1 + 1) T2 c2 ∧ Below w.heap.size w (((w.alloc (.cells c0 T0)).alloc (.cells c1 T1)).alloc (.cells c2 T2)).drew := by
  have z1 : (w.alloc (.cells c0 T0)).heap.size = w.heap.size + 1 := by simp
  have z2 : ((w.alloc (.cells c0 T0)).alloc (.cells c1 T1)).heap.size = w.heap.size + 1 + 1 := by simp
  refine ⟨((CB.new w T0 c0).al _).al _, (CB.newAt' (w.alloc (.cells c0 T0)) z1 T1 c1).al _, CB.newAt' ((w.alloc (.cells c0 T0)).alloc (.cells c1 T1)) z2 T2 c2, Below.drew (((Below.refl _ _).alloc (Nat.le_refl _) _).alloc (by omega) _ |>.alloc (by omega) _)⟩
/-- the history of the law's own, in memory -/
def His (w5 : World) (n : ByteArray) (Ak : Option Addr) (M ck : Nat) (wx : World) (g10 gT : Nat) : Prop := ∃ gV : Nat, CB wx g10 24 #[.slice (some ⟨gT, 0, none⟩) 1 1] ∧ CB wx gT 48 #[.string n, .slice (some ⟨gV, 0, none⟩) 1 1] ∧
  CB wx gV 45 #[.slice none 0 0, .slice Ak M ck] ∧ Below w5.heap.size w5 wx
def hisT (n : ByteArray) (R : List Co) (Ak : Option Addr) (ck gV : Nat) : List Tm := [⟨n, [⟨[], none, 0, R, Ak, ck⟩], some ⟨gV, 0, none⟩, 1⟩]
theorem His.at_ {w5 wx : World} {n : ByteArray} {Ak : Option Addr} {M ck g10 gT : Nat} {R : List Co} (h : His w5 n Ak M ck wx g10 gT) (hM : R.length = M) (hck : M ≤ ck) (hM2 : M ≤ 65536) (hc : CoR wx wx.heap.size Ak R) :
    ∃ gV, HsAt wx wx.heap.size (some ⟨gT, 0, none⟩) (hisT n R Ak ck gV) ∧ g10 < wx.heap.size ∧ wx.cell? ⟨g10, 0, none⟩ = some (.slice (some ⟨gT, 0, none⟩) 1 1) := by
  subst hM
  obtain ⟨gV, h1, h2, h3, _⟩ := h
  refine ⟨gV, ⟨?_, ?_, by show 1 ≤ _; decide⟩, h1.len, h1.at_ 0⟩
  · have h2' : RB tmC 48 wx gT (hisT n R Ak ck gV) := h2
    exact RB.reads tmC_size h2'
  · intro x hx
    obtain rfl := List.mem_singleton.1 hx
    have h3' : RB vmC 45 wx gV [⟨[], none, 0, R, Ak, ck⟩] := h3
    refine ⟨RB.reads vmC_size h3', fun m hm => ?_, by show 1 ≤ _; decide, Nat.le_refl _⟩
    obtain rfl := List.mem_singleton.1 hm
    exact ⟨.inl rfl, hc, by show 0 ≤ _; decide, by show R.length ≤ _; omega, hck⟩
theorem hisT_cols (n : ByteArray) (R : List Co) (Ak : Option Addr) (ck gV : Nat) : colsR (hisT n R Ak ck gV) 0 1 = (R, 0) := rfl
theorem hisT_fit {n : ByteArray} {R : List Co} {Ak : Option Addr} {ck gV : Nat} (hn : n.size ≤ 140737488351232) (hR : Cfit R) : Hfit (hisT n R Ak ck gV) := by
  intro x hx
  obtain rfl := List.mem_singleton.1 hx
  refine ⟨hn, fun m hm => ?_⟩
  obtain rfl := List.mem_singleton.1 hm
  exact hR

/-- what stands for the law's second half -/
structure MSt (X : World) (B bx g10 : Nat) (n : ByteArray) (A5 Am Ag A' : Option Addr) (R : List Co) (l : List Fd) (gT : Nat) (hT : List Tm) : Prop where
  nm : X.cell? ⟨bx, 1, none⟩ = some (.string n)
  d : CoR X B A5 R
  mine : CoR X B Am (R ++ mksC 9)
  given : FRow X B Ag (l ++ mksF 9)
  rc : FRow X B A' l
  hist : HsAt X B (some ⟨gT, 0, none⟩) hT
  hbox : X.cell? ⟨g10, 0, none⟩ = some (.slice (some ⟨gT, 0, none⟩) 1 1)
  bxB : bx < B
  gB : g10 < B
theorem MSt.below {X X' : World} {B bx g10 : Nat} {n : ByteArray} {A5 Am Ag A' : Option Addr} {R : List Co} {l : List Fd} {gT : Nat} {hT : List Tm} (h : MSt X B bx g10 n A5 Am Ag A' R l gT hT) (hb : Below B X X') : MSt X' B bx g10 n A5 Am Ag A' R l gT hT :=
  ⟨(hb.cell (p := ⟨bx, 1, none⟩) h.bxB).trans h.nm, h.d.below hb, h.mine.below hb, h.given.below hb, h.rc.below hb, h.hist.below hb, (hb.cell (p := ⟨g10, 0, none⟩) h.gB).trans h.hbox, h.bxB, h.gB⟩
end Go.Proofs.YtnflbnchkcigiaaDoor
