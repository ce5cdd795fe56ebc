/- The code's reader of an expression in memory: its block, its nodes, what calls at it leave as it was. No walk here. -/
import Derived.Test.YtipcgmaobiobbaaGreatDoorParGe
import Derived.Test.YtipcgmaobiobbaaGreatDoorParGb
import Derived.Test.YtipcgmaobiobbaaGreatDoorParGa
import Derived.Deep.RegionLaw
import Derived.StillTailTactics
import Derived.Deep.QuietTactic
import Derived.BigQuiet
import Derived.Deep.LoopGhost
import Derived.Deep.RegionHeld3
namespace Go.Proofs.YtipcgmaobiobbaaGreatDoor
open Go.RowKit

/-- what a call at an expression leaves as it was: all blocks but the reader's, the expression's and its row's -/
structure Fx (g x : Nat) (A : Option Addr) (w w' : World) (A' : Option Addr) : Prop where
  os : w'.os = w.os
  tape : w'.tape = w.tape
  output : w'.output = w.output
  size : w.heap.size ≤ w'.heap.size
  block : ∀ k, k < w.heap.size → k ≠ g → k ≠ x → obk A ≠ some k → w'.heap[k]? = w.heap[k]?
  own : ∀ k, obk A' = some k → obk A = some k ∨ w.heap.size ≤ k
section
variable {g x : Nat} {A A' A'' : Option Addr} {w w' w'' : World}
theorem Fx.trans (h : Fx g x A w w' A') (k : Fx g x A' w' w'' A'') : Fx g x A w w'' A'' := by
  refine ⟨k.os.trans h.os, k.tape.trans h.tape, k.output.trans h.output, Nat.le_trans h.size k.size, fun i hi h1 h2 h3 => ?_, fun i hi => ?_⟩
  · refine (k.block i (Nat.lt_of_lt_of_le hi h.size) h1 h2 fun e => ?_).trans (h.block i hi h1 h2 h3)
    rcases h.own i e with e2 | e2
    · exact h3 e2
    · omega
  · rcases k.own i hi with e | e
    · exact h.own i e
    · exact .inr (Nat.le_trans h.size e)
theorem Fx.of (h : Below w.heap.size w w') : Fx g x A w w' A := ⟨h.os, h.tape, h.output, h.size, fun k hk _ _ _ => h.block k hk, fun _ hk => .inl hk⟩
theorem Fx.gn (h : Gn g w w') : Fx g x A w w' A := ⟨h.os, h.tape, h.output, h.size, fun _ hk h1 _ _ => h.other hk h1, fun _ hk => .inl hk⟩
theorem Fx.gx (h : Gn x w w') : Fx g x A w w' A := ⟨h.os, h.tape, h.output, h.size, fun _ hk _ h2 _ => h.other hk h2, fun _ hk => .inl hk⟩
theorem Fx.refl (w : World) : Fx g x A w w A := .of (Below.refl _ w)
end

def exC (g : Nat) (An : Option Addr) (n cn : Nat) (o : Int) : Array Value := #[.pointer (some ⟨g, 0, none⟩), .slice An n cn, .int .i64 o]
def EB (w : World) (x g : Nat) (An : Option Addr) (n cn : Nat) (o : Int) : Prop := w.heap[x]? = some (.cells (exC g An n cn o) 100 (0, 0))
section
variable {w w' : World} {x g n cn : Nat} {An : Option Addr} {o : Int}
theorem EB.len (h : EB w x g An n cn o) : x < w.heap.size := (Array.getElem?_eq_some_iff.1 h).1
theorem EB.cells (h : EB w x g An n cn o) : w.cell? ⟨x, 0, none⟩ = some (.pointer (some ⟨g, 0, none⟩)) ∧ w.cell? ⟨x, 1, none⟩ = some (.slice An n cn) ∧ w.cell? ⟨x, 2, none⟩ = some (.int .i64 o) := by
  have q := fun j => cell_of_row w x j _ 100 (0, 0) h
  exact ⟨q 0, q 1, q 2⟩
theorem EB.frozen (h : EB w x g An n cn o) (i : Nat) : w.frozen? ⟨x, i, none⟩ = false := by
  unfold EB at h
  simp [World.frozen?, h]
theorem EB.keep (h : EB w x g An n cn o) (hb : w'.heap[x]? = w.heap[x]?) : EB w' x g An n cn o := hb.trans h
theorem EB.setN (h : EB w x g An n cn o) (A' : Option Addr) (n' c' : Nat) : EB (w.setCell ⟨x, 1, none⟩ (.slice A' n' c')) x g A' n' c' o := heap_setCell_same w x 1 _ _ _ h
theorem EB.setO (h : EB w x g An n cn o) (o' : Int) : EB (w.setCell ⟨x, 2, none⟩ (.int .i64 o')) x g An n cn o' := heap_setCell_same w x 2 _ _ _ h
end

/-- an expression's reader: its rows from B on; o levels are open -/
structure XS (w : World) (x g : Nat) (A : Option Addr) (c : Nat) (T : List Tk) (p : PS) (B : Nat) (An : Option Addr) (cn : Nat) (l : List Nd) (o : Int) : Prop where
  rs : RS w g A c T p
  blk : EB w x g An l.length cn o
  own : OwnN w B An cn l
  gx : g < x
  xB : x < B
  Bw : B ≤ w.heap.size
  ok : p.flt = 0 → l = p.nds ∧ p.opn = o ∧ o ≤ 100
  o0 : 0 ≤ o ∧ o ≤ 101
section
variable {w w' : World} {x g : Nat} {A : Option Addr} {c : Nat} {T : List Tk} {p q : PS} {B : Nat} {An : Option Addr} {cn : Nat} {l : List Nd} {o : Int}
theorem RS.same (h : RS w g A c T p) (hi : q.i = p.i) (hp : q.plc = p.plc) (hf : q.flt = p.flt) : RS w g A c T q := by
  have e : rdC A T.length c q = rdC A T.length c p := by unfold rdC cx; rw [hi, hp, hf]
  refine ⟨?_, h.row, h.ends, ?_, h.few⟩
  · unfold RB; rw [e]; exact h.blk
  · have : p.i < T.length := h.inn
    show q.i < T.length
    omega
theorem XS.ownlt (h : XS w x g A c T p B An cn l o) : ∀ k, obk An = some k → B ≤ k ∧ k < w.heap.size := fun k hk => World.ownsRow.lt h.own k (by rw [obk_own]; exact hk)
theorem XS.below (h : XS w x g A c T p B An cn l o) (hb : Below w.heap.size w w') : XS w' x g A c T p B An cn l o :=
  ⟨h.rs.below hb, h.blk.keep (hb.block x h.blk.len), h.own.then_ hb, h.gx, h.xB, Nat.le_trans h.Bw hb.size, h.ok, h.o0⟩
theorem own_gn {gg : Nat} (h : OwnN w B An cn l) (hg : Gn gg w w') (hne : gg < B) : OwnN w' B An cn l := by
  refine World.ownsRow.kept h hg ?_
  cases hv : (Value.slice An l.length cn).ownBlock with
  | none => exact .inl rfl
  | some k =>
    refine .inr fun e => ?_
    have := (World.ownsRow.lt h k hv).1
    have := Option.some.inj e
    omega
/-- behind a call that wrote the reader's block alone -/
theorem XS.turn (h : XS w x g A c T p B An cn l o) (hg : Gn g w w') (hr : RS w' g A c T q) (hok : q.flt = 0 → l = q.nds ∧ q.opn = o ∧ o ≤ 100) : XS w' x g A c T q B An cn l o := by
  have := h.gx
  have := h.xB
  exact ⟨hr, h.blk.keep (hg.other h.blk.len (by omega)), own_gn h.own hg (by omega), h.gx, h.xB, Nat.le_trans h.Bw hg.size, hok, h.o0⟩
/-- what stands in another block stands still -/
theorem Fx.far {A' : Option Addr} (h : XS w x g A c T p B An cn l o) (f : Fx g x An w w' A') {k : Nat} (hk : B ≤ k) (hk2 : k < w.heap.size) (hne : obk An ≠ some k) : w'.heap[k]? = w.heap[k]? := by
  have := h.gx
  have := h.xB
  exact f.block k hk2 (by omega) (by omega) hne
end

/-- how far a state has come, a fault counted -/
def PS.mu (p : PS) : Nat := p.i + (if p.flt = 0 then 0 else 1)
theorem mu_go {p q : PS} (h : Go_ p q) : p.mu ≤ q.mu := by
  unfold PS.mu
  by_cases z : p.flt = 0
  · rw [if_pos z]
    have := h.1
    split <;> omega
  · obtain ⟨a, _, b⟩ := h.2 z
    rw [a, b]
    exact Nat.le_refl _
theorem mu_in {T : List Tk} {p : PS} (h : In_ T p) : p.mu ≤ T.length := by
  have : p.i < T.length := h
  unfold PS.mu
  split <;> omega
theorem mu_next {p : PS} (h : p.flt = 0) : p.next.mu = p.mu + 1 := by
  unfold PS.mu
  rw [if_pos h, if_pos (show p.next.flt = 0 from h)]
  rfl

/-- one node that was just laid, appended: where it lies -/
theorem run_app_ndx {w : World} {base : Nat} {A : Option Addr} {c : Nat} {l : List Nd} (ho : OwnN w base A c l) (x : Nd) (r : List Nd) (hr : r = l ++ [x]) (hm : r.length ≤ 2000000000) (hbase : base ≤ w.heap.size) :
    ∃ g c' w', (Builtin.append_ #[25, 25] 25 #[.slice A l.length c, .slice (some ⟨w.heap.size, 0, none⟩) 1 1]).run Tryz.prog (w.alloc (.cells (ndC x) 64)) = .ok (.slice (some ⟨g, 0, none⟩) r.length c') w' ∧
      OwnN w' base (some ⟨g, 0, none⟩) c' r ∧ (obk A = some g ∨ w.heap.size ≤ g) ∧ w.grownBy w' (obk A) := by
  cases hq : Tryz.prog.info? 64 with
  | none => have := infoN; rw [hq] at this; cases this
  | some i0 =>
    have hI := infoN
    rw [hq] at hI
    simp only [Option.map_some, Option.some.injEq, Prod.mk.injEq] at hI
    obtain ⟨hz0, hz1, hz2⟩ := hI
    subst hr
    have hln : (l ++ [x]).length = l.length + 1 := List.length_append
    rw [hln] at hm
    obtain ⟨v', w', hr, hown, hg, _, hat⟩ := run_append_own_at (P := Tryz.prog) (w.alloc (.cells (ndC x) 64)) base 25 25 64 i0 _ 5 48 Tryz.underlying25 hq hz0 hz1 hz2 rfl (by decide) _ l.length (flatN l) (ho.new _) ⟨w.heap.size, 0, none⟩ 1 1 (ndC x).toList
      rfl (fun j u hu => by rw [Addr.add_lit, Nat.zero_add, cell_of_row _ w.heap.size _ (ndC x) 64 (0, 0) (heap_alloc_new w _), ← Array.getElem?_toList]; exact hu)
      (fun u hu => by simp only [ndC, List.mem_cons, List.not_mem_nil, or_false] at hu; rcases hu with rfl | rfl | rfl | rfl | rfl <;> rfl) (by simp only [maxLen]; omega) (by omega) (by simp; omega)
    have e : flatN l ++ (ndC x).toList = flatN (l ++ [x]) := by rw [flatN_append]; simp [flatN]
    rw [e, ← hln] at hown
    rw [obk_own] at hg hat
    have hg2 : w.grownBy w' (obk A) := grown_trans (below_grown ((Below.refl _ w).alloc (Nat.le_refl _) _) _) hg
    rcases hown.2 with ⟨_, h0⟩ | ⟨g, cap, cur, rfl, rest⟩
    · rw [hln] at h0; omega
    · refine ⟨g, cap, w', hr, hown, ?_, hg2⟩
      rcases hat with h | h
      · exact .inl h.symm
      · have : g = (w.alloc (.cells (ndC x) 64)).heap.size := Option.some.inj h
        exact .inr (by rw [this]; simp)
theorem fold_max (l : List Nat) : ∀ d, d ≤ 100 → (∀ x ∈ l, x ≤ 100) → l.foldl max d ≤ 100 := by
  induction l with
  | nil => exact fun d h _ => h
  | cons a r ih => exact fun d h hl => ih (max d a) (by have := hl a (.head _); omega) fun x hx => hl x (.tail _ hx)
end Go.Proofs.YtipcgmaobiobbaaGreatDoor
/- The walk of the code: a node put. -/
namespace Go.Proofs.YtipcgmaobiobbaaGreatDoor
open Go.RowKit

/-- what is put: a node, behind its kids -/
def PutAt (x g : Nat) (A : Option Addr) (c : Nat) (T : List Tk) (p : PS) (B : Nat) (An : Option Addr) (l : List Nd) (o : Int) (y : Nd) (k : Nat) (w : World) (e : Ending) (w' : World) : Prop :=
  ∃ d An' cn', e = .returned (.int .i64 d) ∧ XS w' x g A c T (p.emit y k) B An' cn' (l ++ [y]) o ∧ Fx g x An w w' An' ∧ ((p.emit y k).flt = 0 → d = ((p.dps.drop (p.dps.length - k)).foldl max 0 + 1 : Nat))

set_option maxRecDepth 100000 in
set_option maxHeartbeats 4000000 in
theorem cput_any {w : World} {x g : Nat} {A : Option Addr} {c : Nat} {T : List Tk} {p : PS} {B : Nat} {An : Option Addr} {cn : Nat} {l : List Nd} {o : Int} (h : XS w x g A c T p B An cn l o) (y : Nd) (k : Nat) (kids : Int)
    (hk : p.flt = 0 → ∃ kn : Nat, kids = kn ∧ kn ≤ 100 ∧ kn = (p.dps.drop (p.dps.length - k)).foldl max 0) (hl : l.length ≤ 2000001) :
    Calls Tryz.prog 73 #[.pointer (some ⟨x, 0, none⟩), .agg #[.int .i64 (y.op : Nat), .int .i64 (y.n : Nat), .int .u64 (y.num : Nat), .string (str y.t), .int .i64 (y.a : Nat)], .int .i64 kids] w (PutAt x g A c T p B An l o y k w) := by
  have hgx := h.gx
  have hxB := h.xB
  have hxl := h.blk.len
  have hBw := h.Bw
  have hba : Below w.heap.size w (w.alloc (.cells #[.int .i64 (y.op : Nat), .int .i64 (y.n : Nat), .int .u64 (y.num : Nat), .string (str y.t), .int .i64 (y.a : Nat)] 64)) := (Below.refl _ w).alloc (Nat.le_refl _) _
  have hX : NBlk (w.alloc (.cells #[.int .i64 (y.op : Nat), .int .i64 (y.n : Nat), .int .u64 (y.num : Nat), .string (str y.t), .int .i64 (y.a : Nat)] 64)) w.heap.size y := NBlk.new w y
  have ha := h.below hba
  have hsz : (w.alloc (.cells #[.int .i64 (y.op : Nat), .int .i64 (y.n : Nat), .int .u64 (y.num : Nat), .string (str y.t), .int .i64 (y.a : Nat)] 64)).heap.size = w.heap.size + 1 := by simp
  have hlt := h.ownlt
  obtain ⟨W1, hW1⟩ : ∃ W1, w.alloc (.cells #[.int .i64 (y.op : Nat), .int .i64 (y.n : Nat), .int .u64 (y.num : Nat), .string (str y.t), .int .i64 (y.a : Nat)] 64) = W1 := ⟨_, rfl⟩
  rw [hW1] at hba hX ha hsz
  obtain ⟨e0, e1, _⟩ := ha.blk.cells
  obtain ⟨n0, n1, n2, n3, n4⟩ := hX.cells
  obtain ⟨r, hr⟩ : ∃ r, r = l ++ [y] := ⟨_, rfl⟩
  have hod : OwnN W1.drew B An cn l := ha.own
  obtain ⟨g4, c4, w4, hrun, hown4, hat, hgr⟩ := run_app_ndx hod y r hr (by rw [hr, List.length_append]; show l.length + 1 ≤ _; omega) (by show B ≤ W1.heap.size; omega)
  replace hgr : W1.grownBy w4 (obk An) := ⟨hgr.os, hgr.tape, hgr.output, hgr.size, hgr.block⟩
  have hat2 : obk An = some g4 ∨ W1.heap.size ≤ g4 := hat
  have hg4x : g4 ≠ x ∧ g4 ≠ g ∧ g4 ≠ w.heap.size := by
    rcases hat2 with z | z
    · have := hlt g4 z; omega
    · omega
  have hne : ∀ b, b < B ∨ b = w.heap.size → obk An ≠ some b := fun b hb e => by have := hlt b e; omega
  have hB4 : ∀ b, b < W1.heap.size → (b < B ∨ b = w.heap.size) → w4.heap[b]? = W1.heap[b]? := fun b hb hb2 => hgr.block b hb fun e => hne b hb2 e.symm
  have hx4 : EB w4 x g An l.length cn o := ha.blk.keep (hB4 x (by omega) (.inl hxB))
  have f41 := hx4.frozen 1
  obtain ⟨x40, x41, _⟩ := hx4.cells
  have hbelow4 : Below B W1 w4 := ⟨hgr.os, hgr.tape, hgr.output, hgr.size, fun b hb => hB4 b (by omega) (.inl hb)⟩
  -- behind the store
  obtain ⟨w5, hw5⟩ : ∃ w5, w4.setCell ⟨x, 1, none⟩ (.slice (some ⟨g4, 0, none⟩) r.length c4) = w5 := ⟨_, rfl⟩
  have hx5 : EB w5 x g (some ⟨g4, 0, none⟩) r.length c4 o := by rw [← hw5]; exact hx4.setN _ _ _
  have hoth : ∀ b, b ≠ x → w5.heap[b]? = w4.heap[b]? := fun b hb => by rw [← hw5]; exact Below.heap_setCell w4 ⟨x, 1, none⟩ _ b hb
  have hs5 : w5.heap.size = w4.heap.size := by rw [← hw5]; simp
  have hr5 : RS w5 g A c T p := ha.rs.keep ⟨by rw [← hw5]; exact hgr.os, by rw [← hw5]; exact hgr.tape, by rw [← hw5]; exact hgr.output, by rw [hs5]; exact hgr.size, fun b hb => (hoth b (by omega)).trans (hB4 b (by omega) (.inl (by omega)))⟩ ((hoth g (by omega)).trans (hB4 g (by omega) (.inl (by omega))))
  have hn5 : NBlk w5 w.heap.size y := hX.keep ((hoth _ (by omega)).trans (hB4 _ (by omega) (.inr rfl)))
  have ho5 : OwnN w5 B (some ⟨g4, 0, none⟩) c4 r := by
    refine World.ownsRow.kept hown4 (row := some x) (by rw [← hw5]; exact (Gn.refl x w4).set 1 _) (.inr fun e => hg4x.1 (Option.some.inj e))
  have hf5 : Fx g x An w w5 (some ⟨g4, 0, none⟩) := by
    refine (Fx.of hba).trans ⟨by rw [← hw5]; exact hgr.os, by rw [← hw5]; exact hgr.tape, by rw [← hw5]; exact hgr.output, by rw [hs5]; exact hgr.size, fun b hb h1 h2 h3 => (hoth b h2).trans (hgr.block b hb fun e => h3 e.symm), fun b hb => ?_⟩
    obtain rfl : g4 = b := Option.some.inj hb
    exact hat2
  obtain ⟨d0, d1, _⟩ := hx5.cells
  obtain ⟨m0, m1, m2, m3, m4⟩ := hn5.cells
  rw [World.alloc_drew, show W1.drew.heap.size = w.heap.size + 1 from hsz] at hrun
  have HRUN : Hid ((Builtin.append_ #[25, 25] 25 #[.slice An l.length cn, .slice (some ⟨w.heap.size + 1, 0, none⟩) 1 1]).run Tryz.prog (W1.alloc (.cells #[.int .i64 (y.op : Nat), .int .i64 (y.n : Nat), .int .u64 (y.num : Nat), .string (str y.t), .int .i64 (y.a : Nat)] 64)).drew = .ok (.slice (some ⟨g4, 0, none⟩) r.length c4) w4) := hrun
  have ho0 := h.o0
  have hB5 : B ≤ w5.heap.size := by rw [hs5]; have := hgr.size; omega
  have hd5 : Below w5.heap.size w5 w5.drew := Below.thenN (Below.refl _ _) 1
  have CF := Lib.hid (cfault_any (hr5.below hd5) y.a 91 (by decide))
  have d0' : w5.drew.cell? ⟨x, 0, none⟩ = some (.pointer (some ⟨g, 0, none⟩)) := d0
  have m4' : w5.drew.cell? ⟨w.heap.size, 4, none⟩ = some (.int .i64 (y.a : Nat)) := m4
  have END1 : Hid (∀ w6, RS w6 g A c T (p.fail y.a 91) → Gn g w5.drew w6 → (100 : Int) ≤ kids → PutAt x g A c T p B An l o y k w (.returned (.int .i64 (wrap64 (kids + 1)))) w6) := by
    intro w6 hr6 hg hge
    have he : p.emit y k = p.fail y.a 91 := by
      by_cases z : p.flt = 0
      · obtain ⟨kn, e1, e2, e3⟩ := hk z
        rw [emit_at z, if_pos (by rw [← e3]; omega)]
      · rw [emit_stuck z, fail_stuck z]
    have hg6 : Gn g w5 w6 := (Gn.of hd5).trans hg
    have hnf := fail_flt (p := p) (a := y.a) (e := 91) (by decide)
    unfold PutAt
    rw [he, ← hr]
    exact ⟨_, _, _, rfl, ⟨hr6, hx5.keep (hg6.other hx5.len (by omega)), own_gn ho5 hg6 (by omega), hgx, hxB, Nat.le_trans hB5 hg6.size, fun z => absurd z hnf, ho0⟩, hf5.trans (Fx.gn hg6), fun z => absurd z hnf⟩
  have END2 : Hid (¬ (100 : Int) ≤ kids → PutAt x g A c T p B An l o y k w (.returned (.int .i64 (wrap64 (kids + 1)))) w5) := by
    intro hge
    unfold PutAt
    by_cases z : p.flt = 0
    · obtain ⟨kn, e1, e2, e3⟩ := hk z
      obtain ⟨q1, q2, q3⟩ := h.ok z
      rw [emit_at z, ← e3, if_neg (by omega), ← hr]
      refine ⟨_, _, _, rfl, ⟨hr5.same rfl rfl rfl, hx5, ho5, hgx, hxB, hB5, fun _ => ⟨?_, q2, q3⟩, ho0⟩, hf5, fun _ => ?_⟩
      · rw [hr, q1]
      · rw [e1, show wrap64 ((kn : Int) + 1) = kn + 1 by unfold wrap64; omega]
        rfl
    · rw [emit_stuck z, ← hr]
      exact ⟨_, _, _, rfl, ⟨hr5, hx5, ho5, hgx, hxB, hB5, fun q => absurd q z, ho0⟩, hf5, fun q => absurd q z⟩
  clear h ha hX hod hrun hown4 hat hat2 hgr hne hB4 hx4 hbelow4 hx5 hoth hr5 hn5 ho5 hf5 hk hba hlt hr
  go_enter Tryz.func73, Tryz.ntmps73
  go_wp2
  go_region_law (first
    | (refine step_append_run rfl (.tmp 11) (.tmp 13) _ rfl rfl rfl HRUN.out ?_))
  all_goals
    by_cases hge : (100 : Int) ≤ kids
    · go_wp2
      go_still_tail 6, (by kernel_rfl)
      go_wp2_with (go_at_call 36; refine CF.out.mono ?_; rintro e w6 ⟨rfl, hr6, hg6⟩; have HR6 := Lib.hid hr6; have HG6 := Lib.hid hg6; clear hr6 hg6)
      go_ret
      exact END1.out _ HR6.out HG6.out hge
    · go_wp2
      go_ret
      exact END2.out hge
end Go.Proofs.YtipcgmaobiobbaaGreatDoor
/- The walks of the code: a level opened, a level shut, a leaf. -/
namespace Go.Proofs.YtipcgmaobiobbaaGreatDoor
open Go.RowKit

section
variable {w w' : World} {x g : Nat} {A : Option Addr} {c : Nat} {T : List Tk} {p q : PS} {B : Nat} {An : Option Addr} {cn : Nat} {l : List Nd} {o : Int}
theorem RS.alike (h : RS w g A c T p) (hr : rdC A T.length c q = rdC A T.length c p) (hi : In_ T q) : RS w g A c T q := ⟨by unfold RB; rw [hr]; exact h.blk, h.row, h.ends, hi, h.few⟩
theorem own_other {k : Nat} (h : OwnN w B An cn l) (hg : Gn k w w') (hne : obk An ≠ some k) : OwnN w' B An cn l := by
  refine World.ownsRow.kept h hg ?_
  rw [obk_own]
  exact .inr hne
/-- another number of open levels -/
theorem XS.setO (h : XS w x g A c T p B An cn l o) (o' : Int) (hr : RS w g A c T q) (hok : q.flt = 0 → l = q.nds ∧ q.opn = o' ∧ o' ≤ 100) (ho : 0 ≤ o' ∧ o' ≤ 101) : XS (w.setCell ⟨x, 2, none⟩ (.int .i64 o')) x g A c T q B An cn l o' := by
  have hg : Gn x w (w.setCell ⟨x, 2, none⟩ (.int .i64 o')) := (Gn.refl x w).set 2 _
  have := h.gx
  have := h.xB
  refine ⟨hr.keep (hg.below (by have := h.blk.len; omega) (by omega)) (hg.other hr.len (by omega)), h.blk.setO _, own_other h.own hg (fun e => by have := (h.ownlt _ e).1; omega), h.gx, h.xB, by simpa using h.Bw, hok, ho⟩
/-- a block of the frame's own written -/
theorem XS.far {k : Nat} (h : XS w x g A c T p B An cn l o) (hg : Gn k w w') (hk : B ≤ k) (hne : obk An ≠ some k) : XS w' x g A c T p B An cn l o := by
  have := h.gx
  have := h.xB
  exact ⟨h.rs.keep ((hg.below h.Bw hk).mono (by omega)) (hg.other h.rs.len (by omega)), h.blk.keep (hg.other h.blk.len (by omega)), own_other h.own hg hne, h.gx, h.xB, Nat.le_trans h.Bw hg.size, h.ok, h.o0⟩
theorem Fx.new {A' : Option Addr} {w1 w2 : World} {k : Nat} (f : Fx g x An w w1 A') (hk : w.heap.size ≤ k) (hg : Gn k w1 w2) : Fx g x An w w2 A' :=
  ⟨hg.os.trans f.os, hg.tape.trans f.tape, hg.output.trans f.output, Nat.le_trans f.size hg.size, fun i hi h1 h2 h3 => (hg.other (Nat.lt_of_lt_of_le hi f.size) (by omega)).trans (f.block i hi h1 h2 h3), f.own⟩
end
theorem level_i {T : List Tk} {p : PS} (h : (p.level T).flt = 0) : (p.level T).i = p.i + 1 := by
  unfold PS.level at h ⊢
  split
  · rename_i q
    rw [if_pos q] at h
    exact absurd h q
  · rename_i q
    rw [if_neg q] at h
    split
    · rename_i q2
      rw [if_pos q2] at h
      exact absurd h (fail_flt (by decide))
    · rfl

theorem take_parts {w : World} {g : Nat} {A : Option Addr} {c : Nat} {T : List Tk} {p : PS} (h : RS w g A c T p) (h0 : p.flt = 0) (hk : (p.tok T).k ≠ 0) {x : Tk} (hx : p.tok T = x) :
    Calls Tryz.prog 72 #[.pointer (some ⟨g, 0, none⟩)] w fun e w' => e = .returned (.agg #[.int .i64 (x.k : Nat), .string (str x.t), .int .u64 (x.n : Nat), .int .i64 (x.a : Nat), .int .i64 (x.e : Nat)]) ∧ RS w' g A c T p.next ∧ Gn g w w' := by
  subst hx
  exact ctake_any h h0 hk

set_option maxRecDepth 100000 in
set_option maxHeartbeats 2000000 in
theorem center_any {w : World} {x g : Nat} {A : Option Addr} {c : Nat} {T : List Tk} {p : PS} {B : Nat} {An : Option Addr} {cn : Nat} {l : List Nd} {o : Int} (h : XS w x g A c T p B An cn l o) (h0 : p.flt = 0) (hk : (p.tok T).k ≠ 0) :
    Calls Tryz.prog 123 #[.pointer (some ⟨x, 0, none⟩)] w fun e w' => e = .returned (.int .i64 ((p.tok T).a : Nat)) ∧ XS w' x g A c T (p.level T) B An cn l (o + 1) ∧ Fx g x An w w' An := by
  obtain ⟨y, hy⟩ : ∃ y, p.tok T = y := ⟨_, rfl⟩
  have ct := take_parts h.rs h0 hk hy
  rw [hy]
  have ga := cfld_a y
  obtain ⟨q1, q2, q3⟩ := h.ok h0
  have ho0 := h.o0
  have hxl := h.blk.len
  obtain ⟨e0, e1, e2⟩ := h.blk.cells
  have H := Lib.hid h
  -- behind the token
  have H2 : Hid (∀ w2, RS w2 g A c T p.next → Gn g w w2 → XS w2 x g A c T p.next B An cn l o) := fun w2 hr hg => h.turn hg hr fun _ => ⟨q1, q2, q3⟩
  have hnl : p.opn = 100 → p.level T = p.fail y.a 91 := fun e => by unfold PS.level; rw [if_neg (by rw [h0]; decide), if_pos e, hy]
  have hyl : p.opn ≠ 100 → p.level T = { p with opn := p.opn + 1, i := p.i + 1 } := fun e => by unfold PS.level; rw [if_neg (by rw [h0]; decide), if_neg e]
  by_cases ho : p.opn = 100
  · have hoz : (100 : Int) < o + 1 := by omega
    have hnf := fail_flt (p := p) (a := y.a) (e := 91) (by decide)
    have hnf2 := fail_flt (p := p.next) (a := y.a) (e := 91) (by decide)
    have CF : Hid (∀ w2, RS w2 g A c T p.next → Gn g w w2 → Calls Tryz.prog 36 #[.pointer (some ⟨g, 0, none⟩), .int .i64 (y.a : Nat), .int .i64 91] (w2.setCell ⟨x, 2, none⟩ (.int .i64 (o + 1))) fun r w' => r = .returned (.tuple #[]) ∧ XS w' x g A c T (p.level T) B An cn l (o + 1) ∧ Fx g x An w w' An) := fun w2 hr hg => by
      have hX2 := H2.out w2 hr hg
      have := hX2.gx
      have := hX2.xB
      have hgx : Gn x w2 (w2.setCell ⟨x, 2, none⟩ (.int .i64 (o + 1))) := (Gn.refl x w2).set 2 _
      have hr3 : RS (w2.setCell ⟨x, 2, none⟩ (.int .i64 (o + 1))) g A c T p.next := hr.keep (hgx.below (by have := hX2.blk.len; omega) (by omega)) (hgx.other hr.len (by omega))
      refine (cfault_any hr3 y.a 91 (by decide)).mono ?_
      rintro r w4 ⟨rfl, hr4, hg4⟩
      have hl3 : x < (w2.setCell ⟨x, 2, none⟩ (.int .i64 (o + 1))).heap.size := by simpa using hX2.blk.len
      refine ⟨rfl, ?_, ((Fx.gn hg).trans (Fx.gx hgx)).trans (Fx.gn hg4)⟩
      rw [hnl ho]
      refine ⟨hr4.alike ?_ (in_fail h.rs.inn _ _), (hX2.blk.setO _).keep (hg4.other hl3 (by omega)), own_gn (own_other hX2.own hgx (fun e => by have := (hX2.ownlt _ e).1; omega)) hg4 (by omega), hX2.gx, hX2.xB, Nat.le_trans (by simpa using hX2.Bw) hg4.size, fun z => absurd z hnf, by omega⟩
      have e1 : p.fail y.a 91 = { p with flt := 91, plc := y.a } := if_pos h0
      have e2 : p.next.fail y.a 91 = { p.next with flt := 91, plc := y.a } := if_pos h0
      rw [e1, e2]
      rfl
    clear h hk q1 hnl hyl hy h0
    go_enter Tryz.func123, Tryz.ntmps123
    go_wp2_with (first
      | (go_at_call 72; refine ct.mono ?_; rintro e w2 ⟨rfl, hr2, hg2⟩; have cf2 := CF.out w2 hr2 hg2; obtain ⟨d0, d1, d2⟩ := (H2.out w2 hr2 hg2).blk.cells; have f2 := (H2.out w2 hr2 hg2).blk.frozen 2; clear hr2 hg2)
      | (go_at_call 36; refine cf2.mono ?_; rintro e w4 ⟨rfl, hx4, hf4⟩; have HX4 := Lib.hid hx4; have HF4 := Lib.hid hf4; clear hx4 hf4))
    go_ret
    exact ⟨rfl, HX4.out, HF4.out⟩
  · have hoz : ¬ (100 : Int) < o + 1 := by omega
    have END : Hid (∀ w2, RS w2 g A c T p.next → Gn g w w2 → XS (w2.setCell ⟨x, 2, none⟩ (.int .i64 (o + 1))) x g A c T (p.level T) B An cn l (o + 1) ∧ Fx g x An w (w2.setCell ⟨x, 2, none⟩ (.int .i64 (o + 1))) An) := fun w2 hr hg => by
      rw [hyl ho]
      exact ⟨(H2.out w2 hr hg).setO _ (hr.same rfl rfl rfl) (fun _ => ⟨q1, by show p.opn + 1 = _; omega, by omega⟩) (by omega), (Fx.gn hg).trans (Fx.gx ((Gn.refl x w2).set 2 _))⟩
    clear h hk q1 hnl hyl hy h0
    go_enter Tryz.func123, Tryz.ntmps123
    go_wp2_with (go_at_call 72; refine ct.mono ?_; rintro e w2 ⟨rfl, hr2, hg2⟩; have HR2 := Lib.hid hr2; have HG2 := Lib.hid hg2; obtain ⟨d0, d1, d2⟩ := (H2.out w2 hr2 hg2).blk.cells; have f2 := (H2.out w2 hr2 hg2).blk.frozen 2; clear hr2 hg2)
    go_ret
    exact ⟨rfl, END.out w2 HR2.out HG2.out⟩
end Go.Proofs.YtipcgmaobiobbaaGreatDoor
/- The walks of the code: a level shut, a leaf; what a part of an expression answers. -/
namespace Go.Proofs.YtipcgmaobiobbaaGreatDoor
open Go.RowKit

/-- a part of an expression was read: its nodes were put, d is how deep the last of them is -/
def XIn (x g : Nat) (A : Option Addr) (c : Nat) (T : List Tk) (p q : PS) (B : Nat) (An : Option Addr) (l : List Nd) (o : Int) (w w' : World) (d : Int) : Prop :=
  ∃ An' cn' l', XS w' x g A c T q B An' cn' l' o ∧ Fx g x An w w' An' ∧ l'.length + p.mu ≤ l.length + q.mu ∧ (q.flt = 0 → ∃ dn : Nat, d = dn ∧ dn ≤ 100 ∧ q.dps = p.dps ++ [dn])
def XAt (x g : Nat) (A : Option Addr) (c : Nat) (T : List Tk) (p q : PS) (B : Nat) (An : Option Addr) (l : List Nd) (o : Int) (w : World) (e : Ending) (w' : World) : Prop :=
  ∃ d, e = .returned (.int .i64 d) ∧ XIn x g A c T p q B An l o w w' d

/-- the last depths, put together -/
theorem last_two (D : List Nat) (ks : List Nat) (k : Nat) (hk : ks.length = k) : (D ++ ks).drop ((D ++ ks).length - k) = ks := by
  rw [List.length_append, show D.length + ks.length - k = D.length by omega, List.drop_left]
theorem take_two (D : List Nat) (ks : List Nat) (k : Nat) (hk : ks.length = k) : (D ++ ks).take ((D ++ ks).length - k) = D := by
  rw [List.length_append, show D.length + ks.length - k = D.length by omega, List.take_left]
theorem emit_dps {r : PS} {y : Nd} {k : Nat} {D ks : List Nat} (hD : r.flt = 0 → r.dps = D ++ ks) (hk : ks.length = k) (h : (r.emit y k).flt = 0) : r.flt = 0 ∧ (r.emit y k).dps = D ++ [ks.foldl max 0 + 1] ∧ ks.foldl max 0 + 1 ≤ 100 ∧ (r.dps.drop (r.dps.length - k)).foldl max 0 = ks.foldl max 0 := by
  have h0 := (emit_ok h).1
  have e := hD h0
  have hd : (r.dps.drop (r.dps.length - k)) = ks := by rw [e]; exact last_two D ks k hk
  have ht : (r.dps.take (r.dps.length - k)) = D := by rw [e]; exact take_two D ks k hk
  rw [emit_at h0, hd, ht] at h ⊢
  by_cases z : 100 < ks.foldl max 0 + 1
  · rw [if_pos z] at h
    exact absurd h (fail_flt (by decide))
  · rw [if_neg z]
    exact ⟨h0, rfl, by omega, rfl⟩

/-- what is put behind its kids closes a part -/
theorem XIn.put {x g : Nat} {A : Option Addr} {c : Nat} {T : List Tk} {p r : PS} {B : Nat} {An Ar : Option Addr} {l lr : List Nd} {o : Int} {y : Nd} {k : Nat} {w w1 w' : World} {d : Int} {ks : List Nat} {An' : Option Addr} {cn' : Nat}
    (hx : XS w' x g A c T (r.emit y k) B An' cn' (lr ++ [y]) o) (hf : Fx g x An w w1 Ar) (hf2 : Fx g x Ar w1 w' An') (hd : (r.emit y k).flt = 0 → d = ((r.dps.drop (r.dps.length - k)).foldl max 0 + 1 : Nat))
    (hl : lr.length + 1 + p.mu ≤ l.length + r.mu) (hD : r.flt = 0 → r.dps = p.dps ++ ks) (hk : ks.length = k) : XIn x g A c T p (r.emit y k) B An l o w w' d := by
  refine ⟨An', cn', lr ++ [y], hx, hf.trans hf2, ?_, fun z => ?_⟩
  · have := mu_go (go_emit r y k)
    rw [List.length_append]
    show lr.length + 1 + p.mu ≤ _
    omega
  · obtain ⟨e0, e1, e2, e3⟩ := emit_dps hD hk z
    exact ⟨_, by rw [hd z, e3], by omega, e1⟩

set_option maxRecDepth 100000 in
set_option maxHeartbeats 1000000 in
theorem cleave_any {w : World} {x g : Nat} {A : Option Addr} {c : Nat} {T : List Tk} {p : PS} {B : Nat} {An : Option Addr} {cn : Nat} {l : List Nd} {o : Int} (h : XS w x g A c T p B An cn l (o + 1)) (ho : 0 ≤ o) :
    Calls Tryz.prog 124 #[.pointer (some ⟨x, 0, none⟩)] w fun e w' => e = .returned (.tuple #[]) ∧ XS w' x g A c T p.shut B An cn l o ∧ Fx g x An w w' An := by
  obtain ⟨e0, e1, e2⟩ := h.blk.cells
  have f2 := h.blk.frozen 2
  have hxl := h.blk.len
  have ho0 := h.o0
  have END := Lib.hid (h.setO (q := p.shut) o (h.rs.same rfl rfl rfl) (fun z => by
    obtain ⟨q1, q2, q3⟩ := h.ok z
    exact ⟨q1, by show p.opn - 1 = o; omega, by omega⟩) (by omega))
  have HF := Lib.hid (Fx.gx (g := g) (A := An) ((Gn.refl x w).set 2 (.int .i64 o)))
  clear h
  go_enter Tryz.func124, Tryz.ntmps124
  go_wp2
  have e : o + 1 - 1 = o := by omega
  go_end0
  exact ⟨rfl, END.out, HF.out⟩

set_option maxRecDepth 100000 in
set_option maxHeartbeats 2000000 in
theorem cleaf_any {w : World} {x g : Nat} {A : Option Addr} {c : Nat} {T : List Tk} {p : PS} {B : Nat} {An : Option Addr} {cn : Nat} {l : List Nd} {o : Int} (h : XS w x g A c T p B An cn l o) (h0 : p.flt = 0) (hk : (p.tok T).k ≠ 0) (hl : l.length ≤ p.mu) (y z : Nd) (hz : z = { y with a := (p.tok T).a }) :
    Calls Tryz.prog 105 #[.pointer (some ⟨x, 0, none⟩), .agg #[.int .i64 (y.op : Nat), .int .i64 (y.n : Nat), .int .u64 (y.num : Nat), .string (str y.t), .int .i64 (y.a : Nat)]] w (XAt x g A c T p (p.next.emit z 0) B An l o w) := by
  obtain ⟨t, ht⟩ : ∃ t, p.tok T = t := ⟨_, rfl⟩
  have hba : Below w.heap.size w (w.alloc (.cells #[.int .i64 (y.op : Nat), .int .i64 (y.n : Nat), .int .u64 (y.num : Nat), .string (str y.t), .int .i64 (y.a : Nat)] 64)) := (Below.refl _ w).alloc (Nat.le_refl _) _
  have hX : NBlk (w.alloc (.cells #[.int .i64 (y.op : Nat), .int .i64 (y.n : Nat), .int .u64 (y.num : Nat), .string (str y.t), .int .i64 (y.a : Nat)] 64)) w.heap.size y := NBlk.new w y
  have ha := h.below hba
  have hsz : (w.alloc (.cells #[.int .i64 (y.op : Nat), .int .i64 (y.n : Nat), .int .u64 (y.num : Nat), .string (str y.t), .int .i64 (y.a : Nat)] 64)).heap.size = w.heap.size + 1 := by simp
  have ct := take_parts ha.rs h0 hk ht
  have ga := cfld_a t
  have hgx := h.gx
  have hxB := h.xB
  have hBw := h.Bw
  have hxl := h.blk.len
  have hmu := mu_in h.rs.inn
  have hfew := h.rs.few
  obtain ⟨q1, q2, q3⟩ := h.ok h0
  have hne : obk An ≠ some w.heap.size := fun e => by have := h.ownlt _ e; omega
  rw [ht] at hz
  obtain ⟨W1, hW1⟩ : ∃ W1, w.alloc (.cells #[.int .i64 (y.op : Nat), .int .i64 (y.n : Nat), .int .u64 (y.num : Nat), .string (str y.t), .int .i64 (y.a : Nat)] 64) = W1 := ⟨_, rfl⟩
  rw [hW1] at hba hX ha hsz ct
  obtain ⟨e0, _, _⟩ := ha.blk.cells
  -- behind the token and the place
  have NXT : Hid (∀ w2, RS w2 g A c T p.next → Gn g W1 w2 → NBlk w2 w.heap.size y ∧ Calls Tryz.prog 73 #[.pointer (some ⟨x, 0, none⟩), .agg #[.int .i64 (y.op : Nat), .int .i64 (y.n : Nat), .int .u64 (y.num : Nat), .string (str y.t), .int .i64 (t.a : Nat)], .int .i64 0] (w2.setCell ⟨w.heap.size, 4, none⟩ (.int .i64 (t.a : Nat))) (XAt x g A c T p (p.next.emit z 0) B An l o w)) := fun w2 hr hg => by
    have hX2 := ha.turn hg hr fun _ => ⟨q1, q2, q3⟩
    refine ⟨hX.keep (hg.other (by omega) (by omega)), ?_⟩
    have hgk : Gn w.heap.size w2 (w2.setCell ⟨w.heap.size, 4, none⟩ (.int .i64 (t.a : Nat))) := (Gn.refl _ w2).set 4 _
    have hX3 := hX2.far hgk hBw hne
    have hF3 : Fx g x An w (w2.setCell ⟨w.heap.size, 4, none⟩ (.int .i64 (t.a : Nat))) An := ((Fx.of hba).trans (Fx.gn hg)).new (Nat.le_refl _) hgk
    have hzz : (Value.agg #[.int .i64 (y.op : Nat), .int .i64 (y.n : Nat), .int .u64 (y.num : Nat), .string (str y.t), .int .i64 (t.a : Nat)]) = .agg #[.int .i64 (z.op : Nat), .int .i64 (z.n : Nat), .int .u64 (z.num : Nat), .string (str z.t), .int .i64 (z.a : Nat)] := by rw [hz]
    rw [hzz]
    refine (cput_any hX3 z 0 0 (fun _ => ⟨0, rfl, by omega, ?_⟩) (by omega)).mono ?_
    · rw [Nat.sub_zero, List.drop_length]
      rfl
    · rintro e w' ⟨d, An', cn', rfl, hx, hf, hd⟩
      refine ⟨d, rfl, XIn.put (ks := []) hx hF3 hf hd ?_ (fun _ => (List.append_nil _).symm) rfl⟩
      rw [mu_next h0]
      omega
  clear h ha hX hk hz ht hl q1 hmu
  go_enter Tryz.func105, Tryz.ntmps105
  go_wp2_with (first
    | (go_at_call 72; refine ct.mono ?_; rintro e w2 ⟨rfl, hr2, hg2⟩; obtain ⟨hX2, cp2⟩ := NXT.out w2 hr2 hg2; obtain ⟨n0, n1, n2, n3, n4⟩ := hX2.cells; have f4 := hX2.frozen 4; clear hr2 hX2)
    | (go_at_call 73; refine cp2.mono ?_; rintro e w3 ⟨d, rfl, h3⟩; have H3 := Lib.hid h3; clear h3))
  go_ret
  exact ⟨d, rfl, H3.out⟩
end Go.Proofs.YtipcgmaobiobbaaGreatDoor
/- The greater of two numbers, at a step of the walk. No walk here. -/
namespace Go.Proofs.YtipcgmaobiobbaaGreatDoor
open Go.RowKit

/-- the tests and marks, as the code spells them -/
theorem atm_any {w : World} {g : Nat} {A : Option Addr} {c : Nat} {T : List Tk} {p : PS} (h : RS w g A c T p) (m : UInt8) : Calls Tryz.prog 71 #[.pointer (some ⟨g, 0, none⟩), .string ⟨#[m]⟩] w fun e w' => e = .returned (.bool (p.is T 4 [m])) ∧ Below w.heap.size w w' := catMark_any h [m]
theorem mk_any {w : World} {g : Nat} {A : Option Addr} {c : Nat} {T : List Tk} {p : PS} (h : RS w g A c T p) (m : UInt8) : Calls Tryz.prog 65 #[.pointer (some ⟨g, 0, none⟩), .string ⟨#[m]⟩] w fun e w' => e = .returned (.tuple #[]) ∧ RS w' g A c T (p.mark T m) ∧ Gn g w w' := cmark_any h m

/-- what the code's factor is held to, from a place on -/
def FacC (T : List Tk) (m : Nat) (fac : PS → PS) : Prop := ∀ {w : World} {x g : Nat} {A : Option Addr} {c : Nat} {p : PS} {B : Nat} {An : Option Addr} {cn : Nat} {l : List Nd} {o : Int},
  XS w x g A c T p B An cn l o → (p.flt ≠ 0 ∨ m ≤ p.i) → l.length ≤ p.mu → Calls Tryz.prog 92 #[.pointer (some ⟨x, 0, none⟩)] w (XAt x g A c T p (fac p) B An l o w)
def TermC (T : List Tk) (m : Nat) (fac : PS → PS) : Prop := ∀ {w : World} {x g : Nat} {A : Option Addr} {c : Nat} {p : PS} {B : Nat} {An : Option Addr} {cn : Nat} {l : List Nd} {o : Int},
  XS w x g A c T p B An cn l o → (p.flt ≠ 0 ∨ m ≤ p.i) → l.length ≤ p.mu → Calls Tryz.prog 70 #[.pointer (some ⟨x, 0, none⟩)] w (XAt x g A c T p (fac p) B An l o w)
def SumC (T : List Tk) (m : Nat) (fac : PS → PS) : Prop := ∀ {w : World} {x g : Nat} {A : Option Addr} {c : Nat} {p : PS} {B : Nat} {An : Option Addr} {cn : Nat} {l : List Nd} {o : Int},
  XS w x g A c T p B An cn l o → (p.flt ≠ 0 ∨ m ≤ p.i) → l.length ≤ p.mu → Calls Tryz.prog 40 #[.pointer (some ⟨x, 0, none⟩)] w (XAt x g A c T p (fac p) B An l o w)
end Go.Proofs.YtipcgmaobiobbaaGreatDoor
/- The walk of the code: a term. -/
namespace Go.Proofs.YtipcgmaobiobbaaGreatDoor
open Go.RowKit

/-- what a loop of operators does behind its mark: the next operand, and the node over both -/
theorem operand {T : List Tk} {x g : Nat} {A : Option Addr} {c : Nat} {p q : PS} {B : Nat} {An : Option Addr} {l : List Nd} {o : Int} {w wr : World} {d : Int} {fac : PS → PS} (G : ∀ p, Go_ p (fac p))
    (hI : XIn x g A c T p q B An l o w wr d) (h0 : q.flt = 0) (hl : l.length ≤ p.mu) (t : Tk) (y : Nd)
    (K : World → (Ending → World → Prop) → Prop)
    (F : ∀ {w : World} {An : Option Addr} {cn : Nat} {l : List Nd}, XS w x g A c T q.next B An cn l o → l.length ≤ q.next.mu → K w (XAt x g A c T q.next (fac q.next) B An l o w))
    (mono : ∀ {w : World} {Q Q' : Ending → World → Prop}, K w Q → (∀ e w', Q e w' → Q' e w') → K w Q')
    {w2 : World} (hr : RS w2 g A c T q.next) (hg : Gn g wr w2) :
    K (w2.alloc (.cells #[.int .i64 (t.k : Nat), .string (str t.t), .int .u64 (t.n : Nat), .int .i64 (t.a : Nat), .int .i64 (t.e : Nat)] 84)).drew fun e w6 => ∃ d2, e = .returned (.int .i64 d2) ∧ w6.cell? ⟨w2.heap.size, 3, none⟩ = some (.int .i64 (t.a : Nat)) ∧
      ∀ m, (if d2 > d then d2 else d) = m → Calls Tryz.prog 73 #[.pointer (some ⟨x, 0, none⟩), .agg #[.int .i64 (y.op : Nat), .int .i64 (y.n : Nat), .int .u64 (y.num : Nat), .string (str y.t), .int .i64 (y.a : Nat)], .int .i64 m] w6 fun e w7 => ∃ d7, e = .returned (.int .i64 d7) ∧ w7.cell? ⟨w2.heap.size, 3, none⟩ = some (.int .i64 (t.a : Nat)) ∧ Hid (XIn x g A c T p ((fac q.next).emit y 2) B An l o w w7 d7) := by
  obtain ⟨Aq, cq, lq, hX, hF, hL, hD⟩ := hI
  obtain ⟨q1, q2, q3⟩ := hX.ok h0
  have hX2 := hX.turn hg hr fun _ => ⟨q1, q2, q3⟩
  have hb3 : Below w2.heap.size w2 (w2.alloc (.cells #[.int .i64 (t.k : Nat), .string (str t.t), .int .u64 (t.n : Nat), .int .i64 (t.a : Nat), .int .i64 (t.e : Nat)] 84)).drew := Below.thenN ((Below.refl _ w2).alloc (Nat.le_refl _) _) 1
  have hX3 := hX2.below hb3
  have hF3 : Fx g x An w (w2.alloc (.cells #[.int .i64 (t.k : Nat), .string (str t.t), .int .u64 (t.n : Nat), .int .i64 (t.a : Nat), .int .i64 (t.e : Nat)] 84)).drew Aq := (hF.trans (Fx.gn hg)).trans (Fx.of hb3)
  have hc3 : (w2.alloc (.cells #[.int .i64 (t.k : Nat), .string (str t.t), .int .u64 (t.n : Nat), .int .i64 (t.a : Nat), .int .i64 (t.e : Nat)] 84)).drew.cell? ⟨w2.heap.size, 3, none⟩ = some (.int .i64 (t.a : Nat)) := (TBlk.new w2 t).cells.2.2.2.1
  have hs3 : (w2.alloc (.cells #[.int .i64 (t.k : Nat), .string (str t.t), .int .u64 (t.n : Nat), .int .i64 (t.a : Nat), .int .i64 (t.e : Nat)] 84)).drew.heap.size = w2.heap.size + 1 := by simp
  generalize (w2.alloc (.cells #[.int .i64 (t.k : Nat), .string (str t.t), .int .u64 (t.n : Nat), .int .i64 (t.a : Nat), .int .i64 (t.e : Nat)] 84)).drew = w3 at *
  have hmq : lq.length ≤ q.mu := by omega
  have hmn := mu_next h0
  have hBw2 := hX2.Bw
  have hneq : obk Aq ≠ some w2.heap.size := fun e => by have := hX2.ownlt _ e; omega
  refine mono (F hX3 (by omega)) ?_
  rintro e w6 ⟨d2, rfl, Ar, cr, lr, hX6, hF6, hL6, hD6⟩
  have hb6 := Fx.far hX3 hF6 hBw2 (by omega) hneq
  have hc6 := (World.cell?_of_block (a := ⟨w2.heap.size, 3, none⟩) hb6).trans hc3
  have hmr := mu_in hX6.rs.inn
  have hfew := hX6.rs.few
  have hner : obk Ar ≠ some w2.heap.size := fun e => by
    rcases hF6.own _ e with z | z
    · exact hneq z
    · omega
  refine ⟨d2, rfl, hc6, fun m hm => ?_⟩
  have hDr : (fac q.next).flt = 0 → ∃ a b : Nat, d = a ∧ d2 = b ∧ a ≤ 100 ∧ b ≤ 100 ∧ (fac q.next).dps = p.dps ++ [a, b] := fun z => by
    obtain ⟨b, e1, e2, e3⟩ := hD6 z
    obtain ⟨a, e4, e5, e6⟩ := hD h0
    refine ⟨a, b, e4, e1, e5, e2, ?_⟩
    have : q.next.dps = q.dps := rfl
    rw [e3, this, e6, List.append_assoc]
    rfl
  refine (cput_any hX6 y 2 m (fun z => ?_) (by omega)).mono ?_
  · obtain ⟨a, b, e1, e2, e3, e4, e5⟩ := hDr z
    refine ⟨max a b, ?_, by omega, ?_⟩
    · rw [← hm, e1, e2]
      split <;> omega
    · rw [e5, last_two p.dps [a, b] 2 rfl]
      simp [List.foldl]
  · rintro e w7 ⟨d7, A7, c7, rfl, hX7, hF7, hd7⟩
    have hb7 := Fx.far hX6 hF7 hBw2 (by have := hF6.size; omega) hner
    refine ⟨d7, rfl, (World.cell?_of_block (a := ⟨w2.heap.size, 3, none⟩) hb7).trans hc6, ?_⟩
    unfold Hid
    by_cases z : (fac q.next).flt = 0
    · obtain ⟨a, b, e1, e2, e3, e4, e5⟩ := hDr z
      exact XIn.put (ks := [a, b]) hX7 (hF3.trans hF6) hF7 hd7 (by omega) (fun _ => e5) rfl
    · rw [emit_stuck z] at hX7 hd7 ⊢
      have := mu_go (G q.next)
      exact ⟨A7, c7, _, hX7, (hF3.trans hF6).trans hF7, by rw [List.length_append]; show lr.length + 1 + p.mu ≤ _; omega, fun q => absurd q z⟩

set_option maxRecDepth 100000 in
set_option maxHeartbeats 4000000 in
theorem cterm_any {T : List Tk} {m : Nat} {fac : PS → PS} (F : FacC T m fac) (G : ∀ p, Go_ p (fac p)) : TermC T m (termW T fac) := by
  intro w x g A c p B An cn l o h hm hl
  obtain ⟨R, hR⟩ : ∃ R, termW T fac p = R := ⟨_, rfl⟩
  rw [hR]
  have cf := F h hm hl
  have hfew := h.rs.few
  obtain ⟨q0, hq0⟩ : ∃ q0, fac p = q0 := ⟨_, rfl⟩
  rw [hq0] at cf
  have START : Hid ((∃ f, termLoop T fac f q0 = R ∧ (q0.flt = 0 → T.length ≤ q0.i + f)) ∧ (q0.flt ≠ 0 ∨ m ≤ q0.i)) := by
    refine ⟨⟨T.length + 1, by rw [← hq0]; exact hR, fun _ => by omega⟩, ?_⟩
    rw [← hq0]
    by_cases z : (fac p).flt = 0
    · refine .inr (Nat.le_trans ?_ (G p).1)
      exact hm.resolve_left fun q => q (flt_back (G p) z)
    · exact .inl z
  have HL := Lib.hid hl
  clear h hm hR hq0 hl
  go_enter Tryz.func70, Tryz.ntmps70
  go_wp2_with (go_at_call 92; refine cf.mono ?_; rintro e w2 ⟨d0, rfl, h2⟩; have H2 := Lib.hid h2; clear h2)
  go_loopg [3] (T.length) (fun k v wr => ∃ (q : PS) (d : Int), v = .int .i64 d ∧ Hid (XIn x g A c T p q B An l o w wr d) ∧ Hid ((∃ f, termLoop T fac f q = R ∧ (q.flt = 0 → T.length ≤ q.i + f)) ∧ (q.flt ≠ 0 ∨ m ≤ q.i)) ∧ T.length - q.i ≤ k)
  case atStart => exact ⟨q0, d0, rfl, H2, START, by omega⟩
  case round =>
    obtain ⟨q, d, rfl, HI, HS, hk⟩ := hrel
    obtain ⟨Aq, cq, lq, hX, hF, hL, hD⟩ := HI.out
    obtain ⟨e0, _, _⟩ := hX.blk.cells
    have cm := catMark_any hX.rs [42]
    obtain ⟨b, hb⟩ : ∃ b, q.is T 4 [42] = b := ⟨_, rfl⟩
    rw [hb] at cm
    have hin : q.i < T.length := hX.rs.inn
    cases b with
    | false =>
      have END : Hid (∀ w', Below wr.heap.size wr w' → XIn x g A c T p R B An l o w w' d) := by
        intro w' hb'
        obtain ⟨⟨f, hf, _⟩, _⟩ := HS.out
        have e : termLoop T fac f q = q := by
          cases f with
          | zero => rfl
          | succ f => unfold termLoop; rw [hb, if_neg (by decide)]
        rw [← hf, e]
        exact ⟨Aq, cq, lq, hX.below hb', hF.trans (Fx.of hb'), hL, hD⟩
      clear hX hF hL hD hb
      go_wp2_with (go_at_call 71; refine cm.mono ?_; rintro e w3 ⟨rfl, hb3⟩)
      go_ret
      exact ⟨d, rfl, END.out _ hb3⟩
    | true =>
      obtain ⟨h0, hk4, ht4⟩ := is_ok q hb
      have hkn : (q.tok T).k ≠ 0 := by rw [hk4]; decide
      obtain ⟨t, ht⟩ : ∃ t, q.tok T = t := ⟨_, rfl⟩
      have CT := Lib.hid (fun (w3 : World) (hb3 : Below wr.heap.size wr w3) => take_parts (hX.rs.below hb3) h0 hkn ht)
      have hbg : ∀ w3, Below wr.heap.size wr w3 → EB w3 x g Aq lq.length cq o := fun w3 hb3 => hX.blk.keep (hb3.block x hX.blk.len)
      have FA : Hid (∀ w2, RS w2 g A c T q.next → Gn g wr w2 → _) := fun w2 hr hg => operand (fac := fac) G HI.out h0 HL.out t ⟨8, 0, 0, [], t.a⟩ (fun W Q => Calls Tryz.prog 92 #[.pointer (some ⟨x, 0, none⟩)] W Q)
        (fun hx hll => F hx (.inr (by rcases HS.out.2 with z | z; exact absurd h0 z; show m ≤ q.i + 1; omega)) hll) (fun h k => h.mono k) hr hg
      have NXT : Hid (((∃ f, termLoop T fac f ((fac q.next).emit ⟨8, 0, 0, [], t.a⟩ 2) = R ∧ (((fac q.next).emit ⟨8, 0, 0, [], t.a⟩ 2).flt = 0 → T.length ≤ ((fac q.next).emit ⟨8, 0, 0, [], t.a⟩ 2).i + f)) ∧ (((fac q.next).emit ⟨8, 0, 0, [], t.a⟩ 2).flt ≠ 0 ∨ m ≤ ((fac q.next).emit ⟨8, 0, 0, [], t.a⟩ 2).i)) ∧ q.i + 1 ≤ ((fac q.next).emit ⟨8, 0, 0, [], t.a⟩ 2).i) := by
        obtain ⟨⟨f, hf, hfl⟩, hm⟩ := HS.out
        have hfl := hfl h0
        have gg : Go_ q.next ((fac q.next).emit ⟨8, 0, 0, [], t.a⟩ 2) := (G q.next).trans (go_emit _ _ _)
        have hge : q.i + 1 ≤ ((fac q.next).emit ⟨8, 0, 0, [], t.a⟩ 2).i := gg.1
        have hmq := hm.resolve_left fun z => z h0
        refine ⟨⟨?_, .inr (by omega)⟩, hge⟩
        cases f with
        | zero => omega
        | succ f =>
          refine ⟨f, ?_, fun _ => by omega⟩
          unfold termLoop at hf
          rw [hb, if_pos rfl, ht] at hf
          exact hf
      clear hD hb hk4 ht4 h0 hF hL
      go_wp2_with (first
        | (go_at_call 71; refine cm.mono ?_; rintro e w3 ⟨rfl, hb3⟩; obtain ⟨u0, _, _⟩ := (hbg w3 hb3).cells)
        | (go_at_call 72; refine (CT.out w3 hb3).mono ?_; rintro e w4 ⟨rfl, hr4, hg4⟩; have cf4 := FA.out w4 hr4 ((Gn.of hb3).trans hg4); clear hr4))
      have hc4 : (w4.alloc (.cells #[.int .i64 (t.k : Nat), .string (str t.t), .int .u64 (t.n : Nat), .int .i64 (t.a : Nat), .int .i64 (t.e : Nat)] 84)).cell? ⟨w4.heap.size, 3, none⟩ = some (.int .i64 (t.a : Nat)) := (TBlk.new w4 t).cells.2.2.2.1
      have hc4' : (w4.alloc (.cells #[.int .i64 (t.k : Nat), .string (str t.t), .int .u64 (t.n : Nat), .int .i64 (t.a : Nat), .int .i64 (t.e : Nat)] 84)).drew.cell? ⟨w4.heap.size, 3, none⟩ = some (.int .i64 (t.a : Nat)) := hc4
      clear hX hbg CT FA
      go_region_held3 (fun W => W.cell? ⟨w4.heap.size, 3, none⟩ = some (.int .i64 (t.a : Nat))) (first | assumption | fail)
        (first
          | (go_at_call 92; refine cf4.mono ?_; rintro e w6 ⟨d2, rfl, hc6, cp6⟩; obtain ⟨mm, hmm⟩ : ∃ mm, (if d2 > d then d2 else d) = mm := ⟨_, rfl⟩; have cp7 := cp6 mm hmm; have HMM := Lib.hid hmm; clear cp6 hmm)
          | (refine step_max rfl (.tmp 21) (.tmp 23) 3 rfl rfl mm rfl rfl HMM.out ?_)
          | (go_at_call 73; refine cp7.mono ?_; rintro e w7 ⟨d7, rfl, hc7, h7⟩)
          | fail)
      all_goals
        go_wp2
        go_roundg (gk - 1)
        case measure => omega
        case rel =>
          have hn := NXT.out
          exact ⟨_, d7, rfl, h7, hn.1, by omega⟩
end Go.Proofs.YtipcgmaobiobbaaGreatDoor
/- The walk of the code: a sum. -/
namespace Go.Proofs.YtipcgmaobiobbaaGreatDoor
open Go.RowKit

set_option maxRecDepth 100000 in
set_option maxHeartbeats 4000000 in
theorem csum_any {T : List Tk} {m : Nat} {fac : PS → PS} (F : TermC T m (termW T fac)) (G0 : ∀ p, Go_ p (fac p)) : SumC T m (exprW T fac) := by
  intro w x g A c p B An cn l o h hm hl
  have G : ∀ p, Go_ p (termW T fac p) := go_termW G0
  obtain ⟨R, hR⟩ : ∃ R, exprW T fac p = R := ⟨_, rfl⟩
  rw [hR]
  have cf := F h hm hl
  have hfew := h.rs.few
  obtain ⟨q0, hq0⟩ : ∃ q0, termW T fac p = q0 := ⟨_, rfl⟩
  rw [hq0] at cf
  have START : Hid ((∃ f, exprLoop T fac f q0 = R ∧ (q0.flt = 0 → T.length ≤ q0.i + f)) ∧ (q0.flt ≠ 0 ∨ m ≤ q0.i)) := by
    refine ⟨⟨T.length + 1, by rw [← hq0]; exact hR, fun _ => by omega⟩, ?_⟩
    rw [← hq0]
    by_cases z : (termW T fac p).flt = 0
    · refine .inr (Nat.le_trans ?_ (G p).1)
      exact hm.resolve_left fun q => q (flt_back (G p) z)
    · exact .inl z
  have HL := Lib.hid hl
  clear h hm hR hq0 hl
  go_enter Tryz.func40, Tryz.ntmps40
  go_wp2_with (go_at_call 70; refine cf.mono ?_; rintro e w2 ⟨d0, rfl, h2⟩; have H2 := Lib.hid h2; clear h2)
  go_loopg [3] (T.length) (fun k v wr => ∃ (q : PS) (d : Int), v = .int .i64 d ∧ Hid (XIn x g A c T p q B An l o w wr d) ∧ Hid ((∃ f, exprLoop T fac f q = R ∧ (q.flt = 0 → T.length ≤ q.i + f)) ∧ (q.flt ≠ 0 ∨ m ≤ q.i)) ∧ T.length - q.i ≤ k)
  case atStart => exact ⟨q0, d0, rfl, H2, START, by omega⟩
  case round =>
    obtain ⟨q, d, rfl, HI, HS, hk⟩ := hrel
    obtain ⟨Aq, cq, lq, hX, hF, hL, hD⟩ := HI.out
    obtain ⟨e0, _, _⟩ := hX.blk.cells
    have cm := atm_any hX.rs 43
    have CM := Lib.hid (fun (w3 : World) (hb3 : Below wr.heap.size wr w3) => atm_any (hX.rs.below hb3) 45)
    have hbg : ∀ w3, Below wr.heap.size wr w3 → EB w3 x g Aq lq.length cq o := fun w3 hb3 => hX.blk.keep (hb3.block x hX.blk.len)
    obtain ⟨b, hb⟩ : ∃ b, q.is T 4 [43] = b := ⟨_, rfl⟩
    obtain ⟨b2, hb2⟩ : ∃ b, q.is T 4 [45] = b := ⟨_, rfl⟩
    rw [hb] at cm
    simp only [hb2] at CM
    have hin : q.i < T.length := hX.rs.inn
    cases b with
    | false =>
      cases b2 with
      | false =>
        have END : Hid (∀ w', Below wr.heap.size wr w' → XIn x g A c T p R B An l o w w' d) := by
          intro w' hb'
          obtain ⟨⟨f, hf, _⟩, _⟩ := HS.out
          have e : exprLoop T fac f q = q := by
            cases f with
            | zero => rfl
            | succ f => unfold exprLoop; rw [hb, hb2, if_neg (by decide)]
          rw [← hf, e]
          exact ⟨Aq, cq, lq, hX.below hb', hF.trans (Fx.of hb'), hL, hD⟩
        clear hX hF hL hD hb hb2
        go_wp2_with (first
          | (go_at_call 71; (with_reducible refine cm.mono ?_); rintro e w3 ⟨rfl, hb3⟩; obtain ⟨u0, _, _⟩ := (hbg w3 hb3).cells)
          | (go_at_call 71; (with_reducible refine (CM.out w3 hb3).mono ?_); rintro e w4 ⟨rfl, hb4⟩; have hb34 := Below.both hb3 hb4))
        go_ret
        exact ⟨d, rfl, END.out _ hb34⟩
      | true =>
        obtain ⟨h0, hk4, ht4⟩ := is_ok q hb2
        have hkn : (q.tok T).k ≠ 0 := by rw [hk4]; decide
        obtain ⟨t, ht⟩ : ∃ t, q.tok T = t := ⟨_, rfl⟩
        rw [ht] at ht4
        have hlit : ((str t.t).toList == [45]) = true := by rw [str_lit, ht4]; rfl
        have CT := Lib.hid (fun (w3 : World) (hb3 : Below wr.heap.size wr w3) => take_parts (hX.rs.below hb3) h0 hkn ht)
        have FA : Hid (∀ w2, RS w2 g A c T q.next → Gn g wr w2 → _) := fun w2 hr hg => operand (fac := termW T fac) G HI.out h0 HL.out t ⟨7, 0, 0, [], t.a⟩ (fun W Q => Calls Tryz.prog 70 #[.pointer (some ⟨x, 0, none⟩)] W Q)
          (fun hx hll => F hx (.inr (by rcases HS.out.2 with z | z; exact absurd h0 z; show m ≤ q.i + 1; omega)) hll) (fun h k => h.mono k) hr hg
        have NXT : Hid (((∃ f, exprLoop T fac f ((termW T fac q.next).emit ⟨7, 0, 0, [], t.a⟩ 2) = R ∧ (((termW T fac q.next).emit ⟨7, 0, 0, [], t.a⟩ 2).flt = 0 → T.length ≤ ((termW T fac q.next).emit ⟨7, 0, 0, [], t.a⟩ 2).i + f)) ∧ (((termW T fac q.next).emit ⟨7, 0, 0, [], t.a⟩ 2).flt ≠ 0 ∨ m ≤ ((termW T fac q.next).emit ⟨7, 0, 0, [], t.a⟩ 2).i)) ∧ q.i + 1 ≤ ((termW T fac q.next).emit ⟨7, 0, 0, [], t.a⟩ 2).i) := by
          obtain ⟨⟨f, hf, hfl⟩, hm⟩ := HS.out
          have hfl := hfl h0
          have gg : Go_ q.next ((termW T fac q.next).emit ⟨7, 0, 0, [], t.a⟩ 2) := (G q.next).trans (go_emit _ _ _)
          have hge : q.i + 1 ≤ ((termW T fac q.next).emit ⟨7, 0, 0, [], t.a⟩ 2).i := gg.1
          have hmq := hm.resolve_left fun z => z h0
          refine ⟨⟨?_, .inr (by omega)⟩, hge⟩
          cases f with
          | zero => omega
          | succ f =>
            refine ⟨f, ?_, fun _ => by omega⟩
            unfold exprLoop at hf
            rw [hb, hb2, Bool.false_or, if_pos rfl, ht, if_pos ht4] at hf
            exact hf
        clear hD hb hb2 hk4 ht4 h0 hF hL hX
        go_wp2_with (first
          | (go_at_call 71; (with_reducible refine cm.mono ?_); rintro e w3 ⟨rfl, hb3⟩; obtain ⟨u0, _, _⟩ := (hbg w3 hb3).cells)
          | (go_at_call 71; (with_reducible refine (CM.out w3 hb3).mono ?_); rintro e w5 ⟨rfl, hb5⟩; have hb35 := Below.both hb3 hb5; obtain ⟨v0, _, _⟩ := (hbg w5 hb35).cells)
          | (go_at_call 72; refine (CT.out w5 hb35).mono ?_; rintro e w4 ⟨rfl, hr4, hg4⟩; have cf4 := FA.out w4 hr4 ((Gn.of hb35).trans hg4); have hc4 : (w4.alloc (.cells #[.int .i64 (t.k : Nat), .string (str t.t), .int .u64 (t.n : Nat), .int .i64 (t.a : Nat), .int .i64 (t.e : Nat)] 84)).cell? ⟨w4.heap.size, 3, none⟩ = some (.int .i64 (t.a : Nat)) := (TBlk.new w4 t).cells.2.2.2.1; clear hr4))
        have hc4' : (w4.alloc (.cells #[.int .i64 (t.k : Nat), .string (str t.t), .int .u64 (t.n : Nat), .int .i64 (t.a : Nat), .int .i64 (t.e : Nat)] 84)).drew.cell? ⟨w4.heap.size, 3, none⟩ = some (.int .i64 (t.a : Nat)) := hc4
        clear hbg CT FA CM
        go_region_held3 (fun W => W.cell? ⟨w4.heap.size, 3, none⟩ = some (.int .i64 (t.a : Nat))) (first | assumption | fail)
          (first
            | (go_at_call 70; refine cf4.mono ?_; rintro e w6 ⟨d2, rfl, hc6, cp6⟩; obtain ⟨mm, hmm⟩ : ∃ mm, (if d2 > d then d2 else d) = mm := ⟨_, rfl⟩; have cp7 := cp6 mm hmm; have HMM := Lib.hid hmm; clear cp6 hmm)
            | (refine step_max rfl (.tmp 33) (.tmp 35) 3 rfl rfl mm rfl rfl HMM.out ?_)
            | (go_at_call 73; refine cp7.mono ?_; rintro e w7 ⟨d7, rfl, hc7, h7⟩)
            | fail)
        all_goals
          go_wp2
          go_roundg (gk - 1)
          case measure => omega
          case rel =>
            have hn := NXT.out
            exact ⟨_, d7, rfl, h7, hn.1, by omega⟩
    | true =>
      obtain ⟨h0, hk4, ht4⟩ := is_ok q hb
      have hkn : (q.tok T).k ≠ 0 := by rw [hk4]; decide
      obtain ⟨t, ht⟩ : ∃ t, q.tok T = t := ⟨_, rfl⟩
      rw [ht] at ht4
      have hlit : ((str t.t).toList == [45]) = false := by rw [str_lit, ht4]; rfl
      have CT := Lib.hid (fun (w3 : World) (hb3 : Below wr.heap.size wr w3) => take_parts (hX.rs.below hb3) h0 hkn ht)
      have FA : Hid (∀ w2, RS w2 g A c T q.next → Gn g wr w2 → _) := fun w2 hr hg => operand (fac := termW T fac) G HI.out h0 HL.out t ⟨6, 0, 0, [], t.a⟩ (fun W Q => Calls Tryz.prog 70 #[.pointer (some ⟨x, 0, none⟩)] W Q)
        (fun hx hll => F hx (.inr (by rcases HS.out.2 with z | z; exact absurd h0 z; show m ≤ q.i + 1; omega)) hll) (fun h k => h.mono k) hr hg
      have NXT : Hid (((∃ f, exprLoop T fac f ((termW T fac q.next).emit ⟨6, 0, 0, [], t.a⟩ 2) = R ∧ (((termW T fac q.next).emit ⟨6, 0, 0, [], t.a⟩ 2).flt = 0 → T.length ≤ ((termW T fac q.next).emit ⟨6, 0, 0, [], t.a⟩ 2).i + f)) ∧ (((termW T fac q.next).emit ⟨6, 0, 0, [], t.a⟩ 2).flt ≠ 0 ∨ m ≤ ((termW T fac q.next).emit ⟨6, 0, 0, [], t.a⟩ 2).i)) ∧ q.i + 1 ≤ ((termW T fac q.next).emit ⟨6, 0, 0, [], t.a⟩ 2).i) := by
        obtain ⟨⟨f, hf, hfl⟩, hm⟩ := HS.out
        have hfl := hfl h0
        have gg : Go_ q.next ((termW T fac q.next).emit ⟨6, 0, 0, [], t.a⟩ 2) := (G q.next).trans (go_emit _ _ _)
        have hge : q.i + 1 ≤ ((termW T fac q.next).emit ⟨6, 0, 0, [], t.a⟩ 2).i := gg.1
        have hmq := hm.resolve_left fun z => z h0
        refine ⟨⟨?_, .inr (by omega)⟩, hge⟩
        cases f with
        | zero => omega
        | succ f =>
          refine ⟨f, ?_, fun _ => by omega⟩
          unfold exprLoop at hf
          rw [hb, Bool.true_or, if_pos rfl, ht, if_neg (by rw [ht4]; decide)] at hf
          exact hf
      clear hD hb hb2 hk4 ht4 h0 hF hL hX
      go_wp2_with (first
        | (go_at_call 71; (with_reducible refine cm.mono ?_); rintro e w3 ⟨rfl, hb3⟩; obtain ⟨u0, _, _⟩ := (hbg w3 hb3).cells)
        | (go_at_call 72; refine (CT.out w3 hb3).mono ?_; rintro e w4 ⟨rfl, hr4, hg4⟩; have cf4 := FA.out w4 hr4 ((Gn.of hb3).trans hg4); have hc4 : (w4.alloc (.cells #[.int .i64 (t.k : Nat), .string (str t.t), .int .u64 (t.n : Nat), .int .i64 (t.a : Nat), .int .i64 (t.e : Nat)] 84)).cell? ⟨w4.heap.size, 3, none⟩ = some (.int .i64 (t.a : Nat)) := (TBlk.new w4 t).cells.2.2.2.1; clear hr4))
      have hc4' : (w4.alloc (.cells #[.int .i64 (t.k : Nat), .string (str t.t), .int .u64 (t.n : Nat), .int .i64 (t.a : Nat), .int .i64 (t.e : Nat)] 84)).drew.cell? ⟨w4.heap.size, 3, none⟩ = some (.int .i64 (t.a : Nat)) := hc4
      clear hbg CT FA CM
      go_region_held3 (fun W => W.cell? ⟨w4.heap.size, 3, none⟩ = some (.int .i64 (t.a : Nat))) (first | assumption | fail)
        (first
          | (go_at_call 70; refine cf4.mono ?_; rintro e w6 ⟨d2, rfl, hc6, cp6⟩; obtain ⟨mm, hmm⟩ : ∃ mm, (if d2 > d then d2 else d) = mm := ⟨_, rfl⟩; have cp7 := cp6 mm hmm; have HMM := Lib.hid hmm; clear cp6 hmm)
          | (refine step_max rfl (.tmp 33) (.tmp 35) 3 rfl rfl mm rfl rfl HMM.out ?_)
          | (go_at_call 73; refine cp7.mono ?_; rintro e w7 ⟨d7, rfl, hc7, h7⟩)
          | fail)
      all_goals
        go_wp2
        go_roundg (gk - 1)
        case measure => omega
        case rel =>
          have hn := NXT.out
          exact ⟨_, d7, rfl, h7, hn.1, by omega⟩
end Go.Proofs.YtipcgmaobiobbaaGreatDoor
