/- Words on memory for layer 9: depths in a row of the parser's own, the parser's block, what its calls leave as it was. No walk here. -/
import Derived.Test.YtbngelinfpaefaaGreatDoorParGe
import Derived.Test.YtbngelinfpaefaaGreatDoorParGb
import Derived.Test.YtbngelinfpaefaaGreatDoorParGa
import Derived.StillTailTactics
namespace Go.Proofs.YtbngelinfpaefaaGreatDoor
open Go.RowKit
open Go.Lib (byteCells)

/-- all blocks but g stand -/
abbrev Grown (g : Nat) (w w' : World) : Prop := w.grownBy w' (some g)
theorem Grown.refl (g : Nat) (w : World) : Grown g w w := below_grown (Below.refl _ w) _
theorem Grown.of {g : Nat} {w w' : World} (h : Below w.heap.size w w') : Grown g w w' := below_grown h _
theorem Grown.trans {g : Nat} {a b c : World} (h : Grown g a b) (k : Grown g b c) : Grown g a c := grown_trans h k
theorem Grown.new (g : Nat) (w : World) (o : Obj) : Grown g w (w.alloc o) := .of ((Below.refl _ _).alloc (Nat.le_refl _) _)
theorem Grown.set {g : Nat} {a w : World} (h : Grown g a w) (o : Nat) (v : Value) : Grown g a (w.setCell ⟨g, o, none⟩ v) := grown_set h v
theorem Grown.below {g B : Nat} {w w' : World} (h : Grown g w w') (hB : B ≤ w.heap.size) (hg : B ≤ g) : Below B w w' := ⟨h.os, h.tape, h.output, h.size, fun k hk => h.block k (by omega) (fun e => by have := Option.some.inj e; omega)⟩

/-- the parser's block as the machine holds it -/
def psC (A : Option Addr) (n c : Nat) (p : PS) (vn vd : Value) : Array Value := #[.slice A n c, .int .i64 (p.i : Nat), .int .i64 (p.plc : Nat), .int .i64 (p.flt : Nat), vn, vd, .int .i64 p.opn]
def PB (w : World) (g : Nat) (A : Option Addr) (n c : Nat) (p : PS) (vn vd : Value) : Prop := w.heap[g]? = some (.cells (psC A n c p vn vd) 63 (0, 0))
section
variable {w w' : World} {g : Nat} {A : Option Addr} {n c : Nat} {p : PS} {vn vd : Value}
theorem PB.len (h : PB w g A n c p vn vd) : g < w.heap.size := (Array.getElem?_eq_some_iff.1 h).1
theorem PB.cells (h : PB w g A n c p vn vd) : w.cell? ⟨g, 0, none⟩ = some (.slice A n c) ∧ w.cell? ⟨g, 1, none⟩ = some (.int .i64 (p.i : Nat)) ∧ w.cell? ⟨g, 2, none⟩ = some (.int .i64 (p.plc : Nat)) ∧ w.cell? ⟨g, 3, none⟩ = some (.int .i64 (p.flt : Nat)) ∧
    w.cell? ⟨g, 4, none⟩ = some vn ∧ w.cell? ⟨g, 5, none⟩ = some vd ∧ w.cell? ⟨g, 6, none⟩ = some (.int .i64 p.opn) := by
  have q := fun j => cell_of_row w g j _ 63 (0, 0) h
  exact ⟨q 0, q 1, q 2, q 3, q 4, q 5, q 6⟩
theorem PB.frozen (h : PB w g A n c p vn vd) (i : Nat) : w.frozen? ⟨g, i, none⟩ = false := by
  unfold PB at h
  simp [World.frozen?, h]
theorem PB.keep (h : PB w g A n c p vn vd) (hb : w'.heap[g]? = w.heap[g]?) : PB w' g A n c p vn vd := hb.trans h
theorem PB.below (h : PB w g A n c p vn vd) (hb : Below w.heap.size w w') : PB w' g A n c p vn vd := h.keep (hb.block g h.len)
theorem PB.new (h : PB w g A n c p vn vd) (o : Obj) : PB (w.alloc o) g A n c p vn vd := h.keep (heap_alloc_old w _ h.len)
theorem PB.setI (h : PB w g A n c p vn vd) (i : Nat) : PB (w.setCell ⟨g, 1, none⟩ (.int .i64 (i : Nat))) g A n c { p with i := i } vn vd := heap_setCell_same w g 1 _ _ _ h
theorem PB.setPlc (h : PB w g A n c p vn vd) (i : Nat) : PB (w.setCell ⟨g, 2, none⟩ (.int .i64 (i : Nat))) g A n c { p with plc := i } vn vd := heap_setCell_same w g 2 _ _ _ h
theorem PB.setFlt (h : PB w g A n c p vn vd) (i : Nat) : PB (w.setCell ⟨g, 3, none⟩ (.int .i64 (i : Nat))) g A n c { p with flt := i } vn vd := heap_setCell_same w g 3 _ _ _ h
theorem PB.setN (h : PB w g A n c p vn vd) (v : Value) : PB (w.setCell ⟨g, 4, none⟩ v) g A n c p v vd := heap_setCell_same w g 4 _ _ _ h
theorem PB.setD (h : PB w g A n c p vn vd) (v : Value) : PB (w.setCell ⟨g, 5, none⟩ v) g A n c p vn v := heap_setCell_same w g 5 _ _ _ h
theorem PB.setO (h : PB w g A n c p vn vd) (i : Int) : PB (w.setCell ⟨g, 6, none⟩ (.int .i64 i)) g A n c { p with opn := i } vn vd := heap_setCell_same w g 6 _ _ _ h
/-- the lists that a state carries are not in its block -/
theorem PB.lists (h : PB w g A n c p vn vd) (l : List Nd) (d : List Nat) : PB w g A n c { p with nds := l, dps := d } vn vd := h
end

/-- the tokens of a parser: below its block; none is passed -/
structure PT (w : World) (g : Nat) (A : Option Addr) (T : List Tk) (p : PS) : Prop where
  row : TRow w g A T
  ends : TkEnds T
  inn : In_ T p
  few : T.length ≤ 2000000
theorem PT.grown {w w' : World} {g : Nat} {A : Option Addr} {T : List Tk} {p : PS} (h : PT w g A T p) (hg : g < w.heap.size) (hb : Grown g w w') : PT w' g A T p :=
  ⟨h.row.below (hb.below (by omega) (Nat.le_refl _)), h.ends, h.inn, h.few⟩
theorem PT.of {w : World} {g : Nat} {A : Option Addr} {T : List Tk} {p q : PS} (h : PT w g A T p) (hq : In_ T q) : PT w g A T q := ⟨h.row, h.ends, hq, h.few⟩
end Go.Proofs.YtbngelinfpaefaaGreatDoor
/- The walks of the reference: a token, a fault. -/
namespace Go.Proofs.YtbngelinfpaefaaGreatDoor
open Go.RowKit

/-- a token out of a block, answered by itself -/
theorem rresults_one_tok {fn : Func} {s : Tmp} (h : fn.results = #[.cell s 78]) (tmps : Array Value) (w : World) (g : Nat) (x : Tk)
    (hp : tmps.getD s undef = .pointer (some ⟨g, 0, none⟩)) (hg : TBlk w g x) : (results fn tmps).run Tryz.prog w = .ok (.agg (tkC x)) w := by
  unfold results
  rw [h]
  have hp' : tmps[s]?.getD undef = .pointer (some ⟨g, 0, none⟩) := by simpa [Array.getD_eq_getD_getElem?] using hp
  simp [hp', asAddr, hg.load]
theorem TBlk.drew_ {w : World} {g : Nat} {x : Tk} (h : TBlk w g x) : TBlk w.drew g x := h

set_option maxRecDepth 100000 in
set_option maxHeartbeats 1000000 in
theorem rtok_any {w : World} {g : Nat} {A : Option Addr} {c : Nat} {T : List Tk} {p : PS} {vn vd : Value} (hP : PB w g A T.length c p vn vd) (hT : PT w g A T p) :
    Calls Tryz.prog 46 #[.pointer (some ⟨g, 0, none⟩)] w fun e w' => e = .returned (.agg (tkC (p.tok T))) ∧ Below w.heap.size w w' := by
  have hx := tok_at hT.inn
  have hin : (p.i : Int) < (T.length : Int) := by have := hT.inn; unfold In_ at this; omega
  obtain ⟨x, hx2⟩ : ∃ x, p.tok T = x := ⟨_, rfl⟩
  rw [hx2] at hx ⊢
  obtain ⟨ga, o, rfl, hga, a0, a1, a2, a3, a4⟩ := (hT.row.below (w' := w.alloc (.cells #[.int .i64 0, .string ⟨#[]⟩, .int .u64 0, .int .i64 0, .int .i64 0] 78)) ((Below.refl _ _).alloc (by have := hP.len; omega) _)).at_ hx
  obtain ⟨b0, b1, _⟩ := (hP.new (.cells #[.int .i64 0, .string ⟨#[]⟩, .int .u64 0, .int .i64 0, .int .i64 0] 78)).cells
  have hz : TBlk (w.alloc (.cells #[.int .i64 0, .string ⟨#[]⟩, .int .u64 0, .int .i64 0, .int .i64 0] 78)) w.heap.size tk0 := TBlk.new w tk0
  have hb1 : Below w.heap.size w (w.alloc (.cells #[.int .i64 0, .string ⟨#[]⟩, .int .u64 0, .int .i64 0, .int .i64 0] 78)) := (Below.refl _ w).alloc (Nat.le_refl _) _
  have h0 : (0 : Int) ≤ (p.i : Int) := by omega
  clear hP hT hx hx2
  go_enter Tryz.func46, Tryz.ntmps46
  go_wp2
  generalize w.alloc (.cells #[.int .i64 0, .string ⟨#[]⟩, .int .u64 0, .int .i64 0, .int .i64 0] 78) = W1 at *
  go_still_tail 10, (by kernel_rfl)
  go_wp2_with (refine wpList_store_tok rfl (.tmp 2) (.tmp 12) rfl w.heap.size tk0 x rfl rfl (hz.drew_) ?_; intro w9 h9 t9)
  exact bodyPost_ret (v := .agg (tkC x)) (rresults_one_tok rfl _ _ _ _ rfl h9) rfl ⟨rfl, hb1.trans ((Below.thenN (Below.refl _ _) 1).trans (t9.below (Nat.le_refl _)))⟩

/-- the same, part by part -/
theorem rtok_parts {w : World} {g : Nat} {A : Option Addr} {c : Nat} {T : List Tk} {p : PS} {vn vd : Value} (hP : PB w g A T.length c p vn vd) (hT : PT w g A T p) {x : Tk} (hx : p.tok T = x) {W : World} (hb : Below w.heap.size w W) :
    Calls Tryz.prog 46 #[.pointer (some ⟨g, 0, none⟩)] W fun e w' => e = .returned (.agg #[.int .i64 (x.k : Nat), .string (str x.t), .int .u64 (x.n : Nat), .int .i64 (x.a : Nat), .int .i64 (x.e : Nat)]) ∧ Below W.heap.size W w' := by
  subst hx
  exact rtok_any (hP.below hb) (hT.grown hP.len (.of hb))

set_option maxRecDepth 100000 in
set_option maxHeartbeats 1000000 in
theorem rfail_any {w : World} {g : Nat} {A : Option Addr} {n c : Nat} {p : PS} {vn vd : Value} (hP : PB w g A n c p vn vd) (a e : Nat) :
    Calls Tryz.prog 51 #[.pointer (some ⟨g, 0, none⟩), .int .i64 (a : Nat), .int .i64 (e : Nat)] w fun r w' => r = .returned (.tuple #[]) ∧ PB w' g A n c (p.fail a e) vn vd ∧ Grown g w w' := by
  obtain ⟨_, _, _, b3, _⟩ := hP.cells
  have f2 := hP.frozen 2
  have f3 := hP.frozen 3
  by_cases h0 : p.flt = 0
  · have hz : ((p.flt : Int) == 0) = true := by rw [h0]; rfl
    have hP2 := (hP.setFlt e).setPlc a
    have hG := ((Grown.refl g w).set 3 (.int .i64 (e : Nat))).set 2 (.int .i64 (a : Nat))
    have hf2 := (hP.setFlt e).frozen 2
    have hfe : p.fail a e = { p with flt := e, plc := a } := if_pos h0
    rw [hfe]
    have HP2 := Lib.hid hP2
    clear hP hP2 h0 hfe
    go_enter Tryz.func51, Tryz.ntmps51
    go_wp2
    go_end0
    exact ⟨rfl, HP2.out, hG⟩
  · have hz : ((p.flt : Int) == 0) = false := beq_eq_false_iff_ne.2 (by omega)
    rw [fail_stuck h0]
    have HP := Lib.hid hP
    clear hP h0
    go_enter Tryz.func51, Tryz.ntmps51
    go_wp2
    go_end0
    exact ⟨rfl, HP.out, Grown.refl g w⟩

theorem rfld_k (x : Tk) (w : World) : (Instr.field 78 (.agg #[.int .i64 (x.k : Nat), .string (str x.t), .int .u64 (x.n : Nat), .int .i64 (x.a : Nat), .int .i64 (x.e : Nat)]) 0).run Tryz.prog w = .ok (.int .i64 (x.k : Nat)) w := by kernel_rfl
theorem rfld_t (x : Tk) (w : World) : (Instr.field 78 (.agg #[.int .i64 (x.k : Nat), .string (str x.t), .int .u64 (x.n : Nat), .int .i64 (x.a : Nat), .int .i64 (x.e : Nat)]) 1).run Tryz.prog w = .ok (.string (str x.t)) w := by kernel_rfl
theorem rfld_n (x : Tk) (w : World) : (Instr.field 78 (.agg #[.int .i64 (x.k : Nat), .string (str x.t), .int .u64 (x.n : Nat), .int .i64 (x.a : Nat), .int .i64 (x.e : Nat)]) 2).run Tryz.prog w = .ok (.int .u64 (x.n : Nat)) w := by kernel_rfl
theorem rfld_a (x : Tk) (w : World) : (Instr.field 78 (.agg #[.int .i64 (x.k : Nat), .string (str x.t), .int .u64 (x.n : Nat), .int .i64 (x.a : Nat), .int .i64 (x.e : Nat)]) 3).run Tryz.prog w = .ok (.int .i64 (x.a : Nat)) w := by kernel_rfl

set_option maxRecDepth 100000 in
set_option maxHeartbeats 1000000 in
theorem ris_any {w : World} {g : Nat} {A : Option Addr} {c : Nat} {T : List Tk} {p : PS} {vn vd : Value} (hP : PB w g A T.length c p vn vd) (hT : PT w g A T p) (k : Nat) (s : List UInt8) :
    Calls Tryz.prog 24 #[.pointer (some ⟨g, 0, none⟩), .int .i64 (k : Nat), .string (str s)] w fun r w' => r = .returned (.bool (p.is T k s)) ∧ Below w.heap.size w w' := by
  obtain ⟨_, _, _, b3, _⟩ := hP.cells
  obtain ⟨x, hx⟩ : ∃ x, p.tok T = x := ⟨_, rfl⟩
  have CT := Lib.hid (fun (W : World) (hb : Below w.heap.size w W) => rtok_parts hP hT hx hb)
  have hb0 := Below.refl w.heap.size w
  have g0 := rfld_k x
  have g1 := rfld_t x
  obtain ⟨b, hb⟩ : ∃ b, p.is T k s = b := ⟨_, rfl⟩
  have hbe := hb
  unfold PS.is at hbe
  rw [hx] at hbe
  rw [hb]
  have hB : Hid (b = (p.flt == 0 && x.k == k && x.t == s)) := hbe.symm
  clear hP hT hx hb hbe
  by_cases h0 : p.flt = 0
  · have hz : ((p.flt : Int) == 0) = true := by rw [h0]; rfl
    by_cases h1 : x.k = k
    · have hz1 : ((x.k : Int) == (k : Int)) = true := by rw [h1]; simp
      have HE : Hid (b = (x.t == s)) := by unfold Hid; rw [hB.out, h0, h1]; simp
      clear h1 hB
      go_enter Tryz.func24, Tryz.ntmps24
      go_wp2_with (first
        | (go_at_call 46; (with_reducible refine (CT.out _ hb0).mono ?_); rintro e w2 ⟨rfl, hb2⟩; have hb20 : Below w.heap.size w w2 := hb2)
        | (go_at_call 46; (with_reducible refine (CT.out _ hb20).mono ?_); rintro e w3 ⟨rfl, hb3⟩))
      go_ret
      exact ⟨ret_bool (by rw [HE.out, str_eq]; by_cases h : x.t = s <;> simp [h]), Below.both hb20 hb3⟩
    · have hz1 : ((x.k : Int) == (k : Int)) = false := beq_eq_false_iff_ne.2 (by omega)
      have HE : Hid (b = false) := by unfold Hid; rw [hB.out, beq_eq_false_iff_ne.2 h1, Bool.and_false, Bool.false_and]
      clear h1 hB
      go_enter Tryz.func24, Tryz.ntmps24
      go_wp2_with (go_at_call 46; refine (CT.out _ hb0).mono ?_; rintro e w2 ⟨rfl, hb2⟩)
      go_ret
      exact ⟨ret_bool HE.out.symm, hb2⟩
  · have hz : ((p.flt : Int) == 0) = false := beq_eq_false_iff_ne.2 (by omega)
    have HE : Hid (b = false) := by unfold Hid; rw [hB.out, beq_eq_false_iff_ne.2 h0, Bool.false_and, Bool.false_and]
    clear hB h0
    go_enter Tryz.func24, Tryz.ntmps24
    go_wp2
    go_ret
    exact ⟨ret_bool HE.out.symm, hb0⟩

/-- the place set one further -/
theorem PB.next {w : World} {g : Nat} {A : Option Addr} {n c : Nat} {p : PS} {vn vd : Value} (h : PB w g A n c p vn vd) : PB (w.setCell ⟨g, 1, none⟩ (.int .i64 ((p.i : Int) + 1))) g A n c p.next vn vd := by
  have := h.setI (p.i + 1)
  exact this

set_option maxRecDepth 100000 in
set_option maxHeartbeats 1000000 in
theorem rwant_any {w : World} {g : Nat} {A : Option Addr} {c : Nat} {T : List Tk} {p : PS} {vn vd : Value} (hP : PB w g A T.length c p vn vd) (hT : PT w g A T p) (k : Nat) (s : List UInt8) :
    Calls Tryz.prog 83 #[.pointer (some ⟨g, 0, none⟩), .int .i64 (k : Nat), .string (str s)] w fun r w' => r = .returned (.tuple #[]) ∧ PB w' g A T.length c (p.want T k s) vn vd ∧ Grown g w w' := by
  have ci := ris_any hP hT k s
  have hi2 : (p.i : Int) < 2000000 := by have : p.i < T.length := hT.inn; have := hT.few; omega
  have hi0 : (0 : Int) ≤ (p.i : Int) := by omega
  cases hI : p.is T k s with
  | true =>
    rw [hI] at ci
    have hw : p.want T k s = p.next := if_pos hI
    rw [hw]
    have HP := Lib.hid (fun (W : World) (hb : Below w.heap.size w W) => hP.below hb)
    clear hI hT hw hP
    go_enter Tryz.func83, Tryz.ntmps83
    go_wp2_with (go_at_call 24; refine ci.mono ?_; rintro e w2 ⟨rfl, hb2⟩; have hP2 := HP.out w2 hb2; obtain ⟨_, b1, _⟩ := hP2.cells; have f1 := hP2.frozen 1; have HN := Lib.hid hP2.next; have HG := Lib.hid (((Grown.of (g := g) hb2)).set 1 (.int .i64 ((p.i : Int) + 1))); clear hP2)
    refine bodyPost_ret (results_none rfl _ _ _) rfl ?_
    exact ⟨rfl, HN.out, HG.out⟩
  | false =>
    rw [hI] at ci
    have hw : p.want T k s = p.fail (p.tok T).a 90 := if_neg (by rw [hI]; decide)
    rw [hw]
    obtain ⟨x, hx⟩ : ∃ x, p.tok T = x := ⟨_, rfl⟩
    have CT := Lib.hid (fun (W : World) (hb : Below w.heap.size w W) => rtok_parts hP hT hx hb)
    have CF := Lib.hid (fun (W : World) (hb : Below w.heap.size w W) => rfail_any (hP.below hb) x.a 90)
    have g3 := rfld_a x
    rw [hx]
    clear hI hT hw hP hx
    go_enter Tryz.func83, Tryz.ntmps83
    go_wp2_with (first
      | (go_at_call 24; refine ci.mono ?_; rintro e w2 ⟨rfl, hb2⟩)
      | (go_at_call 46; refine (CT.out _ hb2).mono ?_; rintro e w3 ⟨rfl, hb3⟩; have hb23 := Below.both hb2 hb3)
      | (go_at_call 51; refine (CF.out _ hb23).mono ?_; rintro e w4 ⟨rfl, hP4, hG4⟩; have HP4 := Lib.hid hP4; have HG4 := Lib.hid hG4; clear hP4 hG4))
    go_end0
    exact ⟨rfl, HP4.out, (Grown.of hb23).trans HG4.out⟩

theorem rmark_any {w : World} {g : Nat} {A : Option Addr} {c : Nat} {T : List Tk} {p : PS} {vn vd : Value} (hP : PB w g A T.length c p vn vd) (hT : PT w g A T p) (m : UInt8) :
    Calls Tryz.prog 49 #[.pointer (some ⟨g, 0, none⟩), .string (str [m])] w fun r w' => r = .returned (.tuple #[]) ∧ PB w' g A T.length c (p.mark T m) vn vd ∧ Grown g w w' := by
  have cw := rwant_any hP hT 4 [m]
  change Calls _ _ #[_, .int .i64 4, _] _ _ at cw
  unfold PS.mark
  clear hP hT
  go_enter Tryz.func49, Tryz.ntmps49
  go_wp2_with (go_at_call 83; refine cw.mono ?_; rintro e w2 ⟨rfl, hP2, hG2⟩; have HP2 := Lib.hid hP2; have HG2 := Lib.hid hG2; clear hP2 hG2)
  go_end0
  exact ⟨rfl, HP2.out, HG2.out⟩
theorem rword_any {w : World} {g : Nat} {A : Option Addr} {c : Nat} {T : List Tk} {p : PS} {vn vd : Value} (hP : PB w g A T.length c p vn vd) (hT : PT w g A T p) (s : List UInt8) :
    Calls Tryz.prog 47 #[.pointer (some ⟨g, 0, none⟩), .string (str s)] w fun r w' => r = .returned (.tuple #[]) ∧ PB w' g A T.length c (p.word T s) vn vd ∧ Grown g w w' := by
  have cw := rwant_any hP hT 1 s
  change Calls _ _ #[_, .int .i64 1, _] _ _ at cw
  unfold PS.word
  clear hP hT
  go_enter Tryz.func47, Tryz.ntmps47
  go_wp2_with (go_at_call 83; refine cw.mono ?_; rintro e w2 ⟨rfl, hP2, hG2⟩; have HP2 := Lib.hid hP2; have HG2 := Lib.hid hG2; clear hP2 hG2)
  go_end0
  exact ⟨rfl, HP2.out, HG2.out⟩
end Go.Proofs.YtbngelinfpaefaaGreatDoor
/- The walks of the reference: the words, a name, a text, a level, the end. -/
namespace Go.Proofs.YtbngelinfpaefaaGreatDoor
open Go.RowKit

/-- the eighteen words as the machine holds them -/
def wordsC : Array Value := #[.string ⟨#[101, 118, 101, 110, 116]⟩, .string ⟨#[118, 101, 114, 115, 105, 111, 110]⟩, .string ⟨#[97, 100, 100]⟩, .string ⟨#[114, 101, 110, 97, 109, 101]⟩, .string ⟨#[115, 112, 108, 105, 116]⟩, .string ⟨#[106, 111, 105, 110]⟩, .string ⟨#[114, 101, 116, 121, 112, 101]⟩, .string ⟨#[100, 114, 111, 112]⟩, .string ⟨#[116, 111]⟩, .string ⟨#[97, 116]⟩, .string ⟨#[105, 110, 116, 111]⟩, .string ⟨#[119, 105, 116, 104]⟩, .string ⟨#[116, 114, 117, 101]⟩, .string ⟨#[102, 97, 108, 115, 101]⟩, .string ⟨#[99, 97, 116]⟩, .string ⟨#[114, 101, 112]⟩, .string ⟨#[108, 101, 110]⟩, .string ⟨#[104, 101, 120]⟩]
theorem wordsC_eq : wordsC.toList = words.map fun x => Value.string (str x) := by kernel_rfl
theorem words_len : words.length = 18 := by decide +kernel
theorem wordsC_at (w : World) (i : Nat) (h : i < 18) : (w.alloc (.cells wordsC 9)).cell? ⟨w.heap.size, i, none⟩ = some (.string (str (words[i]'(by rw [words_len]; exact h)))) := by
  rw [cell_of_row _ w.heap.size i _ 9 (0, 0) (heap_alloc_new w _), ← Array.getElem?_toList, wordsC_eq, List.getElem?_map, List.getElem?_eq_getElem (by rw [words_len]; exact h)]
  rfl

set_option maxRecDepth 100000 in
set_option maxHeartbeats 2000000 in
theorem rWord_any (w : World) (s : List UInt8) : Calls Tryz.prog 84 #[.string (str s)] w fun e w' => e = .returned (.bool (decide (s ∈ words))) ∧ Below w.heap.size w w' := by
  obtain ⟨b, hb⟩ : ∃ b, decide (s ∈ words) = b := ⟨_, rfl⟩
  rw [hb]
  have HB := Lib.hid hb
  clear hb
  go_enter Tryz.func84, Tryz.ntmps84
  go_wp2
  go_loopw [4] (fun v wr => ∃ i : Nat, v = .int .i64 i ∧ i ≤ 18 ∧ Hid (∀ (j : Nat) (h : j < 18), j < i → words[j]'(by rw [words_len]; exact h) ≠ s) ∧ wr = w.alloc (.cells wordsC 9)) (fun v _ => 18 - (intOf v).toNat)
  case atStart => exact ⟨0, rfl, by omega, fun j _ h => absurd h (by omega), rfl⟩
  case round =>
    obtain ⟨i, rfl, hi, HI, rfl⟩ := hrel
    have hbel : Below w.heap.size w (w.alloc (.cells wordsC 9)) := (Below.refl _ w).alloc (Nat.le_refl _) _
    by_cases hlt : i < 18
    · have hltz : (i : Int) < 18 := by omega
      have hi0 : (0 : Int) ≤ (i : Int) := by omega
      have hc := wordsC_at w i hlt
      obtain ⟨x, hx⟩ : ∃ x, words[i]'(by rw [words_len]; exact hlt) = x := ⟨_, rfl⟩
      rw [hx] at hc
      generalize w.alloc (.cells wordsC 9) = W1 at *
      by_cases hs : x = s
      · have he : ((str x).toList == (str s).toList) = true := by rw [str_eq]; exact decide_eq_true hs
        have HT : Hid (b = true) := by unfold Hid; rw [← HB.out, ← hs, ← hx]; exact decide_eq_true (List.getElem_mem _)
        clear hx hs HI
        go_wp2
        go_ret
        exact ⟨ret_bool HT.out.symm, hbel⟩
      · have he : ((str x).toList == (str s).toList) = false := by rw [str_eq]; exact decide_eq_false hs
        have HI2 : Hid (∀ (j : Nat) (h : j < 18), j < i + 1 → words[j]'(by rw [words_len]; exact h) ≠ s) := by
          intro j h hj
          by_cases e : j = i
          · subst e; rw [hx]; exact hs
          · exact HI.out j h (by omega)
        clear hx hs HI
        go_wp2
        go_roundw
        case rel => exact ⟨i + 1, by go_num, by omega, HI2, trivial⟩
        case measure => simp [intOf]; omega
    · obtain rfl : i = 18 := by omega
      have HT : Hid (b = false) := by
        unfold Hid
        rw [← HB.out]
        refine decide_eq_false fun h => ?_
        obtain ⟨j, hj, e⟩ := List.getElem_of_mem h
        rw [words_len] at hj
        exact HI.out j hj hj e
      have hcast : ((18 : Nat) : Int) = 18 := rfl
      rw [hcast]
      generalize w.alloc (.cells wordsC 9) = W1 at *
      go_wp2
      go_ret
      exact ⟨ret_bool HT.out.symm, hbel⟩

/-- the tokens' parts that a block of one token gives -/
theorem TBlk.parts {w : World} {g : Nat} {x : Tk} (h : TBlk w g x) : w.cell? ⟨g, 0, none⟩ = some (.int .i64 (x.k : Nat)) ∧ w.cell? ⟨g, 1, none⟩ = some (.string (str x.t)) ∧ w.cell? ⟨g, 3, none⟩ = some (.int .i64 (x.a : Nat)) := ⟨h.cells.1, h.cells.2.1, h.cells.2.2.2.1⟩

set_option maxRecDepth 100000 in
set_option maxHeartbeats 2000000 in
theorem rname_any {w : World} {g : Nat} {A : Option Addr} {c : Nat} {T : List Tk} {p : PS} {vn vd : Value} (hP : PB w g A T.length c p vn vd) (hT : PT w g A T p) :
    Calls Tryz.prog 48 #[.pointer (some ⟨g, 0, none⟩)] w fun r w' => r = .returned (.string (str (p.name T).2)) ∧ PB w' g A T.length c (p.name T).1 vn vd ∧ Grown g w w' := by
  obtain ⟨x, hx⟩ : ∃ x, p.tok T = x := ⟨_, rfl⟩
  have ct := rtok_parts hP hT hx (Below.refl _ w)
  have cw := fun W => rWord_any W x.t
  have hi2 : (p.i : Int) < 2000000 := by have : p.i < T.length := hT.inn; have := hT.few; omega
  have hi0 : (0 : Int) ≤ (p.i : Int) := by omega
  have HP := Lib.hid (fun (W : World) (hb : Below w.heap.size w W) => hP.below hb)
  have CF := Lib.hid (fun (W : World) (hb : Below w.heap.size w W) => rfail_any (hP.below hb) x.a 90)
  have h5 : (tkC x).size = 5 := rfl
  by_cases hbad : p.flt ≠ 0 ∨ x.k ≠ 1 ∨ x.t ∈ words
  · have hn : p.name T = (p.fail x.a 90, []) := by unfold PS.name; rw [hx]; exact if_pos hbad
    rw [hn]
    obtain ⟨wd, hwd⟩ : ∃ wd, decide (x.t ∈ words) = wd := ⟨_, rfl⟩
    simp only [hwd] at cw
    have hc : ((p.flt : Int) != 0) = true ∨ (((p.flt : Int) != 0) = false ∧ ((x.k : Int) != 1) = true) ∨ (((p.flt : Int) != 0) = false ∧ ((x.k : Int) != 1) = false ∧ wd = true) := by
      by_cases q0 : p.flt = 0
      · by_cases q1 : x.k = 1
        · refine .inr (.inr ⟨by simp [q0], by simp [q1], ?_⟩)
          rcases hbad with h | h | h
          · exact absurd q0 h
          · exact absurd q1 h
          · rw [← hwd]; exact decide_eq_true h
        · exact .inr (.inl ⟨by simp [q0], by simp; omega⟩)
      · exact .inl (by simp; omega)
    clear hP hT hn hx hbad hwd
    rcases hc with z0 | ⟨z0, z1⟩ | ⟨z0, z1, rfl⟩
    all_goals
      go_enter Tryz.func48, Tryz.ntmps48
      go_wp2_with (first
        | (go_at_call 46; refine ct.mono ?_; rintro e w2 ⟨rfl, hb2⟩; have hz := TBlk.new w2 tk0)
        | (refine wpList_store_tok rfl (.tmp 3) (.tmp 6) rfl w2.heap.size tk0 x rfl rfl hz ?_; intro w3 h3 t3; have hb3 : Below w2.heap.size w2 w3 := ((Below.refl _ w2).alloc (Nat.le_refl _) _).trans (t3.below (Nat.le_refl _)); have hb23 := Below.both hb2 hb3; obtain ⟨d0, d1, d3⟩ := h3.parts)
        | (go_at_call 84; refine (cw _).mono ?_; rintro e w4 ⟨rfl, hb4⟩; have hb24 := Below.both hb23 hb4; obtain ⟨e0, e1, e3⟩ := (h3.below hb4).parts; obtain ⟨_, _, _, b3, _⟩ := (HP.out w4 hb24).cells)
        | (go_at_call 51; refine (CF.out _ hb24).mono ?_; rintro e w5 ⟨rfl, hP5, hG5⟩; have HP5 := Lib.hid hP5; have HG5 := Lib.hid hG5; clear hP5 hG5))
      go_ret
      exact ⟨rfl, HP5.out, (Grown.of hb24).trans HG5.out⟩
  · have hn : p.name T = (p.next, x.t) := by unfold PS.name; rw [hx]; exact if_neg hbad
    rw [hn]
    have q0 : p.flt = 0 := Decidable.byContradiction fun h => hbad (.inl h)
    have q1 : x.k = 1 := Decidable.byContradiction fun h => hbad (.inr (.inl h))
    have q2 : decide (x.t ∈ words) = false := decide_eq_false fun h => hbad (.inr (.inr h))
    simp only [q2] at cw
    have z0 : ((p.flt : Int) != 0) = false := by simp [q0]
    have z1 : ((x.k : Int) != 1) = false := by simp [q1]
    clear hP hT hn hx hbad q1 q2 q0 CF
    go_enter Tryz.func48, Tryz.ntmps48
    go_wp2_with (first
      | (go_at_call 46; refine ct.mono ?_; rintro e w2 ⟨rfl, hb2⟩; have hz := TBlk.new w2 tk0)
      | (refine wpList_store_tok rfl (.tmp 3) (.tmp 6) rfl w2.heap.size tk0 x rfl rfl hz ?_; intro w3 h3 t3; have hb3 : Below w2.heap.size w2 w3 := ((Below.refl _ w2).alloc (Nat.le_refl _) _).trans (t3.below (Nat.le_refl _)); have hb23 := Below.both hb2 hb3; obtain ⟨d0, d1, d3⟩ := h3.parts)
      | (go_at_call 84; refine (cw _).mono ?_; rintro e w4 ⟨rfl, hb4⟩; have hb24 := Below.both hb23 hb4; obtain ⟨e0, e1, e3⟩ := (h3.below hb4).parts; have hP4 := HP.out w4 hb24; obtain ⟨_, b1, _, b3, _⟩ := hP4.cells; have f1 := hP4.frozen 1; have HN := Lib.hid hP4.next; have hne : w2.heap.size ≠ g := by have := (HP.out w2 hb2).len; omega))
    go_ret
    exact ⟨rfl, HN.out, (Grown.of hb24).set 1 _⟩

set_option maxRecDepth 100000 in
set_option maxHeartbeats 2000000 in
theorem rtext_any {w : World} {g : Nat} {A : Option Addr} {c : Nat} {T : List Tk} {p : PS} {vn vd : Value} (hP : PB w g A T.length c p vn vd) (hT : PT w g A T p) :
    Calls Tryz.prog 121 #[.pointer (some ⟨g, 0, none⟩)] w fun r w' => r = .returned (.string (str (p.text T).2)) ∧ PB w' g A T.length c (p.text T).1 vn vd ∧ Grown g w w' := by
  obtain ⟨x, hx⟩ : ∃ x, p.tok T = x := ⟨_, rfl⟩
  have ct := rtok_parts hP hT hx (Below.refl _ w)
  have hi2 : (p.i : Int) < 2000000 := by have : p.i < T.length := hT.inn; have := hT.few; omega
  have hi0 : (0 : Int) ≤ (p.i : Int) := by omega
  have HP := Lib.hid (fun (W : World) (hb : Below w.heap.size w W) => hP.below hb)
  have CF := Lib.hid (fun (W : World) (hb : Below w.heap.size w W) => rfail_any (hP.below hb) x.a 90)
  have h5 : (tkC x).size = 5 := rfl
  by_cases hbad : p.flt ≠ 0 ∨ x.k ≠ 3
  · have hn : p.text T = (p.fail x.a 90, []) := by unfold PS.text; rw [hx]; exact if_pos hbad
    rw [hn]
    have hc : ((p.flt : Int) != 0) = true ∨ (((p.flt : Int) != 0) = false ∧ ((x.k : Int) != 3) = true) := by
      by_cases q0 : p.flt = 0
      · exact .inr ⟨by simp [q0], by have := hbad.resolve_left (fun h => h q0); simp; omega⟩
      · exact .inl (by simp; omega)
    clear hP hT hn hx hbad
    rcases hc with z0 | ⟨z0, z1⟩
    all_goals
      go_enter Tryz.func121, Tryz.ntmps121
      go_wp2_with (first
        | (go_at_call 46; refine ct.mono ?_; rintro e w2 ⟨rfl, hb2⟩; have hz := TBlk.new w2 tk0)
        | (refine wpList_store_tok rfl (.tmp 3) (.tmp 5) rfl w2.heap.size tk0 x rfl rfl hz ?_; intro w3 h3 t3; have hb3 : Below w2.heap.size w2 w3 := ((Below.refl _ w2).alloc (Nat.le_refl _) _).trans (t3.below (Nat.le_refl _)); have hb23 := Below.both hb2 hb3; obtain ⟨d0, d1, d3⟩ := h3.parts; obtain ⟨_, _, _, b3, _⟩ := (HP.out w3 hb23).cells)
        | (go_at_call 51; refine (CF.out _ hb23).mono ?_; rintro e w5 ⟨rfl, hP5, hG5⟩; have HP5 := Lib.hid hP5; have HG5 := Lib.hid hG5; clear hP5 hG5))
      go_ret
      exact ⟨rfl, HP5.out, (Grown.of hb23).trans HG5.out⟩
  · have hn : p.text T = (p.next, x.t) := by unfold PS.text; rw [hx]; exact if_neg hbad
    rw [hn]
    have q0 : p.flt = 0 := Decidable.byContradiction fun h => hbad (.inl h)
    have q1 : x.k = 3 := Decidable.byContradiction fun h => hbad (.inr h)
    have z0 : ((p.flt : Int) != 0) = false := by simp [q0]
    have z1 : ((x.k : Int) != 3) = false := by simp [q1]
    clear hP hT hn hx hbad q1 q0 CF
    go_enter Tryz.func121, Tryz.ntmps121
    go_wp2_with (first
      | (go_at_call 46; refine ct.mono ?_; rintro e w2 ⟨rfl, hb2⟩; have hz := TBlk.new w2 tk0)
      | (refine wpList_store_tok rfl (.tmp 3) (.tmp 5) rfl w2.heap.size tk0 x rfl rfl hz ?_; intro w3 h3 t3; have hb3 : Below w2.heap.size w2 w3 := ((Below.refl _ w2).alloc (Nat.le_refl _) _).trans (t3.below (Nat.le_refl _)); have hb23 := Below.both hb2 hb3; obtain ⟨d0, d1, d3⟩ := h3.parts; have hP4 := HP.out w3 hb23; obtain ⟨_, b1, _, b3, _⟩ := hP4.cells; have f1 := hP4.frozen 1; have HN := Lib.hid hP4.next; have hne : w2.heap.size ≠ g := by have := (HP.out w2 hb2).len; omega))
    go_ret
    exact ⟨rfl, HN.out, (Grown.of hb23).set 1 _⟩

set_option maxRecDepth 100000 in
set_option maxHeartbeats 2000000 in
theorem rlevel_any {w : World} {g : Nat} {A : Option Addr} {c : Nat} {T : List Tk} {p : PS} {vn vd : Value} (hP : PB w g A T.length c p vn vd) (hT : PT w g A T p) (ho : p.opn ≤ 100) (ho2 : -2000 ≤ p.opn) :
    Calls Tryz.prog 142 #[.pointer (some ⟨g, 0, none⟩)] w fun r w' => r = .returned (.tuple #[]) ∧ PB w' g A T.length c (p.level T) vn vd ∧ Grown g w w' := by
  obtain ⟨x, hx⟩ : ∃ x, p.tok T = x := ⟨_, rfl⟩
  have ct := rtok_parts hP hT hx (Below.refl _ w)
  have hi2 : (p.i : Int) < 2000000 := by have : p.i < T.length := hT.inn; have := hT.few; omega
  have hi0 : (0 : Int) ≤ (p.i : Int) := by omega
  obtain ⟨_, b1, _, b3, _, _, b6⟩ := hP.cells
  by_cases q0 : p.flt = 0
  · have z0 : ((p.flt : Int) != 0) = false := by simp [q0]
    by_cases q1 : p.opn = 100
    · have z1 : (p.opn == 100) = true := by rw [q1]; rfl
      have hl : p.level T = p.fail x.a 91 := by unfold PS.level; rw [if_neg (by omega), if_pos q1, hx]
      rw [hl]
      have CF := Lib.hid (fun (W : World) (hb : Below w.heap.size w W) => rfail_any (hP.below hb) x.a 91)
      have g3 := rfld_a x
      clear hP hT hl hx q0 q1
      go_enter Tryz.func142, Tryz.ntmps142
      go_wp2_with (first
        | (go_at_call 46; refine ct.mono ?_; rintro e w2 ⟨rfl, hb2⟩)
        | (go_at_call 51; refine (CF.out _ hb2).mono ?_; rintro e w5 ⟨rfl, hP5, hG5⟩; have HP5 := Lib.hid hP5; have HG5 := Lib.hid hG5; clear hP5 hG5))
      refine bodyPost_ret (results_none rfl _ _ _) rfl ?_
      exact ⟨rfl, HP5.out, (Grown.of hb2).trans HG5.out⟩
    · have z1 : (p.opn == 100) = false := beq_eq_false_iff_ne.2 q1
      have hl : p.level T = { p with opn := p.opn + 1, i := p.i + 1 } := by unfold PS.level; rw [if_neg (by omega), if_neg q1]
      rw [hl]
      have HN := Lib.hid ((hP.setO (p.opn + 1)).setI (p.i + 1))
      have HG := Lib.hid (((Grown.refl g w).set 6 (.int .i64 (p.opn + 1))).set 1 (.int .i64 ((p.i + 1 : Nat) : Int)))
      have f6 := hP.frozen 6
      have f1 := (hP.setO (p.opn + 1)).frozen 1
      obtain ⟨_, c1, _⟩ := (hP.setO (p.opn + 1)).cells
      have ho3 : p.opn < 100 := by omega
      clear hP hT hl hx q0 q1 ct
      go_enter Tryz.func142, Tryz.ntmps142
      go_wp2
      go_end0
      exact ⟨rfl, HN.out, HG.out⟩
  · have z0 : ((p.flt : Int) != 0) = true := by simp; omega
    have hl : p.level T = p := if_pos q0
    rw [hl]
    have HN := Lib.hid hP
    clear hP hT hl hx q0 ct
    go_enter Tryz.func142, Tryz.ntmps142
    go_wp2
    refine bodyPost_ret (results_none rfl _ _ _) rfl ?_
    exact ⟨rfl, HN.out, Grown.refl g w⟩

set_option maxRecDepth 100000 in
set_option maxHeartbeats 2000000 in
theorem rend_any {w : World} {g : Nat} {A : Option Addr} {c : Nat} {T : List Tk} {p : PS} {vn vd : Value} (hP : PB w g A T.length c p vn vd) (hT : PT w g A T p) :
    Calls Tryz.prog 26 #[.pointer (some ⟨g, 0, none⟩)] w fun r w' => r = .returned (.tuple #[]) ∧ PB w' g A T.length c (p.end_ T) vn vd ∧ Grown g w w' := by
  obtain ⟨x, hx⟩ : ∃ x, p.tok T = x := ⟨_, rfl⟩
  have CT := Lib.hid (fun (W : World) (hb : Below w.heap.size w W) => rtok_parts hP hT hx hb)
  have HP := Lib.hid (fun (W : World) (hb : Below w.heap.size w W) => hP.below hb)
  have CF := Lib.hid (fun (W : World) (hb : Below w.heap.size w W) => rfail_any (hP.below hb) x.a 90)
  have hb0 := Below.refl w.heap.size w
  obtain ⟨_, _, _, b3, _⟩ := hP.cells
  have g0 := rfld_k x
  have g3 := rfld_a x
  by_cases q0 : p.flt = 0
  · have z0 : ((p.flt : Int) == 0) = true := by rw [q0]; rfl
    by_cases q1 : x.k = 0
    · have z1 : ((x.k : Int) != 0) = false := by simp [q1]
      have hl : p.end_ T = p := by unfold PS.end_; rw [hx]; exact if_neg fun h => h.2 q1
      rw [hl]
      clear hP hT hl hx q0 q1 CF
      go_enter Tryz.func26, Tryz.ntmps26
      go_wp2_with (go_at_call 46; refine (CT.out _ hb0).mono ?_; rintro e w2 ⟨rfl, hb2⟩)
      go_end0
      exact ⟨rfl, HP.out _ hb2, Grown.of hb2⟩
    · have z1 : ((x.k : Int) != 0) = true := by simp; omega
      have hl : p.end_ T = p.fail x.a 90 := by unfold PS.end_; rw [hx]; exact if_pos ⟨q0, q1⟩
      rw [hl]
      clear hP hT hl hx q0 q1
      go_enter Tryz.func26, Tryz.ntmps26
      go_wp2_with (first
        | (go_at_call 46; (with_reducible refine (CT.out _ hb0).mono ?_); rintro e w2 ⟨rfl, hb2⟩; have hb20 : Below w.heap.size w w2 := hb2)
        | (go_at_call 46; (with_reducible refine (CT.out _ hb20).mono ?_); rintro e w3 ⟨rfl, hb3⟩; have hb30 := Below.both hb20 hb3)
        | (go_at_call 51; refine (CF.out _ hb30).mono ?_; rintro e w5 ⟨rfl, hP5, hG5⟩; have HP5 := Lib.hid hP5; have HG5 := Lib.hid hG5; clear hP5 hG5))
      go_end0
      exact ⟨rfl, HP5.out, (Grown.of hb30).trans HG5.out⟩
  · have z0 : ((p.flt : Int) == 0) = false := beq_eq_false_iff_ne.2 (by omega)
    have hl : p.end_ T = p := if_neg fun h => q0 h.1
    rw [hl]
    clear hP hT hl hx q0 CF CT
    go_enter Tryz.func26, Tryz.ntmps26
    go_wp2
    go_end0
    exact ⟨rfl, HP.out _ hb0, Grown.refl g w⟩
end Go.Proofs.YtbngelinfpaefaaGreatDoor
/- The state of an expression's parser in memory: its block, its nodes, its depths. No walk here. -/
namespace Go.Proofs.YtbngelinfpaefaaGreatDoor
open Go.RowKit
open Go.Lib (byteCells)

/-- a row of the parser's own: these depths -/
def natC (l : List Nat) : List Value := l.map fun n => .int .i64 (n : Nat)
def OwnD (w : World) (base : Nat) (A : Option Addr) (c : Nat) (l : List Nat) : Prop := w.ownsRow base 3 1 (.slice A l.length c) l.length (natC l)
theorem infoI : (Tryz.prog.info? 3).map (fun i => (i.zero, i.size, i.bytes)) = some (some (.int .i64 0), 1, 8) := by kernel_rfl
theorem natC_len (l : List Nat) : (natC l).length = l.length := List.length_map ..
theorem natC_append (a b : List Nat) : natC (a ++ b) = natC a ++ natC b := List.map_append
section
variable {w w' : World} {base : Nat} {A : Option Addr} {c : Nat} {l : List Nat}
theorem OwnD.then_ (h : OwnD w base A c l) (hb : Below w.heap.size w w') : OwnD w' base A c l := own_then h hb
theorem OwnD.new (h : OwnD w base A c l) (o : Obj) : OwnD (w.alloc o) base A c l := h.then_ ((Below.refl _ _).alloc (Nat.le_refl _) _)
theorem OwnD.cut {g : Nat} (h : OwnD w base (some ⟨g, 0, none⟩) c l) (k : Nat) (hk : k ≤ l.length) : OwnD w base (some ⟨g, 0, none⟩) c (l.take k) := by
  have hl : (l.take k).length = k := by rw [List.length_take]; omega
  refine ⟨by rw [natC_len]; omega, ?_⟩
  rcases h.2 with ⟨h0, _⟩ | ⟨g2, cap, cur, hv, hg, hc, h1, h2, h3, h4⟩
  · injection h0 with e; cases e
  · injection hv with e1 e2 e3
    cases e1
    subst e3
    refine .inr ⟨g, c, cur, rfl, hg, hc, by omega, h2, h3, ?_⟩
    rw [hl, Nat.mul_one]
    rw [Nat.mul_one] at h4
    have : natC (l.take k) = (natC l).take k := List.map_take
    rw [this, ← h4, List.take_take]
    congr 1
    omega
theorem OwnD.cap {g : Nat} (h : OwnD w base (some ⟨g, 0, none⟩) c l) : l.length ≤ c ∧ base ≤ g ∧ g < w.heap.size := by
  rcases h.2 with ⟨h0, _⟩ | ⟨g2, cap, cur, hv, hg, hc, h1, _⟩
  · injection h0 with e; cases e
  · injection hv with e1 e2 e3
    cases e1
    subst e3
    exact ⟨h1, hg, (Array.getElem?_eq_some_iff.1 hc).1⟩
theorem OwnD.at_ {g : Nat} (h : OwnD w base (some ⟨g, 0, none⟩) c l) {i : Nat} (hi : i < l.length) : w.cell? ⟨g, i, none⟩ = some (.int .i64 ((l[i] : Nat) : Int)) := by
  have := World.ownsRow.cells h (g := g) rfl i (.int .i64 ((l[i] : Nat) : Int)) (by unfold natC; rw [List.getElem?_map, List.getElem?_eq_getElem hi]; rfl)
  rwa [Addr.add_lit, Nat.zero_add] at this
end
/-- one depth that was just laid, appended -/
theorem run_app_int {w : World} {base : Nat} {A : Option Addr} {c : Nat} {l : List Nat} (ho : OwnD w base A c l) (d : Nat) (r : List Nat) (hr : r = l ++ [d]) (hm : r.length ≤ 2000000000) (hbase : base ≤ w.heap.size) :
    ∃ g c' w', (Builtin.append_ #[61, 61] 61 #[.slice A l.length c, .slice (some ⟨w.heap.size, 0, none⟩) 1 1]).run Tryz.prog (w.alloc (.cells #[.int .i64 (d : Nat)] 3)) = .ok (.slice (some ⟨g, 0, none⟩) r.length c') w' ∧
      OwnD w' base (some ⟨g, 0, none⟩) c' r ∧ ((Value.slice A l.length c).ownBlock = some g ∨ w.heap.size ≤ g) ∧ w.grownBy w' (Value.slice A l.length c).ownBlock := by
  obtain ⟨i0, hi, hz0, hz1, hz2⟩ := info_parts infoI
  subst hr
  have hln : (l ++ [d]).length = l.length + 1 := List.length_append
  rw [hln] at hm
  obtain ⟨v', w', hr, hown, hg, _, hat⟩ := run_append_own_at (P := Tryz.prog) (w.alloc (.cells #[.int .i64 (d : Nat)] 3)) base 61 61 3 i0 _ 1 8 Tryz.underlying61 hi hz0 hz1 hz2 rfl (by decide) _ l.length (natC l) (ho.new _) ⟨w.heap.size, 0, none⟩ 1 1 [.int .i64 (d : Nat)]
    rfl (fun j u hu => by rw [Addr.add_lit, Nat.zero_add, cell_of_row _ w.heap.size _ _ 3 (0, 0) (heap_alloc_new w _), ← Array.getElem?_toList]; exact hu)
    (fun u hu => by simp only [List.mem_cons, List.not_mem_nil, or_false] at hu; subst hu; rfl) (by simp only [maxLen]; omega) (by omega) (by simp; omega)
  have e : natC l ++ [.int .i64 (d : Nat)] = natC (l ++ [d]) := by rw [natC_append]; rfl
  rw [e, ← hln] at hown
  have hg2 : w.grownBy w' (Value.slice A l.length c).ownBlock := grown_trans (below_grown ((Below.refl _ w).alloc (Nat.le_refl _) _) _) hg
  rcases hown.2 with ⟨_, h0⟩ | ⟨g, cap, cur, rfl, rest⟩
  · rw [hln] at h0; omega
  · refine ⟨g, cap, w', hr, hown, ?_, hg2⟩
    rcases hat with h | h
    · exact .inl h.symm
    · have : g = (w.alloc (.cells #[.int .i64 (d : Nat)] 3)).heap.size := Option.some.inj h
      exact .inr (by rw [this]; simp)
/-- one node that was just laid, appended -/
theorem run_app_nd2 {w : World} {base : Nat} {A : Option Addr} {c : Nat} {l : List Nd} (ho : OwnN w base A c l) (x : Nd) (r : List Nd) (hr : r = l ++ [x]) (hm : r.length ≤ 2000000000) (hbase : base ≤ w.heap.size) :
    ∃ g c' w', (Builtin.append_ #[32, 32] 32 #[.slice A l.length c, .slice (some ⟨w.heap.size, 0, none⟩) 1 1]).run Tryz.prog (w.alloc (.cells (ndC x) 53)) = .ok (.slice (some ⟨g, 0, none⟩) r.length c') w' ∧
      OwnN w' base (some ⟨g, 0, none⟩) c' r ∧ ((Value.slice A l.length c).ownBlock = some g ∨ w.heap.size ≤ g) ∧ w.grownBy w' (Value.slice A l.length c).ownBlock := by
  obtain ⟨i0, hi, hz0, hz1, hz2⟩ := info_parts infoN
  subst hr
  have hln : (l ++ [x]).length = l.length + 1 := List.length_append
  rw [hln] at hm
  obtain ⟨v', w', hr, hown, hg, _, hat⟩ := run_append_own_at (P := Tryz.prog) (w.alloc (.cells (ndC x) 53)) base 32 32 53 i0 _ 5 48 Tryz.underlying32 hi hz0 hz1 hz2 rfl (by decide) _ l.length (flatN l) (ho.new _) ⟨w.heap.size, 0, none⟩ 1 1 (ndC x).toList
    rfl (fun j u hu => by rw [Addr.add_lit, Nat.zero_add, cell_of_row _ w.heap.size _ (ndC x) 53 (0, 0) (heap_alloc_new w _), ← Array.getElem?_toList]; exact hu)
    (fun u hu => by simp only [ndC, List.mem_cons, List.not_mem_nil, or_false] at hu; rcases hu with rfl | rfl | rfl | rfl | rfl <;> rfl) (by simp only [maxLen]; omega) (by omega) (by simp; omega)
  have e : flatN l ++ (ndC x).toList = flatN (l ++ [x]) := by rw [flatN_append]; simp [flatN]
  rw [e, ← hln] at hown
  have hg2 : w.grownBy w' (Value.slice A l.length c).ownBlock := grown_trans (below_grown ((Below.refl _ w).alloc (Nat.le_refl _) _) _) hg
  rcases hown.2 with ⟨_, h0⟩ | ⟨g, cap, cur, rfl, rest⟩
  · rw [hln] at h0; omega
  · refine ⟨g, cap, w', hr, hown, ?_, hg2⟩
    rcases hat with h | h
    · exact .inl h.symm
    · have : g = (w.alloc (.cells (ndC x) 53)).heap.size := Option.some.inj h
      exact .inr (by rw [this]; simp)
theorem OwnN.cap {w : World} {base c g : Nat} {l : List Nd} (h : OwnN w base (some ⟨g, 0, none⟩) c l) : base ≤ g ∧ g < w.heap.size := by
  rcases h.2 with ⟨h0, _⟩ | ⟨g2, cap, cur, hv, hg, hc, _⟩
  · injection h0 with e; cases e
  · injection hv with e1 e2 e3
    cases e1
    exact ⟨hg, (Array.getElem?_eq_some_iff.1 hc).1⟩
theorem own_keep {w w' : World} {base : Nat} {e : TypeId} {s g n c m : Nat} {xs : List Value} (h : w.ownsRow base e s (.slice (some ⟨g, 0, none⟩) n c) m xs) (hb : w'.heap[g]? = w.heap[g]?) : w'.ownsRow base e s (.slice (some ⟨g, 0, none⟩) n c) m xs := by
  refine ⟨h.1, ?_⟩
  rcases h.2 with ⟨h0, _⟩ | ⟨g2, cap, cur, hv, hg, hc, rest⟩
  · injection h0 with e; cases e
  · have hv2 := hv
    injection hv2 with e1 e2 e3
    cases e1
    exact .inr ⟨g, cap, cur, hv, hg, hb.trans hc, rest⟩

/-- what calls at an expression leave as it was: all blocks below B but g -/
structure Xt (g B : Nat) (a w : World) : Prop where
  os : w.os = a.os
  tape : w.tape = a.tape
  output : w.output = a.output
  size : a.heap.size ≤ w.heap.size
  block : ∀ k, k < B → k ≠ g → w.heap[k]? = a.heap[k]?
theorem Xt.refl (g B : Nat) (w : World) : Xt g B w w := ⟨rfl, rfl, rfl, Nat.le_refl _, fun _ _ _ => rfl⟩
theorem Xt.trans {g B : Nat} {a b c : World} (h : Xt g B a b) (k : Xt g B b c) : Xt g B a c := ⟨k.os.trans h.os, k.tape.trans h.tape, k.output.trans h.output, Nat.le_trans h.size k.size, fun i hi hg => (k.block i hi hg).trans (h.block i hi hg)⟩
theorem Xt.of {g B : Nat} {a w : World} (h : Grown g a w) (hB : B ≤ a.heap.size) : Xt g B a w := ⟨h.os, h.tape, h.output, h.size, fun k hk hg => h.block k (by omega) (fun e => hg (Option.some.inj e))⟩
theorem Xt.row {g B : Nat} {a w : World} {row : Option Nat} (h : a.grownBy w row) (hB : B ≤ a.heap.size) (hr : ∀ k, row = some k → B ≤ k) : Xt g B a w := ⟨h.os, h.tape, h.output, h.size, fun k hk _ => h.block k (by omega) (fun e => by have := hr k e.symm; omega)⟩

/-- the state of an expression's parser: its block, its two rows from B on -/
def PSt (w : World) (g B : Nat) (A : Option Addr) (c : Nat) (T : List Tk) (p : PS) : Prop :=
  ∃ gn cn gd cd, PB w g A T.length c p (.slice (some ⟨gn, 0, none⟩) p.nds.length cn) (.slice (some ⟨gd, 0, none⟩) p.dps.length cd) ∧ OwnN w B (some ⟨gn, 0, none⟩) cn p.nds ∧ OwnD w B (some ⟨gd, 0, none⟩) cd p.dps ∧ gn ≠ gd ∧ PT w g A T p ∧ g < B ∧ B ≤ w.heap.size ∧ ∀ d ∈ p.dps, d ≤ 100
theorem PSt.grown {w w' : World} {g B : Nat} {A : Option Addr} {c : Nat} {T : List Tk} {p : PS} (h : PSt w g B A c T p) (hb : Below w.heap.size w w') : PSt w' g B A c T p := by
  obtain ⟨gn, cn, gd, cd, h1, h2, h3, h4, h5, h6, h7, h8⟩ := h
  exact ⟨gn, cn, gd, cd, h1.below hb, h2.then_ hb, h3.then_ hb, h4, h5.grown h1.len (.of hb), h6, Nat.le_trans h7 hb.size, h8⟩
/-- behind a call that wrote the parser's block alone -/
theorem PSt.turn {w w' : World} {g B : Nat} {A : Option Addr} {c : Nat} {T : List Tk} {p q : PS} {gn cn gd cd : Nat} (h2 : OwnN w B (some ⟨gn, 0, none⟩) cn p.nds) (h3 : OwnD w B (some ⟨gd, 0, none⟩) cd p.dps) (h4 : gn ≠ gd) (h5 : PT w g A T p) (h6 : g < B) (h7 : B ≤ w.heap.size) (h8 : ∀ d ∈ p.dps, d ≤ 100)
    (hn : q.nds = p.nds) (hd : q.dps = p.dps) (hi : In_ T q) (hP : PB w' g A T.length c q (.slice (some ⟨gn, 0, none⟩) p.nds.length cn) (.slice (some ⟨gd, 0, none⟩) p.dps.length cd)) (hG : Grown g w w') : PSt w' g B A c T q ∧ Xt g B w w' := by
  have k2 : gn ≠ g := by have := h2.cap.1; omega
  have k3 : gd ≠ g := by have := h3.cap.2.1; omega
  have b2 := hG.block gn h2.cap.2 (fun e => k2 (Option.some.inj e))
  have b3 := hG.block gd h3.cap.2.2 (fun e => k3 (Option.some.inj e))
  refine ⟨⟨gn, cn, gd, cd, by rw [hn, hd]; exact hP, by rw [hn]; exact own_keep h2 b2, by rw [hd]; exact own_keep h3 b3, h4, (h5.grown (by omega) hG).of hi, h6, Nat.le_trans h7 hG.size, by rw [hd]; exact h8⟩, Xt.of hG h7⟩
end Go.Proofs.YtbngelinfpaefaaGreatDoor
