/- The walks of the reference: an expression of its own; an expression's text. -/
import Derived.Test.YtbngelinfpaefaaGreatDoorParRFax
import Derived.Test.YtbngelinfpaefaaGreatDoorParRb
import Derived.Test.YtbngelinfpaefaaGreatDoorParGj
namespace Go.Proofs.YtbngelinfpaefaaGreatDoor
open Go.RowKit

/-- the reference's parser between expressions -/
structure RZ (w : World) (g : Nat) (A : Option Addr) (c : Nat) (T : List Tk) (p : PS) : Prop where
  pb : ∃ vn vd, PB w g A T.length c p vn vd
  pt : PT w g A T p
section
variable {w w' : World} {g : Nat} {A : Option Addr} {c : Nat} {T : List Tk} {p : PS}
theorem RZ.len (h : RZ w g A c T p) : g < w.heap.size := by
  obtain ⟨⟨vn, vd, h1⟩, _⟩ := h
  exact h1.len
theorem RZ.below (h : RZ w g A c T p) (hb : Below w.heap.size w w') : RZ w' g A c T p := by
  obtain ⟨⟨vn, vd, h1⟩, h2⟩ := h
  exact ⟨⟨vn, vd, h1.below hb⟩, h2.grown h1.len (.of hb)⟩
theorem RZ.keep (h : RZ w g A c T p) (hg : Below g w w') (hb : w'.heap[g]? = w.heap[g]?) : RZ w' g A c T p := by
  obtain ⟨⟨vn, vd, h1⟩, h2⟩ := h
  exact ⟨⟨vn, vd, h1.keep hb⟩, ⟨h2.row.below hg, h2.ends, h2.inn, h2.few⟩⟩
theorem RZ.turn {q : PS} {vn vd : Value} (h : RZ w g A c T p) (hi : In_ T q) (hP : PB w' g A T.length c q vn vd) (hG : Grown g w w') : RZ w' g A c T q :=
  ⟨⟨vn, vd, hP⟩, (h.pt.grown h.len hG).of hi⟩
theorem RZ.cells (h : RZ w g A c T p) : w.cell? ⟨g, 1, none⟩ = some (.int .i64 (p.i : Nat)) ∧ w.cell? ⟨g, 2, none⟩ = some (.int .i64 (p.plc : Nat)) ∧ w.cell? ⟨g, 3, none⟩ = some (.int .i64 (p.flt : Nat)) ∧ (∀ i, w.frozen? ⟨g, i, none⟩ = false) := by
  obtain ⟨⟨vn, vd, h1⟩, _⟩ := h
  obtain ⟨_, c1, c2, c3, _⟩ := h1.cells
  exact ⟨c1, c2, c3, fun i => h1.frozen i⟩
theorem RZ.next (h : RZ w g A c T p) (hk : (p.tok T).k ≠ 0) : RZ (w.setCell ⟨g, 1, none⟩ (.int .i64 ((p.i : Int) + 1))) g A c T p.next ∧ Grown g w (w.setCell ⟨g, 1, none⟩ (.int .i64 ((p.i : Int) + 1))) := by
  have h' := h
  obtain ⟨⟨vn, vd, h1⟩, h2⟩ := h
  have hG := (Grown.refl g w).set 1 (.int .i64 ((p.i : Int) + 1))
  exact ⟨h'.turn (in_next h2.ends h2.inn hk) h1.next hG, hG⟩
theorem zis_any (h : RZ w g A c T p) (k : Nat) (s : List UInt8) :
    Calls Tryz.prog 24 #[.pointer (some ⟨g, 0, none⟩), .int .i64 (k : Nat), .string (str s)] w fun r w' => r = .returned (.bool (p.is T k s)) ∧ Below w.heap.size w w' := by
  obtain ⟨⟨vn, vd, h1⟩, h2⟩ := h
  exact ris_any h1 h2 k s
theorem ztok_any (h : RZ w g A c T p) {x : Tk} (hx : p.tok T = x) :
    Calls Tryz.prog 46 #[.pointer (some ⟨g, 0, none⟩)] w fun e w' => e = .returned (.agg #[.int .i64 (x.k : Nat), .string (str x.t), .int .u64 (x.n : Nat), .int .i64 (x.a : Nat), .int .i64 (x.e : Nat)]) ∧ Below w.heap.size w w' := by
  obtain ⟨⟨vn, vd, h1⟩, h2⟩ := h
  exact rtok_parts h1 h2 hx (Below.refl _ _)
theorem zfail_any (h : RZ w g A c T p) (a e : Nat) :
    Calls Tryz.prog 51 #[.pointer (some ⟨g, 0, none⟩), .int .i64 (a : Nat), .int .i64 (e : Nat)] w fun r w' => r = .returned (.tuple #[]) ∧ RZ w' g A c T (p.fail a e) ∧ Grown g w w' := by
  have h' := h
  obtain ⟨⟨vn, vd, h1⟩, h2⟩ := h
  refine (rfail_any h1 a e).mono ?_
  rintro r w' ⟨rfl, hP, hG⟩
  exact ⟨rfl, h'.turn (in_fail h2.inn _ _) hP hG, hG⟩
theorem zmark_any (h : RZ w g A c T p) (m : UInt8) :
    Calls Tryz.prog 49 #[.pointer (some ⟨g, 0, none⟩), .string (str [m])] w fun r w' => r = .returned (.tuple #[]) ∧ RZ w' g A c T (p.mark T m) ∧ Grown g w w' := by
  have h' := h
  obtain ⟨⟨vn, vd, h1⟩, h2⟩ := h
  refine (rmark_any h1 h2 m).mono ?_
  rintro r w' ⟨rfl, hP, hG⟩
  exact ⟨rfl, h'.turn (in_want h2.ends h2.inn 4 (by decide) [m]) hP hG, hG⟩
theorem zword_any (h : RZ w g A c T p) (s : List UInt8) :
    Calls Tryz.prog 47 #[.pointer (some ⟨g, 0, none⟩), .string (str s)] w fun r w' => r = .returned (.tuple #[]) ∧ RZ w' g A c T (p.word T s) ∧ Grown g w w' := by
  have h' := h
  obtain ⟨⟨vn, vd, h1⟩, h2⟩ := h
  refine (rword_any h1 h2 s).mono ?_
  rintro r w' ⟨rfl, hP, hG⟩
  exact ⟨rfl, h'.turn (in_want h2.ends h2.inn 1 (by decide) s) hP hG, hG⟩
theorem zname_any (h : RZ w g A c T p) :
    Calls Tryz.prog 48 #[.pointer (some ⟨g, 0, none⟩)] w fun r w' => r = .returned (.string (str (p.name T).2)) ∧ RZ w' g A c T (p.name T).1 ∧ Grown g w w' := by
  have h' := h
  obtain ⟨⟨vn, vd, h1⟩, h2⟩ := h
  refine (rname_any h1 h2).mono ?_
  rintro r w' ⟨rfl, hP, hG⟩
  exact ⟨rfl, h'.turn (in_name h2.ends h2.inn) hP hG, hG⟩
theorem ztext_any (h : RZ w g A c T p) :
    Calls Tryz.prog 121 #[.pointer (some ⟨g, 0, none⟩)] w fun r w' => r = .returned (.string (str (p.text T).2)) ∧ RZ w' g A c T (p.text T).1 ∧ Grown g w w' := by
  have h' := h
  obtain ⟨⟨vn, vd, h1⟩, h2⟩ := h
  refine (rtext_any h1 h2).mono ?_
  rintro r w' ⟨rfl, hP, hG⟩
  exact ⟨rfl, h'.turn (in_text h2.ends h2.inn) hP hG, hG⟩
theorem zend_any (h : RZ w g A c T p) :
    Calls Tryz.prog 26 #[.pointer (some ⟨g, 0, none⟩)] w fun r w' => r = .returned (.tuple #[]) ∧ RZ w' g A c T (p.end_ T) ∧ Grown g w w' := by
  have h' := h
  obtain ⟨⟨vn, vd, h1⟩, h2⟩ := h
  refine (rend_any h1 h2).mono ?_
  rintro r w' ⟨rfl, hP, hG⟩
  have hi : In_ T (p.end_ T) := by
    unfold PS.end_
    split
    · exact in_fail h2.inn _ _
    · exact h2.inn
  exact ⟨rfl, h'.turn hi hP hG, hG⟩
end
/-- what an expression of its own answers -/
def ValR (g : Nat) (A : Option Addr) (c : Nat) (T : List Tk) (p : PS) (w : World) (e : Ending) (w' : World) : Prop :=
  ∃ gn cn, e = .returned (.slice (some ⟨gn, 0, none⟩) (p.value T).nds.length cn) ∧ RZ w' g A c T (p.value T) ∧ Grown g w w' ∧ OwnN w' w.heap.size (some ⟨gn, 0, none⟩) cn (p.value T).nds ∧ (p.value T).nds.length ≤ 2000000
theorem own_none (w : World) (T : TypeId) (base s : Nat) (hb : base ≤ w.heap.size) : (w.alloc (.cells #[] T)).ownsRow base T s (.slice (some ⟨w.heap.size, 0, none⟩) 0 0) 0 [] :=
  ⟨by simp, .inr ⟨w.heap.size, 0, #[], rfl, hb, heap_alloc_new w _, Nat.le_refl _, by decide, by simp, by simp⟩⟩

set_option maxRecDepth 100000 in
set_option maxHeartbeats 4000000 in
theorem rvalue_any {w : World} {g : Nat} {A : Option Addr} {c : Nat} {T : List Tk} {p : PS} (h : RZ w g A c T p) :
    Calls Tryz.prog 29 #[.pointer (some ⟨g, 0, none⟩)] w (ValR g A c T p w) := by
  have hgl := h.len
  obtain ⟨⟨vn, vd, hP⟩, hT⟩ := h
  obtain ⟨w1, hw1⟩ : ∃ w1, w1 = w.alloc (.cells #[] 53) := ⟨_, rfl⟩
  obtain ⟨w2, hw2⟩ : ∃ w2, w2 = w1.setCell ⟨g, 4, none⟩ (.slice (some ⟨w.heap.size, 0, none⟩) 0 0) := ⟨_, rfl⟩
  obtain ⟨w3, hw3⟩ : ∃ w3, w3 = w2.alloc (.cells #[] 3) := ⟨_, rfl⟩
  obtain ⟨w4, hw4⟩ : ∃ w4, w4 = w3.setCell ⟨g, 5, none⟩ (.slice (some ⟨w.heap.size + 1, 0, none⟩) 0 0) := ⟨_, rfl⟩
  obtain ⟨w5, hw5⟩ : ∃ w5, w5 = w4.setCell ⟨g, 6, none⟩ (.int .i64 0) := ⟨_, rfl⟩
  have s1 : w1.heap.size = w.heap.size + 1 := by rw [hw1]; simp
  have s2 : w2.heap.size = w.heap.size + 1 := by rw [hw2]; simpa using s1
  have s3 : w3.heap.size = w.heap.size + 2 := by rw [hw3]; simp [s2]
  have s4 : w4.heap.size = w.heap.size + 2 := by rw [hw4]; simpa using s3
  have s5 : w5.heap.size = w.heap.size + 2 := by rw [hw5]; simpa using s4
  have P1 : PB w1 g A T.length c p vn vd := by rw [hw1]; exact hP.new _
  have P2 : PB w2 g A T.length c p (.slice (some ⟨w.heap.size, 0, none⟩) 0 0) vd := by rw [hw2]; exact P1.setN _
  have P3 : PB w3 g A T.length c p (.slice (some ⟨w.heap.size, 0, none⟩) 0 0) vd := by rw [hw3]; exact P2.new _
  have P4 : PB w4 g A T.length c p (.slice (some ⟨w.heap.size, 0, none⟩) 0 0) (.slice (some ⟨w.heap.size + 1, 0, none⟩) 0 0) := by rw [hw4]; exact P3.setD _
  have P5 : PB w5 g A T.length c { p with opn := 0 } (.slice (some ⟨w.heap.size, 0, none⟩) 0 0) (.slice (some ⟨w.heap.size + 1, 0, none⟩) 0 0) := by rw [hw5]; exact P4.setO 0
  have G5 : Grown g w w5 := by
    rw [hw5, hw4, hw3, hw2, hw1]
    exact ((((Grown.new g w _).set 4 _).trans (Grown.new g _ _)).set 5 _).set 6 _
  have o2 : ∀ j, j ≠ g → w2.heap[j]? = w1.heap[j]? := fun j hj => by rw [hw2]; exact Below.heap_setCell w1 ⟨g, 4, none⟩ _ j hj
  have o4 : ∀ j, j ≠ g → w4.heap[j]? = w3.heap[j]? := fun j hj => by rw [hw4]; exact Below.heap_setCell w3 ⟨g, 5, none⟩ _ j hj
  have o5 : ∀ j, j ≠ g → w5.heap[j]? = w4.heap[j]? := fun j hj => by rw [hw5]; exact Below.heap_setCell w4 ⟨g, 6, none⟩ _ j hj
  have N1 : OwnN w1 w.heap.size (some ⟨w.heap.size, 0, none⟩) 0 [] := by rw [hw1]; exact own_none w _ _ 5 (Nat.le_refl _)
  have D3 : OwnD w3 w.heap.size (some ⟨w.heap.size + 1, 0, none⟩) 0 [] := by
    have := own_none w2 3 w.heap.size 1 (by omega)
    rw [s2, ← hw3] at this
    exact this
  have N5 : OwnN w5 w.heap.size (some ⟨w.heap.size, 0, none⟩) 0 [] := own_keep N1 (by rw [o5 _ (by omega), o4 _ (by omega), hw3, heap_alloc_old w2 _ (by omega), o2 _ (by omega)])
  have D5 : OwnD w5 w.heap.size (some ⟨w.heap.size + 1, 0, none⟩) 0 [] := own_keep D3 (by rw [o5 _ (by omega), o4 _ (by omega)])
  have E5 : PSe w5 g w.heap.size A c T { p with nds := [], dps := [], opn := 0 } w.heap.size (w.heap.size + 1) :=
    ⟨⟨0, 0, P5, N5, D5⟩, by omega, (hT.grown hgl G5).of hT.inn, hgl, by omega, nofun⟩
  have F5 : Fit { p with nds := [], dps := [], opn := 0 } := ⟨Nat.zero_le _, Nat.zero_le _, by show (0 : Int) ≤ 100; decide, by show (-1 : Int) ≤ 0; decide, fun _ => by show (0 : Int) ≤ 0; decide⟩
  have hc : ({ p with nds := [], dps := [], opn := 0 } : PS).flt ≠ 0 ∨ T.length < ({ p with nds := [], dps := [], opn := 0 } : PS).i + (T.length + 1) := .inr (by omega)
  have cx := rexpr_any (rf_all (T.length + 1)) E5 F5 hc
  have hex := ex_expr_ (f := T.length + 1) { p with nds := [], dps := [], opn := 0 } hc
  have hv : exprW T (factorF T (T.length + 1)) { p with nds := [], dps := [], opn := 0 } = p.value T := rfl
  rw [hv] at cx hex
  have F6 := F5.ex hex
  have c4 := fun i => P1.frozen i
  have c5 := fun i => P3.frozen i
  have c6 := fun i => P4.frozen i
  obtain ⟨_, _, _, _, a14, _, _⟩ := P1.cells
  obtain ⟨_, _, _, _, _, a35, _⟩ := P3.cells
  obtain ⟨_, _, _, _, _, _, a46⟩ := P4.cells
  have f4 := c4 4
  have f5 := c5 5
  have f6 := c6 6
  have END : Hid (∀ e w6, XAt_ w5 g w.heap.size A c T w.heap.size (w.heap.size + 1) (p.value T) e w6 → e = .returned (.tuple #[]) ∧ ∃ gn cn, w6.cell? ⟨g, 4, none⟩ = some (.slice (some ⟨gn, 0, none⟩) (p.value T).nds.length cn) ∧ ValR g A c T p w (.returned (.slice (some ⟨gn, 0, none⟩) (p.value T).nds.length cn)) w6) := by
    rintro e w6 ⟨rfl, gn, gd, hS, hX⟩
    refine ⟨rfl, gn, ?_⟩
    have hil := hS.i_lt
    obtain ⟨⟨cn, cd, hp, hn, hd⟩, hne, hpt, _⟩ := hS
    obtain ⟨_, _, _, _, b4, _, _⟩ := hp.cells
    refine ⟨cn, b4, gn, cn, rfl, ⟨⟨_, _, hp⟩, hpt⟩, ?_, hn, by have := F6.n; omega⟩
    refine ⟨hX.os.trans G5.os, hX.tape.trans G5.tape, hX.output.trans G5.output, Nat.le_trans G5.size hX.size, fun k hk hne => ?_⟩
    exact (hX.block k (by omega) (fun e => hne (by rw [e])) (by omega) (by omega)).trans (G5.block k hk hne)
  have e1 := hw1.symm
  have e2 := hw2.symm
  have e3 := hw3.symm
  have e4 := hw4.symm
  have e5 := hw5.symm
  clear hw1 hw2 hw3 hw4 hw5 P1 P2 P3 P4 P5 G5 o2 o4 o5 N1 D3 N5 D5 E5 F5 hc hex hv F6 c4 c5 c6 hP hT
  go_enter Tryz.func29, Tryz.ntmps29
  go_wp2_with (go_at_call 53; refine cx.mono ?_; rintro e w6 hx; obtain ⟨rfl, gn, cn, b4, hV⟩ := END.out e w6 hx; have HV := Lib.hid hV; clear hx hV)
  go_ret
  exact HV.out
end Go.Proofs.YtbngelinfpaefaaGreatDoor
