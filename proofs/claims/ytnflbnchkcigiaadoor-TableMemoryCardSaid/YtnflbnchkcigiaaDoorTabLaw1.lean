/- The walks of TableTyped, TableExtends, TableLooks. -/
import Derived.Test.YtnflbnchkcigiaaDoorTabAw
import Derived.Test.YtnflbnchkcigiaaDoorTabRTyp
import Derived.Test.YtnflbnchkcigiaaDoorTabRExt
namespace Go.Proofs.YtnflbnchkcigiaaDoor
open Go.RowKit

/-- the call answers true and what stood stands -/
def Yes (W : World) (e : Ending) (w' : World) : Prop := e = .returned (.bool true) ∧ Below W.heap.size W w'

set_option maxRecDepth 100000 in
set_option maxHeartbeats 1000000 in
theorem typedlaw_any {w : World} (h : KSt w w) {A A' : Option Addr} {a : List Co} {l : List Fd} (c c' : Nat) (ha : CoR w w.heap.size A a) (hA : FRow w w.heap.size A' l) (hg : Good l) (hl : a.length ≤ 140737488355328) (hl' : l.length ≤ 140737488355328) :
    Calls Tryd.prog 4 #[.slice A a.length c, .slice A' l.length c'] w (Yes w) := by
  have c1 := awake_any h
  have c2 := fun {W : World} (q : Below w.heap.size w W) => typed_any (h.then_ q) c c' ((ha.below q).more q.size) ((hA.below q).more q.size) hg hl hl'
  have c3 := fun {W : World} (q : Below w.heap.size w W) => rtyped_any (h.then_ q) c c' ((ha.below q).more q.size) ((hA.below q).more q.size) hg hl hl'
  obtain ⟨E, hE⟩ : ∃ E, tyE a l = E := ⟨_, rfl⟩
  simp only [hE] at c2 c3
  clear hE ha hA hg h
  go_enter Tryd.func4, Tryd.ntmps4
  go_wp2_with (first
    | (go_at_call 10; refine c1.mono ?_; rintro e w1 ⟨rfl, hb1⟩)
    | (go_at_call 18; refine (c2 hb1).mono ?_; rintro e w2 ⟨rfl, hb2⟩; have hB2 := Below.both hb1 hb2)
    | (go_at_call 19; refine (c3 hB2).mono ?_; rintro e w3 ⟨rfl, hb3⟩))
  go_ret
  exact ⟨ret_bool (by simp), Below.both hB2 hb3⟩

set_option maxRecDepth 100000 in
set_option maxHeartbeats 4000000 in
theorem extendslaw_any {w : World} (h : KSt w w) {A A' : Option Addr} {a b : List Tm} (c c' : Nat) (ha : HsAt w w.heap.size A a) (hb : HsAt w w.heap.size A' b) (hc : a.length ≤ c) (hc' : b.length ≤ c') :
    Calls Tryd.prog 5 #[.agg #[.slice A a.length c], .agg #[.slice A' b.length c']] w (Yes w) := by
  have hB : Below w.heap.size w ((w.alloc (.cells #[.slice A a.length c] 24)).alloc (.cells #[.slice A' b.length c'] 24)) := ((Below.refl _ _).alloc (Nat.le_refl _) _).alloc (by simp) _
  have c1 := awake_any (h.then_ hB)
  go_enter Tryd.func5, Tryd.ntmps5
  go_wp2_with fail
  refine c1.mono ?_
  rintro e w1 ⟨rfl, hb1⟩
  have p0 : w1.cell? ⟨w.heap.size, 0, none⟩ = some (.slice A a.length c) := (box2 hb1 0).1
  have p1 : w1.cell? ⟨w.heap.size + 1, 0, none⟩ = some (.slice A' b.length c') := (box2 hb1 0).2
  have hB1 : Below w.heap.size w w1 := Below.both hB hb1
  have HA := Lib.hid (ha.then_ hB1)
  have HB := Lib.hid (hb.then_ hB1)
  have H1 := Lib.hid hB1
  clear c1 hb1 hB hB1 ha hb h
  go_wp2
  have q0 := cell_regrown p0
  have q1 := cell_regrown p1
  clear p0 p1
  have e1 := fun (d : Nat) (os : Array Obj) => Calls.regrown_of (ext_any c c' (HA.out.then_ (below_regrown w1 d os)) (HB.out.then_ (below_regrown w1 d os)) hc')
  have e2 := fun (d : Nat) (os : Array Obj) => Calls.regrown_of (rext_any c c' (HA.out.then_ (below_regrown w1 d os)) (HB.out.then_ (below_regrown w1 d os)))
  have e3 := fun (d : Nat) (os : Array Obj) => Calls.regrown_of (ext_any c' c (HB.out.then_ (below_regrown w1 d os)) (HA.out.then_ (below_regrown w1 d os)) hc)
  have e4 := fun (d : Nat) (os : Array Obj) => Calls.regrown_of (rext_any c' c (HB.out.then_ (below_regrown w1 d os)) (HA.out.then_ (below_regrown w1 d os)))
  have e5 := fun (d : Nat) (os : Array Obj) => Calls.regrown_of (ext_any c c (HA.out.then_ (below_regrown w1 d os)) (HA.out.then_ (below_regrown w1 d os)) hc)
  have e6 := fun (d : Nat) (os : Array Obj) => Calls.regrown_of (ext_any 0 c (HsAt.none _) (HA.out.then_ (below_regrown w1 d os)) hc)
  simp only [extH_self] at e5
  simp only [extH_nil, List.length_nil] at e6
  generalize Value.slice A a.length c = VA at *
  generalize Value.slice A' b.length c' = VB at *
  generalize extH a b = S1 at e1 e2
  generalize extH b a = S2 at e3 e4
  have s1 : (S1 == S1) = true := beq_self_eq_true _
  have s2 : (S2 == S2) = true := beq_self_eq_true _
  refine wp_region_quiet_below (by kernel_rfl) (by kernel_rfl) ?_
  repeat (go_big_quiet_step (first
    | (go_at_call 21; first | (with_reducible exact e2 _ _) | (with_reducible exact e4 _ _))
    | (go_at_call 20; first | (with_reducible exact e1 _ _) | (with_reducible exact e3 _ _) | (with_reducible exact e5 _ _) | (with_reducible exact e6 _ _))))
  refine wpQuiet_nil ?_
  intro _ hw'
  obtain ⟨⟨dq, osq⟩, hw''⟩ := hw'
  subst hw''
  go_wp2
  go_ret
  exact ⟨rfl, H1.out.trans ((below_regrown w1 dq osq).mono H1.out.size)⟩
end Go.Proofs.YtnflbnchkcigiaaDoor
