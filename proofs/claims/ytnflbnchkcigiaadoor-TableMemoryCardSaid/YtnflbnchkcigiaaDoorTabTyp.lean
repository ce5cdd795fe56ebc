/- The walk of Typed. -/
import Derived.Test.YtnflbnchkcigiaaDoorTabEqC
import Derived.Test.YtnflbnchkcigiaaDoorTlvRCheck
namespace Go.Proofs.YtnflbnchkcigiaaDoor
open Go.RowKit

/-- what Typed answers -/
noncomputable def tyE (a : List Co) (l : List Fd) : Int := if eqL ofCo a l = true then (if cer l = 1 then 130 else cer l) else 130
theorem ty_off {a : List Co} {l : List Fd} (h : eqL ofCo a l = false) : tyE a l = 130 := by unfold tyE; rw [h]; rfl
theorem ty_arg {a : List Co} {l : List Fd} (h : cer l = 1) : tyE a l = 130 := by unfold tyE; rw [if_pos h]; split <;> rfl
theorem ty_on {a : List Co} {l : List Fd} (h : eqL ofCo a l = true) (hc : cer l ≠ 1) : tyE a l = cer l := by unfold tyE; rw [if_pos h, if_neg hc]

set_option maxRecDepth 100000 in
set_option maxHeartbeats 1000000 in
theorem typed_any {w0 w : World} (h : KSt w0 w) {A A' : Option Addr} {a : List Co} {l : List Fd} (c c' : Nat) (ha : CoR w w.heap.size A a) (hA : FRow w w.heap.size A' l) (hg : Good l) (hl : a.length ≤ 140737488355328) (hl' : l.length ≤ 140737488355328) :
    Calls Tryd.prog 18 #[.slice A a.length c, .slice A' l.length c'] w fun e w' => e = .returned (.int .i64 (tyE a l)) ∧ Below w.heap.size w w' := by
  have ce := eqCF_any c c' ha hA hl hl'
  have cc := fun {W : World} (q : Below w.heap.size w W) => check_any (h.then_ q) c' ((hA.below q).more q.size) hg hl'
  obtain ⟨E, hE⟩ : ∃ E, tyE a l = E := ⟨_, rfl⟩
  obtain ⟨z, hz⟩ : ∃ z, cat l = z := ⟨_, rfl⟩
  obtain ⟨d, hd⟩ : ∃ d, cer l = d := ⟨_, rfl⟩
  rw [hE]
  simp only [hz, hd] at cc
  cases hS : eqL ofCo a l with
  | true =>
    rw [hS] at ce
    by_cases h1 : d = 1
    · subst h1
      have HE := Lib.hid (hE.symm.trans (ty_arg hd))
      clear hE hz hd hS ha hA hg h
      go_enter Tryd.func18, Tryd.ntmps18
      go_wp2_with (first
        | (go_at_call 30; refine ce.mono ?_; rintro e w1 ⟨rfl, hb1⟩)
        | (go_at_call 32; refine (cc hb1).mono ?_; rintro e w2 ⟨rfl, hb2⟩))
      go_ret
      exact ⟨ret_int HE.out.symm, Below.both hb1 hb2⟩
    · have h1b : (d == 1) = false := beq_eq_false_iff_ne.2 h1
      have HE := Lib.hid (hE.symm.trans ((ty_on hS (by rw [hd]; exact h1)).trans hd))
      have H1 := Lib.hid h1
      clear hE hz hd hS ha hA hg h h1
      go_enter Tryd.func18, Tryd.ntmps18
      go_wp2_with (first
        | (go_at_call 30; refine ce.mono ?_; rintro e w1 ⟨rfl, hb1⟩)
        | (go_at_call 32; refine (cc hb1).mono ?_; rintro e w2 ⟨rfl, hb2⟩))
      go_ret
      exact ⟨ret_int HE.out.symm, Below.both hb1 hb2⟩
  | false =>
    rw [hS] at ce
    have HE := Lib.hid (hE.symm.trans (ty_off hS))
    clear hE hz hd hS ha hA hg h cc
    go_enter Tryd.func18, Tryd.ntmps18
    go_wp2_with (go_at_call 30; refine ce.mono ?_; rintro e w1 ⟨rfl, hb1⟩)
    go_ret
    exact ⟨ret_int HE.out.symm, hb1⟩
end Go.Proofs.YtnflbnchkcigiaaDoor
