/- The walk of ExprLaws where all three are expressions (gen_laws.py). -/
import Derived.Test.YtpgljmkemmikhaaDoorExGy
namespace Go.Proofs.YtpgljmkemmikhaaDoor
open Go.RowKit

set_option maxRecDepth 100000 in
set_option maxHeartbeats 8000000 in
theorem laws_good {w : World} {A B C : Option Addr} {ca cb cc : Nat} {a b c : List Rn} (hK : KSt w w) (hA : RN w w.heap.size A a) (hB : RN w w.heap.size B b) (hC : RN w w.heap.size C c) (fa : Few a) (fb : Few b) (fc : Few c)
    (ga : a.length ≤ 65536 ∧ (chkP a).2 = 0) (gb : b.length ≤ 65536 ∧ (chkP b).2 = 0) (gc : c.length ≤ 65536 ∧ (chkP c).2 = 0) :
    Calls Tryd.prog 5 #[.slice A a.length ca, .slice B b.length cb, .slice C c.length cc] w fun e w' => e = .returned (.bool true) ∧ Below w.heap.size w w' := by
  obtain ⟨ea, xa⟩ := (good_iff.1 ga.2).2
  obtain ⟨eb, xb⟩ := (good_iff.1 gb.2).2
  obtain ⟨ec, xc⟩ := (good_iff.1 gc.2).2
  have ne : ∀ {N : List Rn} {e : Pe}, exprP N = some e → N ≠ [] := fun h q => by have := (expr_at h).1; rw [q] at this; simp at this
  have pa : Pk 65536 a := ⟨ne xa, ga.1, fa⟩
  have pb : Pk 65536 b := ⟨ne xb, gb.1, fb⟩
  have pc : Pk 65536 c := ⟨ne xc, gc.1, fc⟩
  obtain ⟨L1, hL1⟩ : ∃ L, L = a ++ b ++ [opN 6] := ⟨_, rfl⟩
  obtain ⟨L2, hL2⟩ : ∃ L, L = L1 ++ c ++ [opN 6] := ⟨_, rfl⟩
  obtain ⟨L3, hL3⟩ : ∃ L, L = b ++ c ++ [opN 6] := ⟨_, rfl⟩
  obtain ⟨L4, hL4⟩ : ∃ L, L = a ++ L3 ++ [opN 6] := ⟨_, rfl⟩
  obtain ⟨L5, hL5⟩ : ∃ L, L = a ++ b ++ [opN 8] := ⟨_, rfl⟩
  obtain ⟨L6, hL6⟩ : ∃ L, L = L5 ++ c ++ [opN 8] := ⟨_, rfl⟩
  obtain ⟨L7, hL7⟩ : ∃ L, L = b ++ c ++ [opN 8] := ⟨_, rfl⟩
  obtain ⟨L8, hL8⟩ : ∃ L, L = a ++ L7 ++ [opN 8] := ⟨_, rfl⟩
  obtain ⟨L10, hL10⟩ : ∃ L, L = a ++ c ++ [opN 8] := ⟨_, rfl⟩
  obtain ⟨L11, hL11⟩ : ∃ L, L = L5 ++ L10 ++ [opN 6] := ⟨_, rfl⟩
  obtain ⟨L13, hL13⟩ : ∃ L, L = a ++ L3 ++ [opN 8] := ⟨_, rfl⟩
  obtain ⟨L14, hL14⟩ : ∃ L, L = b ++ [opN 5] := ⟨_, rfl⟩
  obtain ⟨L15, hL15⟩ : ∃ L, L = a ++ L14 ++ [opN 6] := ⟨_, rfl⟩
  obtain ⟨L17, hL17⟩ : ∃ L, L = b ++ a ++ [opN 8] := ⟨_, rfl⟩
  obtain ⟨L18, hL18⟩ : ∃ L, L = a ++ b ++ [opN 7] := ⟨_, rfl⟩
  obtain ⟨L19, hL19⟩ : ∃ L, L = a ++ [opN 5] := ⟨_, rfl⟩
  obtain ⟨L20, hL20⟩ : ∃ L, L = L19 ++ [opN 5] := ⟨_, rfl⟩
  have pL1 := pk_over (o := 6) pa pb hL1.symm (by decide)
  have pL2 := pk_over (o := 6) pL1 pc hL2.symm (by decide)
  have pL3 := pk_over (o := 6) pb pc hL3.symm (by decide)
  have pL4 := pk_over (o := 6) pa pL3 hL4.symm (by decide)
  have pL5 := pk_over (o := 8) pa pb hL5.symm (by decide)
  have pL6 := pk_over (o := 8) pL5 pc hL6.symm (by decide)
  have pL7 := pk_over (o := 8) pb pc hL7.symm (by decide)
  have pL8 := pk_over (o := 8) pa pL7 hL8.symm (by decide)
  have pL10 := pk_over (o := 8) pa pc hL10.symm (by decide)
  have pL11 := pk_over (o := 6) pL5 pL10 hL11.symm (by decide)
  have pL13 := pk_over (o := 8) pa pL3 hL13.symm (by decide)
  have pL14 := pk_under (o := 5) pb hL14.symm (by decide)
  have pL15 := pk_over (o := 6) pa pL14 hL15.symm (by decide)
  have pL17 := pk_over (o := 8) pb pa hL17.symm (by decide)
  have pL18 := pk_over (o := 7) pa pb hL18.symm (by decide)
  have pL19 := pk_under (o := 5) pa hL19.symm (by decide)
  have pL20 := pk_under (o := 5) pL19 hL20.symm (by decide)
  have K1 : Like L2 L4 := by subst hL1 hL2 hL3 hL4 hL5 hL6 hL7 hL8 hL10 hL11 hL13 hL14 hL15 hL17 hL18 hL19 hL20; exact like_add xa xb xc
  have K2 : Like L6 L8 := by subst hL1 hL2 hL3 hL4 hL5 hL6 hL7 hL8 hL10 hL11 hL13 hL14 hL15 hL17 hL18 hL19 hL20; exact like_mul xa xb xc
  have K3 : Like L13 L11 := by subst hL1 hL2 hL3 hL4 hL5 hL6 hL7 hL8 hL10 hL11 hL13 hL14 hL15 hL17 hL18 hL19 hL20; exact like_spread xa xb xc
  have K4 : Like L18 L15 := by subst hL1 hL2 hL3 hL4 hL5 hL6 hL7 hL8 hL10 hL11 hL13 hL14 hL15 hL17 hL18 hL19 hL20; exact like_sub xa xb
  have K5 : Like L20 a := by subst hL1 hL2 hL3 hL4 hL5 hL6 hL7 hL8 hL10 hL11 hL13 hL14 hL15 hL17 hL18 hL19 hL20; exact like_neg xa
  have K6 := mul_turn ga.2 gb.2 xa xb
  have K6 : ∀ k : Int, 1 ≤ k → k ≤ 5 → ((valV L5 k).e = 0 ↔ (valV L17 k).e = 0) ∧ (valV L5 k).k = (valV L17 k).k ∧ (valV L5 k).n = (valV L17 k).n ∧ (valV L5 k).s = (valV L17 k).s := by subst hL1 hL2 hL3 hL4 hL5 hL6 hL7 hL8 hL10 hL11 hL13 hL14 hL15 hL17 hL18 hL19 hL20; exact K6
  have OA := Lib.hid (fun W (hb : Below w.heap.size w W) => isone_any (c := ca) ((hA.below hb).more hb.size) fa)
  have OB := Lib.hid (fun W (hb : Below w.heap.size w W) => isone_any (c := cb) ((hB.below hb).more hb.size) fb)
  have OC := Lib.hid (fun W (hb : Below w.heap.size w W) => isone_any (c := cc) ((hC.below hb).more hb.size) fc)
  rw [decide_eq_true ga] at OA
  rw [decide_eq_true gb] at OB
  rw [decide_eq_true gc] at OC
  have F : Hid (Std w w [(A, a), (B, b), (C, c)]) := ⟨Below.refl _ _, fun p hp => by
    simp only [List.mem_cons, List.not_mem_nil, or_false] at hp
    rcases hp with rfl | rfl | rfl
    · exact hA
    · exact hB
    · exact hC⟩
  have CL := Lib.hid (lives_any hK)
  have qL1 := Lib.hid hL1.symm
  have qL2 := Lib.hid hL2.symm
  have qL3 := Lib.hid hL3.symm
  have qL4 := Lib.hid hL4.symm
  have qL5 := Lib.hid hL5.symm
  have qL6 := Lib.hid hL6.symm
  have qL7 := Lib.hid hL7.symm
  have qL8 := Lib.hid hL8.symm
  have qL10 := Lib.hid hL10.symm
  have qL11 := Lib.hid hL11.symm
  have qL13 := Lib.hid hL13.symm
  have qL14 := Lib.hid hL14.symm
  have qL15 := Lib.hid hL15.symm
  have qL17 := Lib.hid hL17.symm
  have qL18 := Lib.hid hL18.symm
  have qL19 := Lib.hid hL19.symm
  have qL20 := Lib.hid hL20.symm
  clear hL1 hL2 hL3 hL4 hL5 hL6 hL7 hL8 hL10 hL11 hL13 hL14 hL15 hL17 hL18 hL19 hL20 hA hB hC fa fb fc ga gb gc xa xb xc ne
  go_enter Tryd.func5, Tryd.ntmps5
  go_wp2_with fail
  refine CL.out.mono ?_
  rintro e w1 ⟨rfl, H1⟩
  have F := Lib.hid (F.out.keep H1)
  clear H1 CL
  go_wp2_with fail
  refine (OA.out _ F.out.1).mono ?_
  rintro e w1 ⟨rfl, H1⟩
  have F := Lib.hid (F.out.keep H1)
  clear H1 OA
  go_wp2_with fail
  refine (OB.out _ F.out.1).mono ?_
  rintro e w1 ⟨rfl, H1⟩
  have F := Lib.hid (F.out.keep H1)
  clear H1 OB
  go_wp2_with fail
  refine (OC.out _ F.out.1).mono ?_
  rintro e w1 ⟨rfl, H1⟩
  have F := Lib.hid (F.out.keep H1)
  clear H1 OC
  go_wp2_with fail
  refine (ov_any (N := a) (M := b) (o := 6) F.out (by simp) (by simp) qL1.out pa pb (by decide)).mono ?_
  rintro e w1 ⟨gL1, cL1, rfl, F⟩
  go_wp2_with fail
  refine (ov_any (N := L1) (M := c) (o := 6) F.out (by simp) (by simp) qL2.out pL1 pc (by decide)).mono ?_
  rintro e w1 ⟨gL2, cL2, rfl, F⟩
  go_wp2_with fail
  refine (ov_any (N := b) (M := c) (o := 6) F.out (by simp) (by simp) qL3.out pb pc (by decide)).mono ?_
  rintro e w1 ⟨gL3, cL3, rfl, F⟩
  go_wp2_with fail
  refine (ov_any (N := a) (M := L3) (o := 6) F.out (by simp) (by simp) qL4.out pa pL3 (by decide)).mono ?_
  rintro e w1 ⟨gL4, cL4, rfl, F⟩
  go_wp2_with fail
  refine (ov_any (N := a) (M := b) (o := 8) F.out (by simp) (by simp) qL5.out pa pb (by decide)).mono ?_
  rintro e w1 ⟨gL5, cL5, rfl, F⟩
  go_wp2_with fail
  refine (ov_any (N := L5) (M := c) (o := 8) F.out (by simp) (by simp) qL6.out pL5 pc (by decide)).mono ?_
  rintro e w1 ⟨gL6, cL6, rfl, F⟩
  go_wp2_with fail
  refine (ov_any (N := b) (M := c) (o := 8) F.out (by simp) (by simp) qL7.out pb pc (by decide)).mono ?_
  rintro e w1 ⟨gL7, cL7, rfl, F⟩
  go_wp2_with fail
  refine (ov_any (N := a) (M := L7) (o := 8) F.out (by simp) (by simp) qL8.out pa pL7 (by decide)).mono ?_
  rintro e w1 ⟨gL8, cL8, rfl, F⟩
  go_wp2_with fail
  refine (ov_any (N := a) (M := b) (o := 8) F.out (by simp) (by simp) qL5.out pa pb (by decide)).mono ?_
  rintro e w1 ⟨gL5, cL5, rfl, F⟩
  go_wp2_with fail
  refine (ov_any (N := a) (M := c) (o := 8) F.out (by simp) (by simp) qL10.out pa pc (by decide)).mono ?_
  rintro e w1 ⟨gL10, cL10, rfl, F⟩
  go_wp2_with fail
  refine (ov_any (N := L5) (M := L10) (o := 6) F.out (by simp) (by simp) qL11.out pL5 pL10 (by decide)).mono ?_
  rintro e w1 ⟨gL11, cL11, rfl, F⟩
  go_wp2_with fail
  refine (al_any (N := L2) (M := L4) hK F.out (by simp) (by simp) pL2 pL4 K1).mono ?_
  rintro e w1 ⟨rfl, F⟩
  go_wp2_with fail
  refine (al_any (N := L6) (M := L8) hK F.out (by simp) (by simp) pL6 pL8 K2).mono ?_
  rintro e w1 ⟨rfl, F⟩
  go_wp2_with fail
  refine (ov_any (N := b) (M := c) (o := 6) F.out (by simp) (by simp) qL3.out pb pc (by decide)).mono ?_
  rintro e w1 ⟨gL3, cL3, rfl, F⟩
  go_wp2_with fail
  refine (ov_any (N := a) (M := L3) (o := 8) F.out (by simp) (by simp) qL13.out pa pL3 (by decide)).mono ?_
  rintro e w1 ⟨gL13, cL13, rfl, F⟩
  go_wp2_with fail
  refine (al_any (N := L13) (M := L11) hK F.out (by simp) (by simp) pL13 pL11 K3).mono ?_
  rintro e w1 ⟨rfl, F⟩
  go_wp2_with fail
  refine (un_any (N := b) (o := 5) F.out (by simp) qL14.out pb (by decide)).mono ?_
  rintro e w1 ⟨gL14, cL14, rfl, F⟩
  go_wp2_with fail
  refine (ov_any (N := a) (M := L14) (o := 6) F.out (by simp) (by simp) qL15.out pa pL14 (by decide)).mono ?_
  rintro e w1 ⟨gL15, cL15, rfl, F⟩
  go_wp2_with fail
  refine (ov_any (N := a) (M := b) (o := 8) F.out (by simp) (by simp) qL5.out pa pb (by decide)).mono ?_
  rintro e w1 ⟨gL5, cL5, rfl, F⟩
  go_wp2_with fail
  refine (ov_any (N := b) (M := a) (o := 8) F.out (by simp) (by simp) qL17.out pb pa (by decide)).mono ?_
  rintro e w1 ⟨gL17, cL17, rfl, F⟩
  go_wp2_with fail
  refine (bo_any (N := L5) (M := L17) hK F.out (by simp) (by simp) pL5 pL17 K6).mono ?_
  rintro e w1 ⟨rfl, F⟩
  go_wp2_with fail
  refine (ov_any (N := a) (M := b) (o := 7) F.out (by simp) (by simp) qL18.out pa pb (by decide)).mono ?_
  rintro e w1 ⟨gL18, cL18, rfl, F⟩
  go_wp2_with fail
  refine (al_any (N := L18) (M := L15) hK F.out (by simp) (by simp) pL18 pL15 K4).mono ?_
  rintro e w1 ⟨rfl, F⟩
  go_wp2_with fail
  refine (un_any (N := a) (o := 5) F.out (by simp) qL19.out pa (by decide)).mono ?_
  rintro e w1 ⟨gL19, cL19, rfl, F⟩
  go_wp2_with fail
  refine (un_any (N := L19) (o := 5) F.out (by simp) qL20.out pL19 (by decide)).mono ?_
  rintro e w1 ⟨gL20, cL20, rfl, F⟩
  go_wp2_with fail
  refine (al_any (N := L20) (M := a) hK F.out (by simp) (by simp) pL20 pa K5).mono ?_
  rintro e w1 ⟨rfl, F⟩
  go_wp2_with fail
  go_ret
  exact ⟨rfl, F.out.1⟩
set_option maxRecDepth 100000 in
set_option maxHeartbeats 8000000 in
theorem laws_any {w : World} {A B C : Option Addr} {ca cb cc : Nat} {a b c : List Rn} (hK : KSt w w) (hA : RN w w.heap.size A a) (hB : RN w w.heap.size B b) (hC : RN w w.heap.size C c) (fa : Few a) (fb : Few b) (fc : Few c) :
    Calls Tryd.prog 5 #[.slice A a.length ca, .slice B b.length cb, .slice C c.length cc] w fun e w' => e = .returned (.bool true) ∧ Below w.heap.size w w' := by
  by_cases ga : a.length ≤ 65536 ∧ (chkP a).2 = 0
  case neg =>
    have OA := Lib.hid (fun W (hb : Below w.heap.size w W) => isone_any (c := ca) ((hA.below hb).more hb.size) fa)
    rw [decide_eq_false ga] at OA
    have CL := Lib.hid (lives_any hK)
    clear hK hA hB hC fa fb fc
    go_enter Tryd.func5, Tryd.ntmps5
    go_wp2_with fail
    refine CL.out.mono ?_
    rintro e w1 ⟨rfl, H1⟩
    go_wp2_with fail
    refine (OA.out _ H1).mono ?_
    rintro e w2 ⟨rfl, H2⟩
    have H1 := H1.trans (H2.mono H1.size)
    clear H2 OA
    go_wp2_with fail
    go_ret
    exact ⟨rfl, H1⟩
  by_cases gb : b.length ≤ 65536 ∧ (chkP b).2 = 0
  case neg =>
    have OA := Lib.hid (fun W (hb : Below w.heap.size w W) => isone_any (c := ca) ((hA.below hb).more hb.size) fa)
    rw [decide_eq_true ga] at OA
    have OB := Lib.hid (fun W (hb : Below w.heap.size w W) => isone_any (c := cb) ((hB.below hb).more hb.size) fb)
    rw [decide_eq_false gb] at OB
    have CL := Lib.hid (lives_any hK)
    clear hK hA hB hC fa fb fc
    go_enter Tryd.func5, Tryd.ntmps5
    go_wp2_with fail
    refine CL.out.mono ?_
    rintro e w1 ⟨rfl, H1⟩
    go_wp2_with fail
    refine (OA.out _ H1).mono ?_
    rintro e w2 ⟨rfl, H2⟩
    have H1 := H1.trans (H2.mono H1.size)
    clear H2 OA
    go_wp2_with fail
    refine (OB.out _ H1).mono ?_
    rintro e w2 ⟨rfl, H2⟩
    have H1 := H1.trans (H2.mono H1.size)
    clear H2 OB
    go_wp2_with fail
    go_ret
    exact ⟨rfl, H1⟩
  by_cases gc : c.length ≤ 65536 ∧ (chkP c).2 = 0
  case neg =>
    have OA := Lib.hid (fun W (hb : Below w.heap.size w W) => isone_any (c := ca) ((hA.below hb).more hb.size) fa)
    rw [decide_eq_true ga] at OA
    have OB := Lib.hid (fun W (hb : Below w.heap.size w W) => isone_any (c := cb) ((hB.below hb).more hb.size) fb)
    rw [decide_eq_true gb] at OB
    have OC := Lib.hid (fun W (hb : Below w.heap.size w W) => isone_any (c := cc) ((hC.below hb).more hb.size) fc)
    rw [decide_eq_false gc] at OC
    have CL := Lib.hid (lives_any hK)
    clear hK hA hB hC fa fb fc
    go_enter Tryd.func5, Tryd.ntmps5
    go_wp2_with fail
    refine CL.out.mono ?_
    rintro e w1 ⟨rfl, H1⟩
    go_wp2_with fail
    refine (OA.out _ H1).mono ?_
    rintro e w2 ⟨rfl, H2⟩
    have H1 := H1.trans (H2.mono H1.size)
    clear H2 OA
    go_wp2_with fail
    refine (OB.out _ H1).mono ?_
    rintro e w2 ⟨rfl, H2⟩
    have H1 := H1.trans (H2.mono H1.size)
    clear H2 OB
    go_wp2_with fail
    refine (OC.out _ H1).mono ?_
    rintro e w2 ⟨rfl, H2⟩
    have H1 := H1.trans (H2.mono H1.size)
    clear H2 OC
    go_wp2_with fail
    go_ret
    exact ⟨rfl, H1⟩
  exact laws_good hK hA hB hC fa fb fc ga gb gc
end Go.Proofs.YtpgljmkemmikhaaDoor
