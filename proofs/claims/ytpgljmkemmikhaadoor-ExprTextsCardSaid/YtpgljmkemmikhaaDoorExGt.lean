/- ExprTexts: a cat's nodes laid anew; bare. -/
import Derived.Test.YtpgljmkemmikhaaDoorExGy
import Derived.Test.YtpgljmkemmikhaaDoorExGx
namespace Go.Proofs.YtpgljmkemmikhaaDoor
open Go.RowKit

theorem own_none (w : World) (base : Nat) (hb : base ≤ w.heap.size) : OwnRn (w.alloc (.cells #[] 37)) base (some ⟨w.heap.size, 0, none⟩) 0 [] :=
  ⟨rfl, .inr ⟨w.heap.size, 0, _, rfl, hb, heap_alloc_new w _, Nat.le_refl _, Nat.zero_le _, rfl, rfl⟩⟩
def catN : Rn := ⟨9, 2, 0, [], 0⟩
theorem app_cat {w : World} {L : List Rn} {w2 : World} {g2 c2 : Nat} (h : OwnRn w2 w.heap.size (some ⟨g2, 0, none⟩) c2 L) (hb : Below w.heap.size w w2) (hl : L.length ≤ 2932031007400) : ∃ g3 c3 w5, (Builtin.append_ #[22, 22] 22 #[.slice (some ⟨g2, 0, none⟩) L.length c2, .slice (some ⟨w2.heap.size, 0, none⟩) 1 1]).run Tryd.prog (w2.alloc (.cells #[.int .i64 9, .int .i64 2, .int .u64 0, .string ⟨#[]⟩, .int .i64 0] 37)) = .ok (.slice (some ⟨g3, 0, none⟩) (L.length + 1) c3) w5 ∧
    RN w5 w5.heap.size (some ⟨g3, 0, none⟩) (L ++ [catN]) ∧ Below w.heap.size w w5 := by
  have h4 : Below w2.heap.size w2 (w2.alloc (.cells #[.int .i64 9, .int .i64 2, .int .u64 0, .string ⟨#[]⟩, .int .i64 0] 37)) := (Below.refl _ w2).alloc (Nat.le_refl _) _
  have hr := erows_new (f := rnC) (s := 5) (fun _ => rfl) w2 #[.int .i64 9, .int .i64 2, .int .u64 0, .string ⟨#[]⟩, .int .i64 0] 37 [catN] rfl
  obtain ⟨g3, c3, w5, e, ho, _, hb5⟩ := run_app_rn (cS := 1) (h.below h4) hr (by simp) (by simp only [List.length_cons, List.length_nil]; omega) (Nat.le_trans hb.size h4.size)
  exact ⟨g3, c3, w5, e, ho.rn, (hb.trans (h4.mono hb.size)).trans hb5⟩
theorem cat_runs {w W : World} {R : List (Option Addr × List Rn)} {A S : Option Addr} {a b C : List Rn} {ca cb : Nat} (F : Std w W R) (ha : (A, a) ∈ R) (hb : (S, b) ∈ R) (pa : Pk 65536 a) (pb : Pk 65536 b) (hC : a ++ b ++ [catN] = C) :
    ∃ g1 c1 w1 g2 c2 w2 m, (Builtin.append_ #[22, 22] 22 #[.slice none 0 0, .slice A a.length ca]).run Tryd.prog W = .ok (.slice (some ⟨g1, 0, none⟩) a.length c1) w1 ∧
      (Builtin.append_ #[22, 22] 22 #[.slice (some ⟨g1, 0, none⟩) a.length c1, .slice S b.length cb]).run Tryd.prog w1 = .ok (.slice (some ⟨g2, 0, none⟩) m c2) w2 ∧
      ∃ g3 c3 w3, (Builtin.append_ #[22, 22] 22 #[.slice (some ⟨w2.heap.size, 0, none⟩) 0 0, .slice (some ⟨g2, 0, none⟩) m c2]).run Tryd.prog (w2.alloc (.cells #[] 37)) = .ok (.slice (some ⟨g3, 0, none⟩) m c3) w3 ∧
      ∃ g4 c4 w4, (Builtin.append_ #[22, 22] 22 #[.slice (some ⟨g3, 0, none⟩) m c3, .slice (some ⟨w3.heap.size, 0, none⟩) 1 1]).run Tryd.prog (w3.alloc (.cells #[.int .i64 9, .int .i64 2, .int .u64 0, .string ⟨#[]⟩, .int .i64 0] 37)) = .ok (.slice (some ⟨g4, 0, none⟩) C.length c4) w4 ∧ Hid (Std w w4 ((some ⟨g4, 0, none⟩, C) :: R)) := by
  obtain ⟨h1, h2, _⟩ := pa
  obtain ⟨h4, h5, _⟩ := pb
  have hA : RN W W.heap.size A a := F.2 _ ha
  have hB : RN W W.heap.size S b := F.2 _ hb
  obtain ⟨g1, c1, w1, hr1, ho1, hb1⟩ := run_first (cS := ca) hA h1 (by omega)
  obtain ⟨g2, c2, w2, hr2, ho2, _, hb2⟩ := run_app_rn (cS := cb) ho1 (hB.below hb1) h4 (by omega) hb1.size
  have b02 := hb1.trans hb2
  have b03 : Below w2.heap.size w2 (w2.alloc (.cells #[] 37)) := (Below.refl _ w2).alloc (Nat.le_refl _) _
  have hn : a ++ b ≠ [] := by simp [h1]
  have hlen : (a ++ b).length = a.length + b.length := List.length_append
  obtain ⟨g3, c3, w3, hr3, ho3, _, hb3⟩ := run_app_rn (cS := c2) (own_none w2 w2.heap.size (Nat.le_refl _)) (ho2.rn.below b03) hn (by rw [hlen]; simp only [List.length_nil]; omega) b03.size
  rw [List.nil_append] at ho3
  have b3 : Below w2.heap.size w2 w3 := b03.trans hb3
  obtain ⟨g4, c4, w4, hr4, hn4, hb4⟩ := app_cat ho3 b3 (by rw [hlen]; omega)
  refine ⟨g1, c1, w1, g2, c2, w2, (a ++ b).length, hr1, by rw [hlen]; exact hr2, g3, c3, w3, ?_, g4, c4, w4, ?_, ?_⟩
  · rw [show ([] : List Rn).length = 0 from rfl, Nat.zero_add] at hr3
    exact hr3
  · rw [hr4, ← hC, List.length_append (bs := [catN])]
    rfl
  · subst hC
    exact (F.keep (b02.trans (hb4.mono b02.size))).add hn4
set_option maxRecDepth 100000 in
set_option maxHeartbeats 4000000 in
theorem bare_any {w W : World} {R : List (Option Addr × List Rn)} {A : Option Addr} {N : List Rn} {c : Nat} (hK : KSt w w) (F : Std w W R) (hN : (A, N) ∈ R) (hF : Few N) : ∃ (s : ByteArray) (t : Bool), Calls Tryd.prog 18 #[.slice A N.length c] W (fun E W' => E = .returned (.tuple #[.string s, .bool t]) ∧ Hid (Below W.heap.size W W')) ∧ Hid (str (valV N 4).s = s ∧ decide ((valV N 4).e = 0) = t) := by
  obtain ⟨z0, z1, z2, za, e1, cv, HV⟩ := vv_any (c := c) (k := 4) hK F hN hF
  have FK := Lib.hid (hK.then_ F.1)
  refine ⟨z2, decide (e1 = 0), ?_, HV.out.2.2.1, by rw [HV.out.2.2.2]⟩
  obtain ⟨n, hn⟩ : ∃ n, N.length = n := ⟨_, rfl⟩
  rw [hn] at cv ⊢
  clear hK F hN hF HV hn
  have main : ∀ t : Bool, ((e1 : Int) == 0) = t → Calls Tryd.prog 18 #[.slice A n c] W (fun E W' => E = .returned (.tuple #[.string z2, .bool t]) ∧ Hid (Below W.heap.size W W')) := by
    intro t ht
    go_enter Tryd.func18, Tryd.ntmps18
    go_wp2_with fail
    refine (textK_any FK.out.k).mono ?_
    rintro e w' ⟨rfl, rfl⟩
    clear FK
    go_wp2_with fail
    refine cv.mono ?_
    rintro e w7 ⟨rfl, G7⟩
    have m9 := CB.new w7 39 #[.int .i64 z0, .int .u64 (z1 : Nat), .string z2]
    have qz := m9.at_ 2
    simp only [List.getElem?_toArray, List.getElem?_cons_zero, List.getElem?_cons_succ] at qz
    have B9 := Lib.hid (G7.out.trans (((Below.refl _ w7).alloc (Nat.le_refl _) (.cells #[.int .i64 z0, .int .u64 (z1 : Nat), .string z2] 39)).mono G7.out.size))
    clear cv m9 G7
    go_wp2
    go_ret2
    exact ⟨rfl, B9⟩
  exact main _ (by rw [Bool.eq_iff_iff, beq_iff_eq, decide_eq_true_iff]; omega)
end Go.Proofs.YtpgljmkemmikhaaDoor
/- The walk of ExprTexts (gen_textlaw.py). -/
namespace Go.Proofs.YtpgljmkemmikhaaDoor
open Go.RowKit

theorem bare_ne {s : ByteArray} {l : List UInt8} (h : s = str l) (hl : l ≠ []) : ¬ s.toList = [] := by
  subst h
  intro h
  rw [ByteArray.toList_eq] at h
  exact hl h
theorem str_plus (a b : List UInt8) : str (a ++ b) = str a ++ str b := ls_inj (by rw [ls_append, ls_str, ls_str, ls_str])
theorem bare_beq {s : ByteArray} (h : ¬ s.toList = []) : (s.toList == []) = false := by rw [beq_eq_false_iff_ne]; exact h
set_option maxRecDepth 100000 in
set_option maxHeartbeats 8000000 in
theorem texts_good {w : World} {A B : Option Addr} {ca cb : Nat} {a b : List Rn} {n : Nat} {Z : Int} (hK : KSt w w) (hZ : Hid (Z = (n : Int))) (hn : n < 18446744073709551616) (hA : RN w w.heap.size A a) (hB : RN w w.heap.size B b) (fa : Few a) (fb : Few b)
    (ga : a.length ≤ 65536 ∧ (chkP a).2 = 0) (gb : b.length ≤ 65536 ∧ (chkP b).2 = 0) :
    Calls Tryd.prog 6 #[.slice A a.length ca, .slice B b.length cb, .int .u64 Z] w fun e w' => e = .returned (.bool true) ∧ Below w.heap.size w w' := by
  obtain ⟨ea, xa⟩ := (good_iff.1 ga.2).2
  obtain ⟨eb, xb⟩ := (good_iff.1 gb.2).2
  have ne : ∀ {N : List Rn} {e : Pe}, exprP N = some e → N ≠ [] := fun h q => by have := (expr_at h).1; rw [q] at this; simp at this
  have pa : Pk 65536 a := ⟨ne xa, ga.1, fa⟩
  have pb : Pk 65536 b := ⟨ne xb, gb.1, fb⟩
  have pn : Pk 1 [leafN n] := ⟨by simp, by simp, leaf_few hn⟩
  obtain ⟨C, hC⟩ : ∃ L, a ++ b ++ [catN] = L := ⟨_, rfl⟩
  obtain ⟨D, hD⟩ : ∃ L, a ++ b ++ [opN 6] = L := ⟨_, rfl⟩
  obtain ⟨M, hM⟩ : ∃ L, a ++ [leafN n] ++ [opN 10] = L := ⟨_, rfl⟩
  obtain ⟨ML, hML⟩ : ∃ L, M ++ [opN 11] = L := ⟨_, rfl⟩
  obtain ⟨AL, hAL⟩ : ∃ L, a ++ [opN 11] = L := ⟨_, rfl⟩
  obtain ⟨V, hV⟩ : ∃ L, AL ++ [leafN n] ++ [opN 8] = L := ⟨_, rfl⟩
  have pD := pk_over (o := 6) pa pb hD (by decide)
  have fC : Few C := by
    rw [← hC]
    exact few_snoc (few_both fa fb (by omega)) (by rw [List.length_append]; omega) ⟨(show (2 : Int) ≤ 9223372036854775807 by decide), (show 0 < 18446744073709551616 by decide), Nat.zero_le _⟩
  have pM := pk_over (o := 10) pa pn hM (by decide)
  have pML := pk_under (o := 11) pM hML (by decide)
  have pAL := pk_under (o := 11) pa hAL (by decide)
  have pV := pk_over (o := 8) pAL pn hV (by decide)
  have T1 : (valV a 4).e = 0 → (valV b 4).e = 0 → ((valV C 4).k = (valV D 4).k ∧ (valV C 4).n = (valV D 4).n ∧ (valV C 4).s = (valV D 4).s ∧ (valV C 4).e = (valV D 4).e) ∧ ((valV C 4).e = 0 → (valV C 4).s = (valV a 4).s ++ (valV b 4).s ∧ ((valV a 4).s ++ (valV b 4).s).length ≤ 4096) := by
    subst hC hD
    exact cat_add ga.2 gb.2 xa xb
  have T2 : (valV C 4).e = 0 → (valV a 4).e ≠ 0 ∨ (valV b 4).e ≠ 0 → (valV C 4).s ≠ [] := by
    subst hC
    exact cat_bare ga.2 gb.2 xa xb
  have T3 : (valV a 4).e = 0 → ((valV ML 1).e = 0 → (valV V 1).e = 0 ∧ (valV ML 1).k = (valV V 1).k ∧ (valV ML 1).n = (valV V 1).n ∧ (valV ML 1).s = (valV V 1).s ∧ (valV V 1).n ≤ 4096) ∧ ((valV ML 1).e ≠ 0 → (valV V 1).e ≠ 0 ∨ 4096 < (valV V 1).n) := by
    subst hV hML hM hAL
    exact fun h => rep_len ga.2 xa h n
  have T1 := Lib.hid T1
  have T2 := Lib.hid T2
  have T3 := Lib.hid T3
  have OA := Lib.hid (fun W (hb : Below w.heap.size w W) => isone_any (c := ca) ((hA.below hb).more hb.size) fa)
  have OB := Lib.hid (fun W (hb : Below w.heap.size w W) => isone_any (c := cb) ((hB.below hb).more hb.size) fb)
  rw [decide_eq_true ga] at OA
  rw [decide_eq_true gb] at OB
  have F : Hid (Std w w [(A, a), (B, b)]) := ⟨Below.refl _ _, fun p hp => by
    simp only [List.mem_cons, List.not_mem_nil, or_false] at hp
    rcases hp with rfl | rfl
    · exact hA
    · exact hB⟩
  have CL := Lib.hid (lives_any hK)
  have hC := Lib.hid hC
  have hD := Lib.hid hD
  have hM := Lib.hid hM
  have hML := Lib.hid hML
  have hAL := Lib.hid hAL
  have hV := Lib.hid hV
  clear hA hB ga gb xa xb ne
  go_enter Tryd.func6, Tryd.ntmps6
  go_wp2_with fail
  refine CL.out.mono ?_
  rintro e w1 ⟨rfl, H1⟩
  have F := Lib.hid (F.out.keep H1)
  clear H1 CL
  go_wp2_with fail
  refine (OA.out _ F.out.1).mono ?_
  rintro e w1 ⟨rfl, H1⟩
  have F := Lib.hid (F.out.keep H1)
  clear H1 OA
  go_wp2_with fail
  refine (OB.out _ F.out.1).mono ?_
  rintro e w1 ⟨rfl, H1⟩
  have F := Lib.hid (F.out.keep H1)
  clear H1 OB
  obtain ⟨s1, t1, cv, HB1⟩ := bare_any (A := A) (N := a) (c := ca) hK F.out (by simp) fa
  go_wp2_with fail
  refine cv.mono ?_
  rintro e w1 ⟨rfl, H1⟩
  have F := Lib.hid (F.out.keep H1.out)
  clear H1 cv
  obtain ⟨s2, t2, cv, HB2⟩ := bare_any (A := B) (N := b) (c := cb) hK F.out (by simp) fb
  go_wp2_with fail
  refine cv.mono ?_
  rintro e w2 ⟨rfl, H1⟩
  have F := Lib.hid (F.out.keep H1.out)
  clear H1 cv
  obtain ⟨g1, c1, w3, g2, c2, w4, m, hr1, hr2, g3, c3, w5, hr3, g4, c4, w6, hr4, F6⟩ := cat_runs (A := A) (S := B) (ca := ca) (cb := cb) F.out (by simp) (by simp) pa pb hC.out
  clear F
  go_wp2_with (first
    | (at_builtin; refine wpList_append_run rfl (.tmp 46) (.tmp 47) _ rfl rfl rfl hr1 ?_)
    | (at_builtin; refine wpList_append_run rfl (.tmp 49) (.tmp 50) _ rfl rfl rfl hr2 ?_)
    | (at_builtin; refine wpList_append_run rfl (.tmp 52) (.tmp 53) _ rfl rfl rfl hr3 ?_)
    | (at_builtin; refine wpList_append_run rfl (.tmp 55) (.tmp 57) _ rfl rfl rfl hr4 ?_)
    | fail)
  have F := F6
  clear F6 hr1 hr2 hr3 hr4
  have FK := Lib.hid (hK.then_ F.out.1)
  refine (textK_any FK.out.k).mono ?_
  rintro e w' ⟨rfl, rfl⟩
  clear FK
  obtain ⟨x0, x1, x2, xa, e0, cv, He0⟩ := vv_any (A := some ⟨g4, 0, none⟩) (N := C) (c := c4) (k := 4) hK F.out (by simp) fC
  go_wp2_with fail
  refine cv.mono ?_
  rintro e w7 ⟨rfl, Gw7⟩
  have F := Lib.hid (F.out.keep Gw7.out)
  clear cv
  have F := Lib.hid (F.out.more (.cells #[.int .i64 x0, .int .u64 (x1 : Nat), .string x2] 39))
  go_wp2_with fail
  refine (ovb_any (N := a) (M := b) (o := 6) F.out (by simp) (by simp) hD.out pa pb (by decide)).mono ?_
  rintro e w8 ⟨g5, c5, rfl, F8⟩
  have G8 := Lib.hid F8.out.2
  have F := Lib.hid F8.out.1
  clear F8
  have FK := Lib.hid (hK.then_ F.out.1)
  go_wp2_with fail
  refine (textK_any FK.out.k).mono ?_
  rintro e w' ⟨rfl, rfl⟩
  clear FK
  obtain ⟨y0, y1, y2, ya, e1, cv, He1⟩ := vv_any (A := some ⟨g5, 0, none⟩) (N := D) (c := c5) (k := 4) hK F.out (by simp) pD.2.2
  go_wp2_with fail
  refine cv.mono ?_
  rintro e w9 ⟨rfl, Gw9⟩
  have F := Lib.hid (F.out.keep Gw9.out)
  clear cv
  have n9 := ((((CB.new w7 39 #[.int .i64 x0, .int .u64 (x1 : Nat), .string x2]).below G8.out).below Gw9.out)).below ((Below.refl _ w9).alloc (Nat.le_refl _) (.cells #[.int .i64 y0, .int .u64 (y1 : Nat), .string y2] 39))
  have m9 := CB.new w9 39 #[.int .i64 y0, .int .u64 (y1 : Nat), .string y2]
  have kx0 := n9.at_ 0
  have ky0 := m9.at_ 0
  have kx1 := n9.at_ 1
  have ky1 := m9.at_ 1
  have kx2 := n9.at_ 2
  have ky2 := m9.at_ 2
  simp only [List.getElem?_toArray, List.getElem?_cons_zero, List.getElem?_cons_succ] at kx0 ky0 kx1 ky1 kx2 ky2
  have hs7 : w7.heap.size < (w7.alloc (.cells #[.int .i64 x0, .int .u64 (x1 : Nat), .string x2] 39)).heap.size := by simp
  have hne : w7.heap.size ≠ w9.heap.size := by
    have := G8.out.size
    have := Gw9.out.size
    omega
  have F := Lib.hid (F.out.more (.cells #[.int .i64 y0, .int .u64 (y1 : Nat), .string y2] 39))
  clear n9 m9 hs7 Gw7 G8 Gw9
  have hb1 := HB1.out.2
  have hb2 := HB2.out.2
  have hb1s := HB1.out.1
  have hb2s := HB2.out.1
  cases t1 with
  | false =>
    have ha0 : (valV a 4).e ≠ 0 := of_decide_eq_false hb1
    by_cases he : e0 = 0
    case pos =>
      have hs0 : ¬ x2.toList = [] := bare_ne (by rw [← He0.out.2.2.1]) (T2.out (He0.out.2.2.2.trans he) (.inl ha0))
      have hs1 : x2.toList.isEmpty = false := by rw [List.isEmpty_eq_false_iff]; exact hs0
      have hs2 : (!x2.toList.isEmpty) = true := by rw [hs1]; rfl
      have hs3 : (x2.toList == []) = false := bare_beq hs0
      have cee0 : ((e0 : Int) == 0) = true := by rw [beq_iff_eq]; omega
      have cne0 : ((e0 : Int) != 0) = false := by rw [bne_eq_false_iff_eq]; omega
      clear T1 T2 T3 He0 He1 HB1 HB2 hb1 hb2 hb1s hb2s he ha0
      go_wp2
      all_goals go_ret
      all_goals exact ⟨rfl, F.out.1⟩
    have cee0 : ((e0 : Int) == 0) = false := by rw [beq_eq_false_iff_ne]; omega
    have cne0 : ((e0 : Int) != 0) = true := by rw [bne_iff_ne]; omega
    clear T1 T2 T3 He0 He1 HB1 HB2 hb1 hb2 hb1s hb2s he ha0
    go_wp2
    all_goals go_ret
    all_goals exact ⟨rfl, F.out.1⟩
  | true =>
    have ha0 : (valV a 4).e = 0 := of_decide_eq_true hb1
    cases t2 with
    | false =>
      have hb0 : (valV b 4).e ≠ 0 := of_decide_eq_false hb2
      by_cases he : e0 = 0
      case pos =>
        have hs0 : ¬ x2.toList = [] := bare_ne (by rw [← He0.out.2.2.1]) (T2.out (He0.out.2.2.2.trans he) (.inr hb0))
        have hs1 : x2.toList.isEmpty = false := by rw [List.isEmpty_eq_false_iff]; exact hs0
        have hs2 : (!x2.toList.isEmpty) = true := by rw [hs1]; rfl
        have hs3 : (x2.toList == []) = false := bare_beq hs0
        have cee0 : ((e0 : Int) == 0) = true := by rw [beq_iff_eq]; omega
        have cne0 : ((e0 : Int) != 0) = false := by rw [bne_eq_false_iff_eq]; omega
        clear T1 T2 He0 He1 HB1 HB2 hb1 hb2 hb1s hb2s he hb0
        go_wp2_with fail
        refine (num_leaf _ _).mono ?_
        rintro e wa ⟨rfl, Ha⟩
        have F := Lib.hid (F.out.leaf Ha.out hZ)
        clear Ha
        go_wp2_with fail
        refine (ov_any (N := a) (M := [leafN n]) (o := 10) F.out (by simp) (by simp) hM.out pa pn (by decide)).mono ?_
        rintro e wb ⟨gb, cgb, rfl, F⟩
        go_wp2_with fail
        refine (un_any (N := M) (o := 11) F.out (by simp) hML.out pM (by decide)).mono ?_
        rintro e wc ⟨gc, cgc, rfl, F⟩
        have FK := Lib.hid (hK.then_ F.out.1)
        go_wp2_with fail
        refine (uintK_any FK.out.k).mono ?_
        rintro e w' ⟨rfl, rfl⟩
        clear FK
        obtain ⟨r0, r1, r2, ra, e3, cv, He3⟩ := vv_any (A := some ⟨gc, 0, none⟩) (N := ML) (c := cgc) (k := 1) hK F.out (by simp) pML.2.2
        go_wp2_with fail
        refine cv.mono ?_
        rintro e wd ⟨rfl, Gwd⟩
        have F := Lib.hid (F.out.keep Gwd.out)
        clear cv
        have F := Lib.hid (F.out.more (.cells #[.int .i64 r0, .int .u64 (r1 : Nat), .string r2] 39))
        go_wp2_with fail
        refine (unb_any (N := a) (o := 11) F.out (by simp) hAL.out pa (by decide)).mono ?_
        rintro e we ⟨ge, cge, rfl, Fe⟩
        have Ge := Lib.hid Fe.out.2
        have F := Lib.hid Fe.out.1
        clear Fe
        go_wp2_with fail
        refine (num_leaf _ _).mono ?_
        rintro e wf ⟨rfl, Hf⟩
        have F := Lib.hid (F.out.leaf Hf.out hZ)
        have Gf := Lib.hid (Hf.out.trans (((Below.refl _ wf).alloc (Nat.le_refl _) (.cells #[.int .i64 1, .int .i64 0, .int .u64 Z, .string ⟨#[]⟩, .int .i64 0] 37)).mono Hf.out.size))
        clear Hf
        go_wp2_with fail
        refine (ovb_any (N := AL) (M := [leafN n]) (o := 8) F.out (by simp) (by simp) hV.out pAL pn (by decide)).mono ?_
        rintro e wg ⟨gg, cgg, rfl, Fg⟩
        have Gg := Lib.hid Fg.out.2
        have F := Lib.hid Fg.out.1
        clear Fg
        have FK := Lib.hid (hK.then_ F.out.1)
        go_wp2_with fail
        refine (uintK_any FK.out.k).mono ?_
        rintro e w' ⟨rfl, rfl⟩
        clear FK
        obtain ⟨q0, q1, q2, qa, e4, cv, He4⟩ := vv_any (A := some ⟨gg, 0, none⟩) (N := V) (c := cgg) (k := 1) hK F.out (by simp) pV.2.2
        go_wp2_with fail
        refine cv.mono ?_
        rintro e wh ⟨rfl, Gwh⟩
        have F := Lib.hid (F.out.keep Gwh.out)
        clear cv
        have n9 := ((((((CB.new wd 39 #[.int .i64 r0, .int .u64 (r1 : Nat), .string r2]).below Ge.out).below Gf.out).below Gg.out).below Gwh.out)).below ((Below.refl _ wh).alloc (Nat.le_refl _) (.cells #[.int .i64 q0, .int .u64 (q1 : Nat), .string q2] 39))
        have m9 := CB.new wh 39 #[.int .i64 q0, .int .u64 (q1 : Nat), .string q2]
        have lx0 := n9.at_ 0
        have ly0 := m9.at_ 0
        have lx1 := n9.at_ 1
        have ly1 := m9.at_ 1
        have lx2 := n9.at_ 2
        have ly2 := m9.at_ 2
        simp only [List.getElem?_toArray, List.getElem?_cons_zero, List.getElem?_cons_succ] at lx0 ly0 lx1 ly1 lx2 ly2
        have hsd : wd.heap.size < (wd.alloc (.cells #[.int .i64 r0, .int .u64 (r1 : Nat), .string r2] 39)).heap.size := by simp
        have hnd : wd.heap.size ≠ wh.heap.size := by
          have := Ge.out.size
          have := Gf.out.size
          have := Gg.out.size
          have := Gwh.out.size
          omega
        have F := Lib.hid (F.out.more (.cells #[.int .i64 q0, .int .u64 (q1 : Nat), .string q2] 39))
        clear n9 m9 hsd Ge Gf Gg Gwh
        have FB := Lib.hid F.out.1
        have T := T3.out ha0
        rw [He3.out.1, He3.out.2.1, He3.out.2.2.2, He4.out.1, He4.out.2.1, He4.out.2.2.2] at T
        have hst := He3.out.2.2.1
        have hst' := He4.out.2.2.1
        by_cases h3 : e3 = 0
        case pos =>
          obtain ⟨h4, h5, h6, h7, h8⟩ := T.1 h3
          rw [h7, hst'] at hst
          subst h5 h6 hst
          have hle : (r1 : Int) ≤ 4096 := by omega
          have cee3 : ((e3 : Int) == 0) = true := by rw [beq_iff_eq]; omega
          have cne3 : ((e3 : Int) != 0) = false := by rw [bne_eq_false_iff_eq]; omega
          have cee4 : ((e4 : Int) == 0) = true := by rw [beq_iff_eq]; omega
          have cne4 : ((e4 : Int) != 0) = false := by rw [bne_eq_false_iff_eq]; omega
          clear T He3 He4 hst' h3 h4 h7 h8 T1 T2 T3
          go_wp2
          all_goals go_ret
          all_goals exact ⟨rfl, FB.out⟩
        by_cases h4 : e4 = 0
        case pos =>
          have h8 := (T.2 h3).resolve_left (fun h => h h4)
          have hlt : (4096 : Int) < (q1 : Int) := by omega
          have cee3 : ((e3 : Int) == 0) = false := by rw [beq_eq_false_iff_ne]; omega
          have cne3 : ((e3 : Int) != 0) = true := by rw [bne_iff_ne]; omega
          have cee4 : ((e4 : Int) == 0) = true := by rw [beq_iff_eq]; omega
          have cne4 : ((e4 : Int) != 0) = false := by rw [bne_eq_false_iff_eq]; omega
          clear T He3 He4 hst hst' h3 h4 h8 T1 T2 T3
          go_wp2
          all_goals go_ret
          all_goals exact ⟨rfl, FB.out⟩
        have cee3 : ((e3 : Int) == 0) = false := by rw [beq_eq_false_iff_ne]; omega
        have cne3 : ((e3 : Int) != 0) = true := by rw [bne_iff_ne]; omega
        have cee4 : ((e4 : Int) == 0) = false := by rw [beq_eq_false_iff_ne]; omega
        have cne4 : ((e4 : Int) != 0) = true := by rw [bne_iff_ne]; omega
        clear T He3 He4 hst hst' h3 h4 T1 T2 T3
        go_wp2
        all_goals go_ret
        all_goals exact ⟨rfl, FB.out⟩
      have cee0 : ((e0 : Int) == 0) = false := by rw [beq_eq_false_iff_ne]; omega
      have cne0 : ((e0 : Int) != 0) = true := by rw [bne_iff_ne]; omega
      clear T1 T2 He0 He1 HB1 HB2 hb1 hb2 hb1s hb2s he hb0
      go_wp2_with fail
      refine (num_leaf _ _).mono ?_
      rintro e wa ⟨rfl, Ha⟩
      have F := Lib.hid (F.out.leaf Ha.out hZ)
      clear Ha
      go_wp2_with fail
      refine (ov_any (N := a) (M := [leafN n]) (o := 10) F.out (by simp) (by simp) hM.out pa pn (by decide)).mono ?_
      rintro e wb ⟨gb, cgb, rfl, F⟩
      go_wp2_with fail
      refine (un_any (N := M) (o := 11) F.out (by simp) hML.out pM (by decide)).mono ?_
      rintro e wc ⟨gc, cgc, rfl, F⟩
      have FK := Lib.hid (hK.then_ F.out.1)
      go_wp2_with fail
      refine (uintK_any FK.out.k).mono ?_
      rintro e w' ⟨rfl, rfl⟩
      clear FK
      obtain ⟨r0, r1, r2, ra, e3, cv, He3⟩ := vv_any (A := some ⟨gc, 0, none⟩) (N := ML) (c := cgc) (k := 1) hK F.out (by simp) pML.2.2
      go_wp2_with fail
      refine cv.mono ?_
      rintro e wd ⟨rfl, Gwd⟩
      have F := Lib.hid (F.out.keep Gwd.out)
      clear cv
      have F := Lib.hid (F.out.more (.cells #[.int .i64 r0, .int .u64 (r1 : Nat), .string r2] 39))
      go_wp2_with fail
      refine (unb_any (N := a) (o := 11) F.out (by simp) hAL.out pa (by decide)).mono ?_
      rintro e we ⟨ge, cge, rfl, Fe⟩
      have Ge := Lib.hid Fe.out.2
      have F := Lib.hid Fe.out.1
      clear Fe
      go_wp2_with fail
      refine (num_leaf _ _).mono ?_
      rintro e wf ⟨rfl, Hf⟩
      have F := Lib.hid (F.out.leaf Hf.out hZ)
      have Gf := Lib.hid (Hf.out.trans (((Below.refl _ wf).alloc (Nat.le_refl _) (.cells #[.int .i64 1, .int .i64 0, .int .u64 Z, .string ⟨#[]⟩, .int .i64 0] 37)).mono Hf.out.size))
      clear Hf
      go_wp2_with fail
      refine (ovb_any (N := AL) (M := [leafN n]) (o := 8) F.out (by simp) (by simp) hV.out pAL pn (by decide)).mono ?_
      rintro e wg ⟨gg, cgg, rfl, Fg⟩
      have Gg := Lib.hid Fg.out.2
      have F := Lib.hid Fg.out.1
      clear Fg
      have FK := Lib.hid (hK.then_ F.out.1)
      go_wp2_with fail
      refine (uintK_any FK.out.k).mono ?_
      rintro e w' ⟨rfl, rfl⟩
      clear FK
      obtain ⟨q0, q1, q2, qa, e4, cv, He4⟩ := vv_any (A := some ⟨gg, 0, none⟩) (N := V) (c := cgg) (k := 1) hK F.out (by simp) pV.2.2
      go_wp2_with fail
      refine cv.mono ?_
      rintro e wh ⟨rfl, Gwh⟩
      have F := Lib.hid (F.out.keep Gwh.out)
      clear cv
      have n9 := ((((((CB.new wd 39 #[.int .i64 r0, .int .u64 (r1 : Nat), .string r2]).below Ge.out).below Gf.out).below Gg.out).below Gwh.out)).below ((Below.refl _ wh).alloc (Nat.le_refl _) (.cells #[.int .i64 q0, .int .u64 (q1 : Nat), .string q2] 39))
      have m9 := CB.new wh 39 #[.int .i64 q0, .int .u64 (q1 : Nat), .string q2]
      have lx0 := n9.at_ 0
      have ly0 := m9.at_ 0
      have lx1 := n9.at_ 1
      have ly1 := m9.at_ 1
      have lx2 := n9.at_ 2
      have ly2 := m9.at_ 2
      simp only [List.getElem?_toArray, List.getElem?_cons_zero, List.getElem?_cons_succ] at lx0 ly0 lx1 ly1 lx2 ly2
      have hsd : wd.heap.size < (wd.alloc (.cells #[.int .i64 r0, .int .u64 (r1 : Nat), .string r2] 39)).heap.size := by simp
      have hnd : wd.heap.size ≠ wh.heap.size := by
        have := Ge.out.size
        have := Gf.out.size
        have := Gg.out.size
        have := Gwh.out.size
        omega
      have F := Lib.hid (F.out.more (.cells #[.int .i64 q0, .int .u64 (q1 : Nat), .string q2] 39))
      clear n9 m9 hsd Ge Gf Gg Gwh
      have FB := Lib.hid F.out.1
      have T := T3.out ha0
      rw [He3.out.1, He3.out.2.1, He3.out.2.2.2, He4.out.1, He4.out.2.1, He4.out.2.2.2] at T
      have hst := He3.out.2.2.1
      have hst' := He4.out.2.2.1
      by_cases h3 : e3 = 0
      case pos =>
        obtain ⟨h4, h5, h6, h7, h8⟩ := T.1 h3
        rw [h7, hst'] at hst
        subst h5 h6 hst
        have hle : (r1 : Int) ≤ 4096 := by omega
        have cee3 : ((e3 : Int) == 0) = true := by rw [beq_iff_eq]; omega
        have cne3 : ((e3 : Int) != 0) = false := by rw [bne_eq_false_iff_eq]; omega
        have cee4 : ((e4 : Int) == 0) = true := by rw [beq_iff_eq]; omega
        have cne4 : ((e4 : Int) != 0) = false := by rw [bne_eq_false_iff_eq]; omega
        clear T He3 He4 hst' h3 h4 h7 h8 T1 T2 T3
        go_wp2
        all_goals go_ret
        all_goals exact ⟨rfl, FB.out⟩
      by_cases h4 : e4 = 0
      case pos =>
        have h8 := (T.2 h3).resolve_left (fun h => h h4)
        have hlt : (4096 : Int) < (q1 : Int) := by omega
        have cee3 : ((e3 : Int) == 0) = false := by rw [beq_eq_false_iff_ne]; omega
        have cne3 : ((e3 : Int) != 0) = true := by rw [bne_iff_ne]; omega
        have cee4 : ((e4 : Int) == 0) = true := by rw [beq_iff_eq]; omega
        have cne4 : ((e4 : Int) != 0) = false := by rw [bne_eq_false_iff_eq]; omega
        clear T He3 He4 hst hst' h3 h4 h8 T1 T2 T3
        go_wp2
        all_goals go_ret
        all_goals exact ⟨rfl, FB.out⟩
      have cee3 : ((e3 : Int) == 0) = false := by rw [beq_eq_false_iff_ne]; omega
      have cne3 : ((e3 : Int) != 0) = true := by rw [bne_iff_ne]; omega
      have cee4 : ((e4 : Int) == 0) = false := by rw [beq_eq_false_iff_ne]; omega
      have cne4 : ((e4 : Int) != 0) = true := by rw [bne_iff_ne]; omega
      clear T He3 He4 hst hst' h3 h4 T1 T2 T3
      go_wp2
      all_goals go_ret
      all_goals exact ⟨rfl, FB.out⟩
    | true =>
      have hb0 : (valV b 4).e = 0 := of_decide_eq_true hb2
      obtain ⟨⟨h1, h2, h3, h4⟩, h5⟩ := T1.out ha0 hb0
      rw [He0.out.2.2.2] at h4 h5
      rw [He0.out.1, He1.out.1] at h1
      rw [He0.out.2.1, He1.out.2.1] at h2
      rw [He1.out.2.2.2] at h4
      have h3 := congrArg str h3
      rw [He0.out.2.2.1, He1.out.2.2.1] at h3
      subst h1 h2 h3 h4
      by_cases he : e0 = 0
      case pos =>
        obtain ⟨h6, h7⟩ := h5 he
        have h6 := congrArg str h6
        rw [He0.out.2.2.1, str_plus, hb1s, hb2s] at h6
        have hsz : s1.size + s2.size ≤ 4096 := by
          rw [← hb1s, ← hb2s, str_size, str_size, ← List.length_append]
          exact h7
        subst h6
        have hsz2 : ¬ 9223372036854775807 < s1.size + s2.size := by omega
        have cee0 : ((e0 : Int) == 0) = true := by rw [beq_iff_eq]; omega
        have cne0 : ((e0 : Int) != 0) = false := by rw [bne_eq_false_iff_eq]; omega
        clear T1 T2 He0 He1 HB1 HB2 hb1 hb2 hb1s hb2s he hb0 h5 h7 hsz
        go_wp2_with fail
        refine (num_leaf _ _).mono ?_
        rintro e wa ⟨rfl, Ha⟩
        have F := Lib.hid (F.out.leaf Ha.out hZ)
        clear Ha
        go_wp2_with fail
        refine (ov_any (N := a) (M := [leafN n]) (o := 10) F.out (by simp) (by simp) hM.out pa pn (by decide)).mono ?_
        rintro e wb ⟨gb, cgb, rfl, F⟩
        go_wp2_with fail
        refine (un_any (N := M) (o := 11) F.out (by simp) hML.out pM (by decide)).mono ?_
        rintro e wc ⟨gc, cgc, rfl, F⟩
        have FK := Lib.hid (hK.then_ F.out.1)
        go_wp2_with fail
        refine (uintK_any FK.out.k).mono ?_
        rintro e w' ⟨rfl, rfl⟩
        clear FK
        obtain ⟨r0, r1, r2, ra, e3, cv, He3⟩ := vv_any (A := some ⟨gc, 0, none⟩) (N := ML) (c := cgc) (k := 1) hK F.out (by simp) pML.2.2
        go_wp2_with fail
        refine cv.mono ?_
        rintro e wd ⟨rfl, Gwd⟩
        have F := Lib.hid (F.out.keep Gwd.out)
        clear cv
        have F := Lib.hid (F.out.more (.cells #[.int .i64 r0, .int .u64 (r1 : Nat), .string r2] 39))
        go_wp2_with fail
        refine (unb_any (N := a) (o := 11) F.out (by simp) hAL.out pa (by decide)).mono ?_
        rintro e we ⟨ge, cge, rfl, Fe⟩
        have Ge := Lib.hid Fe.out.2
        have F := Lib.hid Fe.out.1
        clear Fe
        go_wp2_with fail
        refine (num_leaf _ _).mono ?_
        rintro e wf ⟨rfl, Hf⟩
        have F := Lib.hid (F.out.leaf Hf.out hZ)
        have Gf := Lib.hid (Hf.out.trans (((Below.refl _ wf).alloc (Nat.le_refl _) (.cells #[.int .i64 1, .int .i64 0, .int .u64 Z, .string ⟨#[]⟩, .int .i64 0] 37)).mono Hf.out.size))
        clear Hf
        go_wp2_with fail
        refine (ovb_any (N := AL) (M := [leafN n]) (o := 8) F.out (by simp) (by simp) hV.out pAL pn (by decide)).mono ?_
        rintro e wg ⟨gg, cgg, rfl, Fg⟩
        have Gg := Lib.hid Fg.out.2
        have F := Lib.hid Fg.out.1
        clear Fg
        have FK := Lib.hid (hK.then_ F.out.1)
        go_wp2_with fail
        refine (uintK_any FK.out.k).mono ?_
        rintro e w' ⟨rfl, rfl⟩
        clear FK
        obtain ⟨q0, q1, q2, qa, e4, cv, He4⟩ := vv_any (A := some ⟨gg, 0, none⟩) (N := V) (c := cgg) (k := 1) hK F.out (by simp) pV.2.2
        go_wp2_with fail
        refine cv.mono ?_
        rintro e wh ⟨rfl, Gwh⟩
        have F := Lib.hid (F.out.keep Gwh.out)
        clear cv
        have n9 := ((((((CB.new wd 39 #[.int .i64 r0, .int .u64 (r1 : Nat), .string r2]).below Ge.out).below Gf.out).below Gg.out).below Gwh.out)).below ((Below.refl _ wh).alloc (Nat.le_refl _) (.cells #[.int .i64 q0, .int .u64 (q1 : Nat), .string q2] 39))
        have m9 := CB.new wh 39 #[.int .i64 q0, .int .u64 (q1 : Nat), .string q2]
        have lx0 := n9.at_ 0
        have ly0 := m9.at_ 0
        have lx1 := n9.at_ 1
        have ly1 := m9.at_ 1
        have lx2 := n9.at_ 2
        have ly2 := m9.at_ 2
        simp only [List.getElem?_toArray, List.getElem?_cons_zero, List.getElem?_cons_succ] at lx0 ly0 lx1 ly1 lx2 ly2
        have hsd : wd.heap.size < (wd.alloc (.cells #[.int .i64 r0, .int .u64 (r1 : Nat), .string r2] 39)).heap.size := by simp
        have hnd : wd.heap.size ≠ wh.heap.size := by
          have := Ge.out.size
          have := Gf.out.size
          have := Gg.out.size
          have := Gwh.out.size
          omega
        have F := Lib.hid (F.out.more (.cells #[.int .i64 q0, .int .u64 (q1 : Nat), .string q2] 39))
        clear n9 m9 hsd Ge Gf Gg Gwh
        have FB := Lib.hid F.out.1
        have T := T3.out ha0
        rw [He3.out.1, He3.out.2.1, He3.out.2.2.2, He4.out.1, He4.out.2.1, He4.out.2.2.2] at T
        have hst := He3.out.2.2.1
        have hst' := He4.out.2.2.1
        by_cases h3 : e3 = 0
        case pos =>
          obtain ⟨h4, h5, h6, h7, h8⟩ := T.1 h3
          rw [h7, hst'] at hst
          subst h5 h6 hst
          have hle : (r1 : Int) ≤ 4096 := by omega
          have cee3 : ((e3 : Int) == 0) = true := by rw [beq_iff_eq]; omega
          have cne3 : ((e3 : Int) != 0) = false := by rw [bne_eq_false_iff_eq]; omega
          have cee4 : ((e4 : Int) == 0) = true := by rw [beq_iff_eq]; omega
          have cne4 : ((e4 : Int) != 0) = false := by rw [bne_eq_false_iff_eq]; omega
          clear T He3 He4 hst' h3 h4 h7 h8 T1 T2 T3
          go_wp2
          all_goals go_ret
          all_goals exact ⟨rfl, FB.out⟩
        by_cases h4 : e4 = 0
        case pos =>
          have h8 := (T.2 h3).resolve_left (fun h => h h4)
          have hlt : (4096 : Int) < (q1 : Int) := by omega
          have cee3 : ((e3 : Int) == 0) = false := by rw [beq_eq_false_iff_ne]; omega
          have cne3 : ((e3 : Int) != 0) = true := by rw [bne_iff_ne]; omega
          have cee4 : ((e4 : Int) == 0) = true := by rw [beq_iff_eq]; omega
          have cne4 : ((e4 : Int) != 0) = false := by rw [bne_eq_false_iff_eq]; omega
          clear T He3 He4 hst hst' h3 h4 h8 T1 T2 T3
          go_wp2
          all_goals go_ret
          all_goals exact ⟨rfl, FB.out⟩
        have cee3 : ((e3 : Int) == 0) = false := by rw [beq_eq_false_iff_ne]; omega
        have cne3 : ((e3 : Int) != 0) = true := by rw [bne_iff_ne]; omega
        have cee4 : ((e4 : Int) == 0) = false := by rw [beq_eq_false_iff_ne]; omega
        have cne4 : ((e4 : Int) != 0) = true := by rw [bne_iff_ne]; omega
        clear T He3 He4 hst hst' h3 h4 T1 T2 T3
        go_wp2
        all_goals go_ret
        all_goals exact ⟨rfl, FB.out⟩
      have cee0 : ((e0 : Int) == 0) = false := by rw [beq_eq_false_iff_ne]; omega
      have cne0 : ((e0 : Int) != 0) = true := by rw [bne_iff_ne]; omega
      clear T1 T2 He0 He1 HB1 HB2 hb1 hb2 hb1s hb2s he hb0 h5
      go_wp2_with fail
      refine (num_leaf _ _).mono ?_
      rintro e wa ⟨rfl, Ha⟩
      have F := Lib.hid (F.out.leaf Ha.out hZ)
      clear Ha
      go_wp2_with fail
      refine (ov_any (N := a) (M := [leafN n]) (o := 10) F.out (by simp) (by simp) hM.out pa pn (by decide)).mono ?_
      rintro e wb ⟨gb, cgb, rfl, F⟩
      go_wp2_with fail
      refine (un_any (N := M) (o := 11) F.out (by simp) hML.out pM (by decide)).mono ?_
      rintro e wc ⟨gc, cgc, rfl, F⟩
      have FK := Lib.hid (hK.then_ F.out.1)
      go_wp2_with fail
      refine (uintK_any FK.out.k).mono ?_
      rintro e w' ⟨rfl, rfl⟩
      clear FK
      obtain ⟨r0, r1, r2, ra, e3, cv, He3⟩ := vv_any (A := some ⟨gc, 0, none⟩) (N := ML) (c := cgc) (k := 1) hK F.out (by simp) pML.2.2
      go_wp2_with fail
      refine cv.mono ?_
      rintro e wd ⟨rfl, Gwd⟩
      have F := Lib.hid (F.out.keep Gwd.out)
      clear cv
      have F := Lib.hid (F.out.more (.cells #[.int .i64 r0, .int .u64 (r1 : Nat), .string r2] 39))
      go_wp2_with fail
      refine (unb_any (N := a) (o := 11) F.out (by simp) hAL.out pa (by decide)).mono ?_
      rintro e we ⟨ge, cge, rfl, Fe⟩
      have Ge := Lib.hid Fe.out.2
      have F := Lib.hid Fe.out.1
      clear Fe
      go_wp2_with fail
      refine (num_leaf _ _).mono ?_
      rintro e wf ⟨rfl, Hf⟩
      have F := Lib.hid (F.out.leaf Hf.out hZ)
      have Gf := Lib.hid (Hf.out.trans (((Below.refl _ wf).alloc (Nat.le_refl _) (.cells #[.int .i64 1, .int .i64 0, .int .u64 Z, .string ⟨#[]⟩, .int .i64 0] 37)).mono Hf.out.size))
      clear Hf
      go_wp2_with fail
      refine (ovb_any (N := AL) (M := [leafN n]) (o := 8) F.out (by simp) (by simp) hV.out pAL pn (by decide)).mono ?_
      rintro e wg ⟨gg, cgg, rfl, Fg⟩
      have Gg := Lib.hid Fg.out.2
      have F := Lib.hid Fg.out.1
      clear Fg
      have FK := Lib.hid (hK.then_ F.out.1)
      go_wp2_with fail
      refine (uintK_any FK.out.k).mono ?_
      rintro e w' ⟨rfl, rfl⟩
      clear FK
      obtain ⟨q0, q1, q2, qa, e4, cv, He4⟩ := vv_any (A := some ⟨gg, 0, none⟩) (N := V) (c := cgg) (k := 1) hK F.out (by simp) pV.2.2
      go_wp2_with fail
      refine cv.mono ?_
      rintro e wh ⟨rfl, Gwh⟩
      have F := Lib.hid (F.out.keep Gwh.out)
      clear cv
      have n9 := ((((((CB.new wd 39 #[.int .i64 r0, .int .u64 (r1 : Nat), .string r2]).below Ge.out).below Gf.out).below Gg.out).below Gwh.out)).below ((Below.refl _ wh).alloc (Nat.le_refl _) (.cells #[.int .i64 q0, .int .u64 (q1 : Nat), .string q2] 39))
      have m9 := CB.new wh 39 #[.int .i64 q0, .int .u64 (q1 : Nat), .string q2]
      have lx0 := n9.at_ 0
      have ly0 := m9.at_ 0
      have lx1 := n9.at_ 1
      have ly1 := m9.at_ 1
      have lx2 := n9.at_ 2
      have ly2 := m9.at_ 2
      simp only [List.getElem?_toArray, List.getElem?_cons_zero, List.getElem?_cons_succ] at lx0 ly0 lx1 ly1 lx2 ly2
      have hsd : wd.heap.size < (wd.alloc (.cells #[.int .i64 r0, .int .u64 (r1 : Nat), .string r2] 39)).heap.size := by simp
      have hnd : wd.heap.size ≠ wh.heap.size := by
        have := Ge.out.size
        have := Gf.out.size
        have := Gg.out.size
        have := Gwh.out.size
        omega
      have F := Lib.hid (F.out.more (.cells #[.int .i64 q0, .int .u64 (q1 : Nat), .string q2] 39))
      clear n9 m9 hsd Ge Gf Gg Gwh
      have FB := Lib.hid F.out.1
      have T := T3.out ha0
      rw [He3.out.1, He3.out.2.1, He3.out.2.2.2, He4.out.1, He4.out.2.1, He4.out.2.2.2] at T
      have hst := He3.out.2.2.1
      have hst' := He4.out.2.2.1
      by_cases h3 : e3 = 0
      case pos =>
        obtain ⟨h4, h5, h6, h7, h8⟩ := T.1 h3
        rw [h7, hst'] at hst
        subst h5 h6 hst
        have hle : (r1 : Int) ≤ 4096 := by omega
        have cee3 : ((e3 : Int) == 0) = true := by rw [beq_iff_eq]; omega
        have cne3 : ((e3 : Int) != 0) = false := by rw [bne_eq_false_iff_eq]; omega
        have cee4 : ((e4 : Int) == 0) = true := by rw [beq_iff_eq]; omega
        have cne4 : ((e4 : Int) != 0) = false := by rw [bne_eq_false_iff_eq]; omega
        clear T He3 He4 hst' h3 h4 h7 h8 T1 T2 T3
        go_wp2
        all_goals go_ret
        all_goals exact ⟨rfl, FB.out⟩
      by_cases h4 : e4 = 0
      case pos =>
        have h8 := (T.2 h3).resolve_left (fun h => h h4)
        have hlt : (4096 : Int) < (q1 : Int) := by omega
        have cee3 : ((e3 : Int) == 0) = false := by rw [beq_eq_false_iff_ne]; omega
        have cne3 : ((e3 : Int) != 0) = true := by rw [bne_iff_ne]; omega
        have cee4 : ((e4 : Int) == 0) = true := by rw [beq_iff_eq]; omega
        have cne4 : ((e4 : Int) != 0) = false := by rw [bne_eq_false_iff_eq]; omega
        clear T He3 He4 hst hst' h3 h4 h8 T1 T2 T3
        go_wp2
        all_goals go_ret
        all_goals exact ⟨rfl, FB.out⟩
      have cee3 : ((e3 : Int) == 0) = false := by rw [beq_eq_false_iff_ne]; omega
      have cne3 : ((e3 : Int) != 0) = true := by rw [bne_iff_ne]; omega
      have cee4 : ((e4 : Int) == 0) = false := by rw [beq_eq_false_iff_ne]; omega
      have cne4 : ((e4 : Int) != 0) = true := by rw [bne_iff_ne]; omega
      clear T He3 He4 hst hst' h3 h4 T1 T2 T3
      go_wp2
      all_goals go_ret
      all_goals exact ⟨rfl, FB.out⟩
set_option maxRecDepth 100000 in
set_option maxHeartbeats 8000000 in
theorem texts_any {w : World} {A B : Option Addr} {ca cb : Nat} {a b : List Rn} (hK : KSt w w) (hA : RN w w.heap.size A a) (hB : RN w w.heap.size B b) (fa : Few a) (fb : Few b) (Z : Int) (hZ : 0 ≤ Z ∧ Z ≤ 18446744073709551615) :
    Calls Tryd.prog 6 #[.slice A a.length ca, .slice B b.length cb, .int .u64 Z] w fun e w' => e = .returned (.bool true) ∧ Below w.heap.size w w' := by
  by_cases ga : a.length ≤ 65536 ∧ (chkP a).2 = 0
  case neg =>
    have OA := Lib.hid (fun W (hb : Below w.heap.size w W) => isone_any (c := ca) ((hA.below hb).more hb.size) fa)
    rw [decide_eq_false ga] at OA
    have CL := Lib.hid (lives_any hK)
    clear hK hA hB fa fb
    go_enter Tryd.func6, Tryd.ntmps6
    go_wp2_with fail
    refine CL.out.mono ?_
    rintro e w1 ⟨rfl, H1⟩
    go_wp2_with fail
    refine (OA.out _ H1).mono ?_
    rintro e w2 ⟨rfl, H2⟩
    have H1 := H1.trans (H2.mono H1.size)
    clear H2 OA
    go_wp2_with fail
    go_ret
    exact ⟨rfl, H1⟩
  by_cases gb : b.length ≤ 65536 ∧ (chkP b).2 = 0
  case neg =>
    have OA := Lib.hid (fun W (hb : Below w.heap.size w W) => isone_any (c := ca) ((hA.below hb).more hb.size) fa)
    rw [decide_eq_true ga] at OA
    have OB := Lib.hid (fun W (hb : Below w.heap.size w W) => isone_any (c := cb) ((hB.below hb).more hb.size) fb)
    rw [decide_eq_false gb] at OB
    have CL := Lib.hid (lives_any hK)
    clear hK hA hB fa fb
    go_enter Tryd.func6, Tryd.ntmps6
    go_wp2_with fail
    refine CL.out.mono ?_
    rintro e w1 ⟨rfl, H1⟩
    go_wp2_with fail
    refine (OA.out _ H1).mono ?_
    rintro e w2 ⟨rfl, H2⟩
    have H1 := H1.trans (H2.mono H1.size)
    clear H2 OA
    go_wp2_with fail
    refine (OB.out _ H1).mono ?_
    rintro e w2 ⟨rfl, H2⟩
    have H1 := H1.trans (H2.mono H1.size)
    clear H2 OB
    go_wp2_with fail
    go_ret
    exact ⟨rfl, H1⟩
  have qz : Hid (Z = (Z.toNat : Int)) := by show Z = _; omega
  exact texts_good hK qz (by omega) hA hB fa fb ga gb
end Go.Proofs.YtpgljmkemmikhaaDoor
