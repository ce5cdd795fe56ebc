/- The walk of ParseBlanks. -/
import Derived.Test.YtbngelinfpaefaaDoorParSpc
import Derived.Test.YtbngelinfpaefaaDoorParFaultsLaw
import Derived.Test.YtbngelinfpaefaaDoorParBracketsLaw
namespace Go.Proofs.YtbngelinfpaefaaDoor
open Go.RowKit

theorem any_place {a b : Nat} : More 0 false a b := by
  unfold More
  rw [if_neg (by decide)]
  trivial
theorem blk_size {s : ByteArray} {P : List UInt8} {T : List Tk} (hL : lexL (ls s) 0 = .ok T) (hs : s.size ≤ 131072) : (str (spL (ls s) (zL P 0 T))).size ≤ 800000 ∧ T.length ≤ 131073 := by
  have h1 := lex_len _ _ _ (Nat.le_refl _) hL
  have h2 := lex_sum _ _ _ (Nat.le_refl _) hL
  have h3 := spL_len (ls s) P 0 T
  rw [ls_size] at h1 h2
  rw [← ls_size, ls_str]
  omega
/-- where a place is, there stands a token, and its place is the other -/
theorem plr_at {P : List UInt8} {T : List Tk} {a a' : Nat} (h : PlR (zL P 0 T) a a') : ∃ (j : Nat) (x : Tk), T[j]? = some x ∧ (plL 0 (zL P 0 T))[j]? = some a' ∧ x.a = a := by
  obtain ⟨i, x, y, h1, h2, h3, h4⟩ := h
  rw [zL_fst] at h1
  refine ⟨i, x, h1, ?_, h3⟩
  unfold plL
  rw [List.getElem?_map, h2, ← h4]
  rfl

set_option maxRecDepth 100000 in
set_option maxHeartbeats 8000000 in
theorem blanks_any (w : World) (hEV : EV w) (s : ByteArray) {PA : Option Addr} (pc : Nat) {P : List UInt8} (hP : Byt w w.heap.size PA P) (hPl : P.length ≤ 140737488355328) : Calls Tryd.prog 3 #[.string s, .slice PA P.length pc] w fun e w' => e = .returned (.bool true) ∧ Below w.heap.size w w' := by
  have ca := cawake_any w hEV
  by_cases hbig : 131072 < s.size
  · have hz : (131072 : Int) < (s.size : Int) := by omega
    go_enter Tryd.func3, Tryd.ntmps3
    go_wp2_with (go_at_call 13; refine ca.mono ?_; rintro e w1 ⟨rfl, hb1⟩)
    go_ret
    exact ⟨rfl, hb1⟩
  have hz : ¬ (131072 : Int) < (s.size : Int) := by omega
  have hs9 : s.size ≤ 131072 := by omega
  cases hlx : lexS s with
  | bad a x =>
    have hs1 : schS s = .bad a x := by unfold schS; rw [hlx]
    have hv1 : valS s = .bad a x := by unfold valS; rw [hlx]
    have hx0 : x ≠ 0 := by
      unfold lexS at hlx
      split at hlx
      · cases hlx; decide
      · exact (lex_err _ _ _ (Nat.le_refl _) hlx).1
    have cl : ∀ W, EV W → Calls Tryd.prog 14 #[.string s] W fun e w' => e = .returned (.tuple #[.slice none 0 0, .int .i64 (a : Nat), .int .i64 (x : Nat)]) ∧ Below W.heap.size W w' := fun W h => (lex_any W s h).mono fun e w' h => by
      rw [hlx] at h
      exact ⟨h.2, h.1⟩
    have cs : ∀ W, EV W → Calls Tryd.prog 15 #[.string s] W fun e w' => ∃ As cs, e = .returned (.tuple #[.agg #[.slice As 0 cs], .int .i64 (a : Nat), .int .i64 (x : Nat)]) ∧ Below W.heap.size W w' := fun W h => by
      have := csch_bad W s h (by rw [hs1]; rfl)
      rwa [hs1] at this
    have cv := fun W h => cval_let W s h [] a x (by rw [hv1]; rfl) (by rw [hv1]; rfl) (by rw [hv1]; rfl)
    have hxz : ((x : Int) != 0) = true := by simp; omega
    clear hs1 hv1 hx0 hlx hbig
    go_enter Tryd.func3, Tryd.ntmps3
    go_wp2_with (first
      | (go_at_call 13; refine ca.mono ?_; rintro e w1 ⟨rfl, hb1⟩; have e1 := hEV.below hb1)
      | (go_at_call 14; (with_reducible refine (cl _ e1).mono ?_); rintro e w2 ⟨rfl, hb2⟩; have e2 := e1.below hb2)
      | (go_at_call 15; (with_reducible refine (cs _ e2).mono ?_); rintro e w3 ⟨As, c3, rfl, hb3⟩; have e3 := (e2.below hb3).new (.cells #[.slice As 0 c3] 30); have f3 : Hid (Below w3.heap.size w3 (w3.alloc (.cells #[.slice As 0 c3] 30))) := (Below.refl _ w3).alloc (Nat.le_refl _) _)
      | (go_at_call 16; (with_reducible refine (cv _ e3).mono ?_); rintro e w4 ⟨Av, c4, rfl, hb4, _⟩; have e4 := e3.below hb4)
      | (go_at_call 14; (with_reducible refine (cl _ e4).mono ?_); rintro e w5 ⟨rfl, hb5⟩))
    go_ret
    exact ⟨rfl, Below.both (Below.both (Below.both (Below.both (Below.both hb1 hb2) hb3) f3.out) hb4) hb5⟩
  | ok T =>
    have hL : lexL (ls s) 0 = .ok T := by
      unfold lexS at hlx
      split at hlx
      · cases hlx
      · exact hlx
    obtain ⟨hRs, hTl⟩ := blk_size (P := P) hL hs9
    have hord : ∀ x ∈ T, x.a ≤ x.e ∧ x.e ≤ s.size := fun x hx => by have := lex_order _ _ _ (Nat.le_refl _) hL x hx; rwa [ls_size, Nat.zero_add] at this
    obtain ⟨s1, s2, s3⟩ := sch_spaced (s := s) (r := str (spL (ls s) (zL P 0 T))) (L := zL P 0 T) (by rw [zL_fst]; exact hL) (zL_gap P 0 T) (by omega) (ls_str _) (by omega)
    obtain ⟨v1, v2, v3⟩ := val_spaced (s := s) (r := str (spL (ls s) (zL P 0 T))) (L := zL P 0 T) (by rw [zL_fst]; exact hL) (zL_gap P 0 T) (by omega) (ls_str _) (by omega)
    have cl : ∀ W, EV W → Calls Tryd.prog 14 #[.string s] W fun e w' => ∃ A c, e = .returned (.tuple #[.slice A T.length c, .int .i64 0, .int .i64 0]) ∧ Below W.heap.size W w' ∧ Hid (TRow w' w'.heap.size A T) := fun W h => (lex_any W s h).mono fun e w' h => by
      rw [hlx] at h
      obtain ⟨hb, A, c, h, ht⟩ := h
      exact ⟨A, c, h, hb, ht⟩
    have CSP : Hid (∀ W A c, TRow W W.heap.size A T → Byt W W.heap.size PA P → Calls Tryd.prog 17 #[.string s, .slice A T.length c, .slice PA P.length pc] W fun e w' => ∃ A2 c2, e = .returned (.tuple #[.string (str (spL (ls s) (zL P 0 T))), .slice A2 (plL 0 (zL P 0 T)).length c2]) ∧ Below W.heap.size W w' ∧ Built IntLev w' W.heap.size A2 c2 (plL 0 (zL P 0 T))) := fun W A c h1 h2 => cspaced_any h1 h2 hord (by omega) hs9 hPl
    have hpl : (plL 0 (zL P 0 T)).length = T.length := by
      unfold plL
      rw [List.length_map, spT_len, ← List.length_map (f := fun y : Tk × List UInt8 => y.1), zL_fst]
    obtain ⟨R, hR⟩ : ∃ R, str (spL (ls s) (zL P 0 T)) = R := ⟨_, rfl⟩
    obtain ⟨pl, hplr⟩ : ∃ l, plL 0 (zL P 0 T) = l := ⟨_, rfl⟩
    rw [hR] at s1 s2 s3 v1 v2 v3
    have hplc : ∀ a a', PlR (zL P 0 T) a a' → ∃ (j : Nat) (x : Tk), T[j]? = some x ∧ pl[j]? = some a' ∧ x.a = a := fun a a' h => by rw [← hplr]; exact plr_at h
    simp only [hR, hplr] at CSP
    rw [hplr] at hpl
    have cs := fun W h => cschema_any W s h
    have cr := fun W h => cschema_any W R h
    obtain ⟨N, hN⟩ : ∃ N, (valS s).nds = N := ⟨_, rfl⟩
    obtain ⟨M, hM⟩ : ∃ N, (valS R).nds = N := ⟨_, rfl⟩
    obtain ⟨x, hx⟩ : ∃ N, (schS s).err = N := ⟨_, rfl⟩
    obtain ⟨p, hp⟩ : ∃ N, (schS s).plc = N := ⟨_, rfl⟩
    obtain ⟨p', hp'⟩ : ∃ N, (schS R).plc = N := ⟨_, rfl⟩
    obtain ⟨y, hy⟩ : ∃ N, (valS s).err = N := ⟨_, rfl⟩
    obtain ⟨q, hq⟩ : ∃ N, (valS s).plc = N := ⟨_, rfl⟩
    obtain ⟨q', hq'⟩ : ∃ N, (valS R).plc = N := ⟨_, rfl⟩
    have cv := fun W h => cval_let W s h N q y hN hq hy
    have cw := fun W h => cval_let W R h M q' y hM hq' (v1.trans hy)
    unfold SchAt at cs cr
    rw [hx, hp] at cs
    rw [s1, hx, hp'] at cr
    rw [hx, hp, hp'] at s3
    rw [hy, hq, hq'] at v3
    have bN : N.length ≤ 200000 := by have := val_few s; rw [hN] at this; omega
    have REV : Hid (Rel2 (EvR (More 0 false)) (schS s).evs (schS R).evs) := Rel2.comp (sch_self s) s2 fun _ _ _ => EvR.comp fun _ _ _ _ _ => any_place
    have RNV : Hid (Rel2 (Nr (More 0 false)) N M) := by
      rw [← hN, ← hM]
      exact Rel2.comp (val_self s) v2 fun _ _ _ => Nr.comp fun _ _ _ _ _ => any_place
    have S3 := Lib.hid s3
    have V3 := Lib.hid v3
    have HPC := Lib.hid hplc
    have HPL := Lib.hid hpl
    have HP := Lib.hid hP
    clear s1 s2 s3 v1 v2 v3 hplc hpl hplr hR hN hM hx hp hp' hy hq hq' hL hlx hord hbig hP hPl hRs
    have go1 : (x = 0 ∨ x ≠ 0) ∧ (y = 0 ∨ y ≠ 0) := by omega
    have tail : ∀ (bx by' : Bool), (x = 0 ↔ bx = true) → (y = 0 ↔ by' = true) → Calls Tryd.prog 3 #[.string s, .slice PA P.length pc] w fun e w' => e = .returned (.bool true) ∧ Below w.heap.size w w' := fun bx by' hbx hby => by
      have hxz : ((x : Int) == 0) = bx := by
        cases bx with
        | true => rw [hbx.2 rfl]; rfl
        | false => exact beq_eq_false_iff_ne.2 fun z => by have := hbx.1 (by omega); cases this
      have hyz : ((y : Int) == 0) = by' := by
        cases by' with
        | true => rw [hby.2 rfl]; rfl
        | false => exact beq_eq_false_iff_ne.2 fun z => by have := hby.1 (by omega); cases this
      have HBX := Lib.hid hbx
      have HBY := Lib.hid hby
      clear hbx hby go1
      go_enter Tryd.func3, Tryd.ntmps3
      cases bx <;> cases by'
      all_goals
        go_wp2_with (first
          | (go_at_call 13; refine ca.mono ?_; rintro e w1 ⟨rfl, hb1⟩; have e1 := hEV.below hb1)
          | (go_at_call 14; (with_reducible refine (cl _ e1).mono ?_); rintro e w2 ⟨A, c, rfl, hb2, HT⟩; have e2 := e1.below hb2; have HP2 := Lib.hid ((HP.out.then_ hb1).then_ hb2))
          | (go_at_call 17; (with_reducible refine (CSP.out _ A c HT.out HP2.out).mono ?_); rintro e w3 ⟨A2, c2, rfl, hb3, hI⟩; have e3 := e2.below hb3; have HI := Lib.hid hI; have HT3 := Lib.hid (HT.out.then_ hb3); clear hI)
          | (go_at_call 15; (with_reducible refine (cs _ e3).mono ?_); rintro e w4 ⟨As, c4, es1, rfl, hb4, hB1, hm1⟩; have e4 := (e3.below hb4).new (.cells #[.slice As es1.length c4] 30); have H1 := Lib.hid (And.intro hB1 hm1); have Q4 : Hid (CB (w4.alloc (.cells #[.slice As es1.length c4] 30)) w4.heap.size 30 #[.slice As es1.length c4]) := CB.new _ _ _; have f4 : Hid (Below w4.heap.size w4 (w4.alloc (.cells #[.slice As es1.length c4] 30))) := (Below.refl _ w4).alloc (Nat.le_refl _) _; clear hB1 hm1)
          | (go_at_call 15; (with_reducible refine (cr _ e4).mono ?_); rintro e w5 ⟨Bs, c5, es2, rfl, hb5, hB2, hm2⟩; have e5 := (e4.below hb5).new (.cells #[.slice Bs es2.length c5] 30); have H2 := Lib.hid (And.intro hB2 hm2); have Q5 : Hid (CB (w5.alloc (.cells #[.slice Bs es2.length c5] 30)) w5.heap.size 30 #[.slice Bs es2.length c5]) := CB.new _ _ _; have f5 : Hid (Below w5.heap.size w5 (w5.alloc (.cells #[.slice Bs es2.length c5] 30))) := (Below.refl _ w5).alloc (Nat.le_refl _) _; clear hB2 hm2)
          | (go_at_call 16; (with_reducible refine (cv _ e5).mono ?_); rintro e w6 ⟨Av, c6, rfl, hb6, H6⟩; have e6 := e5.below hb6)
          | (go_at_call 16; (with_reducible refine (cw _ e6).mono ?_); rintro e w7 ⟨Aw, c7, rfl, hb7, H7⟩
             have g45 := Below.both f4.out hb5
             have g57 := Below.both (Below.both f5.out hb6) hb7
             have g47 := Below.both g45 g57
             have z4 : w7.cell? ⟨w4.heap.size, 0, none⟩ = some (.slice As es1.length c4) := ((((Q4.out.below hb5).below f5.out).below hb6).below hb7).at_ 0
             have z5 : w7.cell? ⟨w5.heap.size, 0, none⟩ = some (.slice Bs es2.length c5) := ((Q5.out.below hb6).below hb7).at_ 0
             have W7 : Hid (Below w.heap.size w w7) := Below.both (Below.both (Below.both (Below.both hb1 hb2) hb3) hb4) g47
             have EE : Hid (Calls Tryd.prog 18 #[.slice As es1.length c4, .slice Bs es2.length c5, .int .i64 0, .bool false] w7 fun e w' => e = .returned (.bool true) ∧ Below w7.heap.size w7 w') := events_any 0 false ((RdE.of H1.out.1).below g47) ((RdE.of H2.out.1).below g57) (Rel2.of_map (f := fun x : LEv => x.ev) (g := fun x : LEv => x.ev) (by rw [H1.out.2, H2.out.2]; exact REV.out)) (own_few H1.out.1.own)
             have g37 : Below w3.heap.size w3 w7 := Below.both hb4 g47
             have MVT : Hid (∀ W, Below w7.heap.size w7 W → TRow W W.heap.size A T ∧ Built IntLev W w2.heap.size A2 c2 pl) := fun W hW => ⟨(HT3.out.then_ g37).then_ hW, (HI.out.below intLev g37).below intLev hW⟩
             have H67 := Lib.hid (H6.out.then_ hb7)
             clear g45 g57 g47 g37)
          | (go_at_call 18; (with_reducible refine EE.out.mono ?_); rintro e w8 ⟨rfl, hb8⟩)
          | (go_at_call 19; (with_reducible refine (nodes_any 0 false (H67.out.then_ hb8) (H7.out.then_ hb8) RNV.out (Nat.le_trans bN (by decide))).mono ?_); rintro e w9 ⟨rfl, hb9⟩; have B9 := Lib.hid (Below.both hb8 hb9)
             have MV1 : Hid (x ≠ 0 → Calls Tryd.prog 20 #[.slice A T.length c, .slice A2 pl.length c2, .int .i64 (p : Nat), .int .i64 (p' : Nat)] w9 fun e w' => e = .returned (.bool true) ∧ w9 = w') := fun hx => by
               obtain ⟨j, z, j1, j2, j3⟩ := HPC.out p p' (S3.out.resolve_left hx)
               exact cmoved_any (MVT.out w9 B9.out).1 (MVT.out w9 B9.out).2 HPL.out (Nat.le_trans hTl (by decide)) j1 j2 j3
             have MV2 : Hid (y ≠ 0 → Calls Tryd.prog 20 #[.slice A T.length c, .slice A2 pl.length c2, .int .i64 (q : Nat), .int .i64 (q' : Nat)] w9 fun e w' => e = .returned (.bool true) ∧ w9 = w') := fun hy => by
               obtain ⟨j, z, j1, j2, j3⟩ := HPC.out q q' (V3.out.resolve_left hy)
               exact cmoved_any (MVT.out w9 B9.out).1 (MVT.out w9 B9.out).2 HPL.out (Nat.le_trans hTl (by decide)) j1 j2 j3)
          | (go_at_call 20; (with_reducible refine (MV1.out (fun z => by have := HBX.out.1 z; cases this)).mono ?_); rintro e w' ⟨rfl, rfl⟩)
          | (go_at_call 20; (with_reducible refine (MV2.out (fun z => by have := HBY.out.1 z; cases this)).mono ?_); rintro e w' ⟨rfl, rfl⟩))
        go_ret
        exact ⟨rfl, Below.both W7.out B9.out⟩
    refine tail (decide (x = 0)) (decide (y = 0)) ?_ ?_ <;> simp
end Go.Proofs.YtbngelinfpaefaaDoor
