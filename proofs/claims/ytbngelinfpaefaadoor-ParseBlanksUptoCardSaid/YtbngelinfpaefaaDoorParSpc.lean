/- The walk of spaced: a text anew from its tokens, with blanks between them. -/
import Derived.Test.YtbngelinfpaefaaDoorParBlk
import Derived.Deep.RegionHeld3
namespace Go.Proofs.YtbngelinfpaefaaDoor
open Go.RowKit

theorem zL_at {P : List UInt8} {T : List Tk} {k : Nat} {x : Tk} (h : T[k]? = some x) : zL P k (T.drop k) = (x, ls (gap8 (padAt P k))) :: zL P (k + 1) (T.drop (k + 1)) := by
  obtain ⟨hk, e⟩ := List.getElem?_eq_some_iff.1 h
  rw [List.drop_eq_getElem_cons hk, e]
  rfl
theorem results_two {fn : Func} {t q : Tmp} (h : fn.results = #[.tmp t, .tmp q]) (tmps : Array Value) (w : World) (u v : Value)
    (hu : tmps.getD t undef = u) (hv : tmps.getD q undef = v) : (results fn tmps).run Tryd.prog w = .ok (.tuple #[u, v]) w := by
  unfold results
  rw [h]
  have hu' : tmps[t]?.getD undef = u := by simpa [Array.getD_eq_getD_getElem?] using hu
  have hv' : tmps[q]?.getD undef = v := by simpa [Array.getD_eq_getD_getElem?] using hv
  simp [hu', hv']
structure SpSt (w wr : World) (s : ByteArray) (T : List Tk) (P : List UInt8) (k : Nat) (A : Option Addr) (c : Nat) (o : List UInt8) (A2 : Option Addr) (c2 : Nat) (pl : List Nat) : Prop where
  bel : Below w.heap.size w wr
  sp : Sp wr w.heap.size A c o A2 c2 pl
  out : o ++ spL (ls s) (zL P k (T.drop k)) = spL (ls s) (zL P 0 T)
  plc : pl ++ plL o.length (zL P k (T.drop k)) = plL 0 (zL P 0 T)
  few : o.length ≤ k * 200000
  len : pl.length = k
/-- a round: the blank, the place, the token's bytes -/
theorem SpSt.round {w wr w' : World} {s : ByteArray} {T : List Tk} {P : List UInt8} {k : Nat} {A A' A2 A2' : Option Addr} {c c' c2 c2' : Nat} {o o1 o2 : List UInt8} {pl : List Nat} (h : SpSt w wr s T P k A c o A2 c2 pl) {x : Tk} (hx : T[k]? = some x) (hok : x.a ≤ x.e ∧ x.e ≤ s.size) (hs : s.size ≤ 131072)
    (h1 : o1 = o ++ ls (gap8 (padAt P k))) (h2 : o2 = o1 ++ ls (s.extract x.a x.e)) (hb : Below w.heap.size w w') (hsp : Sp w' w.heap.size A' c' o2 A2' c2' (pl ++ [o1.length])) : SpSt w w' s T P (k + 1) A' c' o2 A2' c2' (pl ++ [o1.length]) := by
  have e := zL_at (P := P) hx
  have g := (gap8_ok (padAt P k)).few
  have hsub : ls (s.extract x.a x.e) = ((ls s).drop x.a).take (x.e - x.a) := ls_extract s x.a x.e
  have hsl : (ls (s.extract x.a x.e)).length = x.e - x.a := by
    rw [hsub, List.length_take, List.length_drop, ls_size]
    omega
  have l1 : o1.length = o.length + (ls (gap8 (padAt P k))).length := by rw [h1, List.length_append]
  have l2 : o2.length = o1.length + (x.e - x.a) := by rw [h2, List.length_append, hsl]
  refine ⟨hb, hsp, ?_, ?_, ?_, by rw [List.length_append, h.len]; rfl⟩
  · rw [← h.out, e, spL_cons, h2, h1, hsub]
    simp only [List.append_assoc]
  · have := h.plc
    rw [e, plL_cons] at this
    rw [← this, l2, l1, List.append_assoc]
    rfl
  · have := h.few
    rw [Nat.add_mul]
    omega

set_option maxRecDepth 100000 in
set_option maxHeartbeats 8000000 in
theorem cspaced_any {w : World} {s : ByteArray} {A PA : Option Addr} {c pc : Nat} {T : List Tk} {P : List UInt8} (ht : TRow w w.heap.size A T) (hP : Byt w w.heap.size PA P) (hok : ∀ x ∈ T, x.a ≤ x.e ∧ x.e ≤ s.size) (hT : T.length ≤ 200000) (hs : s.size ≤ 131072) (hPl : P.length ≤ 140737488355328) :
    Calls Tryd.prog 17 #[.string s, .slice A T.length c, .slice PA P.length pc] w fun e w' => ∃ A2 c2, e = .returned (.tuple #[.string (str (spL (ls s) (zL P 0 T))), .slice A2 (plL 0 (zL P 0 T)).length c2]) ∧ Below w.heap.size w w' ∧ Built IntLev w' w.heap.size A2 c2 (plL 0 (zL P 0 T)) := by
  have cb := fun W b => cblank_any W b
  have S0 : Hid (SpSt w ((w.alloc (.cells #[] 5)).alloc (.cells #[] 3)) s T P 0 (some ⟨w.heap.size, 0, none⟩) 0 [] (some ⟨w.heap.size + 1, 0, none⟩) 0 []) :=
    ⟨((Below.refl _ w).alloc (Nat.le_refl _) _).alloc (by simp) _, Sp.start w _ (Nat.le_refl _), rfl, rfl, Nat.zero_le _, rfl⟩
  have HT := Lib.hid ht
  have HP := Lib.hid hP
  have HO := Lib.hid hok
  clear ht hP hok
  go_enter Tryd.func17, Tryd.ntmps17
  go_wp2
  go_loopw [8, 9, 10] (fun a b i wr => ∃ (k : Nat) (o : List UInt8) (pl : List Nat) (A1 : Option Addr) (c1 : Nat) (A2 : Option Addr) (c2 : Nat), a = .slice A1 o.length c1 ∧ b = .slice A2 pl.length c2 ∧ i = .int .i64 k ∧ k ≤ T.length ∧ Hid (SpSt w wr s T P k A1 c1 o A2 c2 pl)) (fun _ _ i _ => T.length - (intOf i).toNat)
  case atStart => exact ⟨0, [], [], some ⟨w.heap.size, 0, none⟩, 0, some ⟨w.heap.size + 1, 0, none⟩, 0, rfl, rfl, rfl, Nat.zero_le _, S0⟩
  case round =>
    clear S0
    obtain ⟨k, o, pl, A1, c1, A2, c2, rfl, rfl, rfl, hk, HS⟩ := hrel
    obtain ⟨wo, rfl⟩ : ∃ wo : World, wo = wr := ⟨_, rfl⟩
    by_cases hlt : k < T.length
    · have hltz : (k : Int) < (T.length : Int) := by omega
      have k0 : (0 : Int) ≤ (k : Int) := by omega
      obtain ⟨x, hx⟩ : ∃ f, T[k]? = some f := ⟨T[k], List.getElem?_eq_getElem hlt⟩
      have HX := Lib.hid hx
      obtain ⟨g, q, hA, _⟩ := HT.out.at_ hx
      subst hA
      have ho := HO.out x (List.mem_of_getElem? hx)
      obtain ⟨b9, hb9⟩ : ∃ b, padAt P k = b := ⟨_, rfl⟩
      obtain ⟨gp, hgp⟩ : ∃ b, gap8 b9 = b := ⟨_, rfl⟩
      have hgf : gp.size ≤ 5 := by rw [← hgp, ← ls_size]; exact (gap8_ok b9).few
      obtain ⟨o1, ho1⟩ : ∃ r, r = o ++ ls gp := ⟨_, rfl⟩
      have lo1 : o1.length = o.length + gp.size := by rw [ho1, List.length_append, ls_size]
      have lo := HS.out.few
      have lk : k * 200000 ≤ 40000000000 := by omega
      -- behind the blank: the text, the place
      have CUT : Hid (∀ w5, Below wo.heap.size wo w5 → ∃ A5 c5 w6, Hid ((Builtin.append_ #[22, 9] 22 #[.slice A1 o.length c1, .string gp]).run Tryd.prog w5 = .ok (.slice A5 o1.length c5) w6) ∧
          ∃ g7 c7 w7, Hid ((Builtin.append_ #[36, 36] 36 #[.slice A2 pl.length c2, .slice (some ⟨w6.heap.size, 0, none⟩) 1 1]).run Tryd.prog (w6.alloc (.cells #[.int .i64 (o1.length : Nat)] 3)) = .ok (.slice (some ⟨g7, 0, none⟩) (pl.length + 1) c7) w7) ∧
            Hid (Sp w7 w.heap.size A5 c5 o1 (some ⟨g7, 0, none⟩) c7 (pl ++ [o1.length]) ∧ Below w.heap.size w w7)) := fun w5 hb5 => by
        have sz := HS.out.bel.size
        have sz5 := hb5.size
        obtain ⟨A5, c5, w6, r6, s6, b6⟩ := (HS.out.sp.below hb5).text gp o1 ho1 (by omega) (by omega)
        have sz6 := b6.size
        obtain ⟨g7, c7, w7, r7, s7, b7⟩ := s6.place o1.length (by rw [HS.out.len]; omega) (by omega)
        exact ⟨A5, c5, w6, r6, g7, c7, w7, r7, s7, ((HS.out.bel.trans (hb5.mono sz)).trans b6).trans b7⟩
      have HB9 := Lib.hid hb9
      have HGP := Lib.hid hgp
      have HO1 := Lib.hid ho1
      have HO2 := Lib.hid ho
      have HLO : Hid (o1.length ≤ 50000000000) := by
        show o1.length ≤ 50000000000
        omega
      by_cases hP0 : P.length = 0
      · have hPz : ¬ (0 : Int) < (P.length : Int) := by omega
        have cb0 : ∀ W, Calls Tryd.prog 36 #[.int .u8 0] W fun e w' => e = .returned (.string gp) ∧ Below W.heap.size W w' := fun W => by
          have h0 : b9 = 0 := by rw [← hb9]; unfold padAt; rw [if_pos hP0]
          have := cb W 0
          rw [← h0, hgp] at this
          rw [h0] at this
          exact this
        clear hP0 hx hb9 hgp ho1 ho lo1 lo lk
        go_wp2_with (first
          | (go_at_call 36; refine (cb0 _).mono ?_; rintro e w5 ⟨rfl, hb5⟩; obtain ⟨A5, c5, w6, r6, g7, c7, w7, r7, H7⟩ := CUT.out w5 hb5; clear CUT)
          | (at_builtin; refine wpList_append_str rfl (.tmp 30) (.tmp 32) _ _ rfl rfl rfl r6.out ?_)
          | (at_builtin; refine wpList_append_run rfl (.tmp 34) (.tmp 37) _ rfl rfl rfl r7.out ?_))
        have hx := HX.out
        have ho := HO2.out
        obtain ⟨g', q', he, _, _, _, _, c3, c4⟩ := (HT.out.below H7.out.2).at_ hx
        cases he
        have x0 : (0 : Int) ≤ (x.a : Int) := by omega
        have x1 : (x.a : Int) ≤ (x.e : Int) := by omega
        have x2 : (x.e : Int) ≤ (s.size : Int) := by omega
        clear hx ho
        go_quiet (fail)
        go_wp2
        have b78 : Below w7.heap.size w7 (w7.drewN nq).drew := Below.thenN (Below.newN w7 nq) 1
        obtain ⟨o2, ho2⟩ : ∃ r, r = o1 ++ ls (s.extract x.a x.e) := ⟨_, rfl⟩
        have lo2 : o2.length ≤ 140737488355328 := by
          have := HLO.out
          rw [ho2, List.length_append, ls_size, ByteArray.size_extract]
          omega
        have sz7 := H7.out.2.size
        obtain ⟨A9, c9, w9, r9, s9, b9w⟩ := (H7.out.1.below b78).text (s.extract x.a x.e) o2 ho2 lo2 (by have := b78.size; omega)
        have R9 := Lib.hid r9
        have g79 : Below w.heap.size w w9 := (H7.out.2.trans (b78.mono sz7)).trans b9w
        have HS9 : Hid (SpSt w w9 s T P (k + 1) A9 c9 o2 (some ⟨g7, 0, none⟩) c7 (pl ++ [o1.length])) := HS.out.round HX.out HO2.out hs (by rw [HO1.out, HB9.out, HGP.out]) ho2 g79 s9
        have K8 : Hid ((w7.drewN nq).drew.cell? ⟨g, q + k * 5 + 3, none⟩ = some (.int .i64 (x.a : Nat)) ∧ (w7.drewN nq).drew.cell? ⟨g, q + k * 5 + 4, none⟩ = some (.int .i64 (x.e : Nat))) := ⟨c3, c4⟩
        have K9 : Hid (w9.cell? ⟨g, q + k * 5 + 3, none⟩ = some (.int .i64 (x.a : Nat)) ∧ w9.cell? ⟨g, q + k * 5 + 4, none⟩ = some (.int .i64 (x.e : Nat))) := by
          obtain ⟨g', q', he, _, _, _, _, c3', c4'⟩ := (HT.out.below g79).at_ HX.out
          cases he
          exact ⟨c3', c4'⟩
        clear r9 s9 g79 b9w lo2 b78 ho2 sz7
        go_region_held3 (fun W => W.cell? ⟨g, q + k * 5 + 3, none⟩ = some (.int .i64 (x.a : Nat)) ∧ W.cell? ⟨g, q + k * 5 + 4, none⟩ = some (.int .i64 (x.e : Nat))) (first | (with_reducible exact K8.out) | (with_reducible exact K9.out) | fail)
          (first | (refine step_append_str rfl (.tmp 68) (.tmp 80) _ _ rfl rfl rfl R9.out ?_) | fail)
        go_wp2
        go_roundw
        case rel => exact ⟨k + 1, o2, pl ++ [o1.length], A9, c9, some ⟨g7, 0, none⟩, c7, rfl, by simp, by go_num, by omega, HS9⟩
        case measure => simp [intOf]; omega
      · have hPz : (0 : Int) < (P.length : Int) := by omega
        obtain ⟨n, hn⟩ : ∃ n : Nat, n = k % P.length := ⟨_, rfl⟩
        have hnl : n < P.length := by rw [hn]; exact Nat.mod_lt _ (by omega)
        obtain ⟨gp9, op9, hPA, _, hcp⟩ := (HP.out.below HS.out.bel).at_ (by omega)
        subst hPA
        have p9 : wo.cell? ⟨gp9, op9 + n, none⟩ = some (.int .u8 (P[n].toNat : Nat)) := hcp n hnl
        have hbn : P[n] = b9 := by
          rw [← hb9]
          unfold padAt
          rw [if_neg hP0, ← hn, List.getElem?_eq_getElem hnl]
          rfl
        rw [hbn] at p9
        have hk1 : (k : Int) % (P.length : Int) = (n : Int) := by rw [hn]; omega
        have hk2 : Int.tmod (k : Int) (P.length : Int) = (n : Int) := by rw [Int.tmod_eq_emod_of_nonneg (by omega)]; exact hk1
        have n0 : (0 : Int) ≤ (n : Int) := by omega
        have n1 : (n : Int) < (P.length : Int) := by omega
        have hPne : (P.length : Int) ≠ 0 := by omega
        have cb0 : ∀ W, Calls Tryd.prog 36 #[.int .u8 (b9.toNat : Nat)] W fun e w' => e = .returned (.string gp) ∧ Below W.heap.size W w' := fun W => by
          have := cb W b9
          rwa [hgp] at this
        clear hn hnl hcp hbn
        clear hP0 hx hb9 hgp ho1 ho lo1 lo lk
        go_wp2_with (first
          | (go_at_call 36; refine (cb0 _).mono ?_; rintro e w5 ⟨rfl, hb5⟩; obtain ⟨A5, c5, w6, r6, g7, c7, w7, r7, H7⟩ := CUT.out w5 hb5; clear CUT)
          | (at_builtin; refine wpList_append_str rfl (.tmp 30) (.tmp 32) _ _ rfl rfl rfl r6.out ?_)
          | (at_builtin; refine wpList_append_run rfl (.tmp 34) (.tmp 37) _ rfl rfl rfl r7.out ?_))
        have hx := HX.out
        have ho := HO2.out
        obtain ⟨g', q', he, _, _, _, _, c3, c4⟩ := (HT.out.below H7.out.2).at_ hx
        cases he
        have x0 : (0 : Int) ≤ (x.a : Int) := by omega
        have x1 : (x.a : Int) ≤ (x.e : Int) := by omega
        have x2 : (x.e : Int) ≤ (s.size : Int) := by omega
        clear hx ho
        go_quiet (fail)
        go_wp2
        have b78 : Below w7.heap.size w7 (w7.drewN nq).drew := Below.thenN (Below.newN w7 nq) 1
        obtain ⟨o2, ho2⟩ : ∃ r, r = o1 ++ ls (s.extract x.a x.e) := ⟨_, rfl⟩
        have lo2 : o2.length ≤ 140737488355328 := by
          have := HLO.out
          rw [ho2, List.length_append, ls_size, ByteArray.size_extract]
          omega
        have sz7 := H7.out.2.size
        obtain ⟨A9, c9, w9, r9, s9, b9w⟩ := (H7.out.1.below b78).text (s.extract x.a x.e) o2 ho2 lo2 (by have := b78.size; omega)
        have R9 := Lib.hid r9
        have g79 : Below w.heap.size w w9 := (H7.out.2.trans (b78.mono sz7)).trans b9w
        have HS9 : Hid (SpSt w w9 s T P (k + 1) A9 c9 o2 (some ⟨g7, 0, none⟩) c7 (pl ++ [o1.length])) := HS.out.round HX.out HO2.out hs (by rw [HO1.out, HB9.out, HGP.out]) ho2 g79 s9
        have K8 : Hid ((w7.drewN nq).drew.cell? ⟨g, q + k * 5 + 3, none⟩ = some (.int .i64 (x.a : Nat)) ∧ (w7.drewN nq).drew.cell? ⟨g, q + k * 5 + 4, none⟩ = some (.int .i64 (x.e : Nat))) := ⟨c3, c4⟩
        have K9 : Hid (w9.cell? ⟨g, q + k * 5 + 3, none⟩ = some (.int .i64 (x.a : Nat)) ∧ w9.cell? ⟨g, q + k * 5 + 4, none⟩ = some (.int .i64 (x.e : Nat))) := by
          obtain ⟨g', q', he, _, _, _, _, c3', c4'⟩ := (HT.out.below g79).at_ HX.out
          cases he
          exact ⟨c3', c4'⟩
        clear r9 s9 g79 b9w lo2 b78 ho2 sz7
        go_region_held3 (fun W => W.cell? ⟨g, q + k * 5 + 3, none⟩ = some (.int .i64 (x.a : Nat)) ∧ W.cell? ⟨g, q + k * 5 + 4, none⟩ = some (.int .i64 (x.e : Nat))) (first | (with_reducible exact K8.out) | (with_reducible exact K9.out) | fail)
          (first | (refine step_append_str rfl (.tmp 68) (.tmp 80) _ _ rfl rfl rfl R9.out ?_) | fail)
        go_wp2
        go_roundw
        case rel => exact ⟨k + 1, o2, pl ++ [o1.length], A9, c9, some ⟨g7, 0, none⟩, c7, rfl, by simp, by go_num, by omega, HS9⟩
        case measure => simp [intOf]; omega
    · have hge : ¬ (k : Int) < (T.length : Int) := by omega
      have e : T.drop k = [] := List.drop_eq_nil_of_le (by omega)
      have q1 : o = spL (ls s) (zL P 0 T) := by
        have := HS.out.out
        rw [e] at this
        rw [← this]
        exact (List.append_nil _).symm
      have q2 : pl = plL 0 (zL P 0 T) := by
        have := HS.out.plc
        rw [e] at this
        rw [← this]
        exact (List.append_nil _).symm
      have hcv := own_byt HS.out.sp.b c1
      have END : Hid (∃ A2' c2', Ending.returned (.tuple #[.string (str o), .slice A2 pl.length c2]) = .returned (.tuple #[.string (str (spL (ls s) (zL P 0 T))), .slice A2' (plL 0 (zL P 0 T)).length c2']) ∧ Below w.heap.size w wo ∧ Built IntLev wo w.heap.size A2' c2' (plL 0 (zL P 0 T))) := by
        rw [← q1, ← q2]
        exact ⟨A2, c2, rfl, HS.out.bel, HS.out.sp.i⟩
      clear e q1 q2 hlt hk
      go_wp2
      exact bodyPost_ret (v := .tuple #[.string (str o), .slice A2 pl.length c2]) (results_two rfl _ _ _ _ rfl rfl) rfl END.out
end Go.Proofs.YtbngelinfpaefaaDoor
