/- The walks of the code: a token, whichever; the tokens of a text. -/
import Derived.Test.YtggonhciakfabaaDoorLexCodeT
import Derived.Test.YtggonhciakfabaaDoorLexRefX
namespace Go.Proofs.YtggonhciakfabaaDoor
open Go.RowKit

set_option maxRecDepth 100000 in
set_option maxHeartbeats 4000000 in
theorem next_any (w : World) (s : ByteArray) (i : Nat) (hi : i < s.size) (hs : s.size ≤ 1048576) (hE : EV w) :
    Calls Tryd.prog 23 #[.string s, .int .i64 i] w (TokAt (tokL ((ls s).drop i)) i w) := by
  obtain ⟨R, hR⟩ : ∃ R, tokL ((ls s).drop i) = R := ⟨_, rfl⟩
  obtain ⟨c, hc⟩ : ∃ c, s[i]'hi = c := ⟨_, rfl⟩
  obtain ⟨l, hl⟩ : ∃ l, (ls s).drop i = l := ⟨_, rfl⟩
  obtain ⟨r, hr⟩ : ∃ r, (ls s).drop (i + 1) = r := ⟨_, rfl⟩
  have hdr := drop_at s hi
  rw [hc, hl, hr] at hdr
  rw [hR]
  rw [hl] at hR
  have hz := tkz w
  obtain ⟨W1, hW1⟩ : ∃ W1, w.alloc (.cells (tkC tk0) 32) = W1 := ⟨_, rfl⟩
  have cl := fun W => letter_any W c
  have cd := fun W => digit_any W c
  have cm := fun W => mark_any W c
  have hiz : (i : Int) < (s.size : Int) := by omega
  by_cases hL : isL c = true
  · have cw := word_any (w.alloc (.cells (tkC tk0) 32)) s i (by omega) hs
    rw [hl, hdr, ← tokL_word r hL, ← hdr, hR] at cw
    simp only [hL] at cl
    clear hdr hR hl hr cd cm hL hW1
    go_enter Tryd.func23, Tryd.ntmps23
    go_wp2_with (first
      | (go_at_call 24; refine (cl _).mono ?_; rintro e w2 ⟨rfl, rfl⟩)
      | (go_at_call 38; refine cw.mono ?_; intro e w3 h3; obtain ⟨x, u, v, rfl⟩ := h3.val; have H3 := Lib.hid h3; clear h3; have hz3 := hz.below H3.out.1)
      | (refine wpList_store_tok rfl (.tmp 4) (.tmp 17) rfl w.heap.size tk0 x rfl rfl hz3 ?_; intro w9 h9 t9))
    exact bodyPost_ret (v := .tuple #[.agg (tkC x), u, v]) (results_tok rfl _ _ _ _ _ _ rfl rfl rfl h9) rfl ⟨((Below.refl _ w).alloc (Nat.le_refl _) _).trans ((H3.out.1.mono (by simp)).trans (t9.below (Nat.le_refl _))), H3.out.2⟩
  · have hLf : isL c = false := by simpa using hL
    simp only [hLf] at cl
    by_cases hD : isD c = true
    · have cw := number_any (w.alloc (.cells (tkC tk0) 32)) s i (by omega) hs (by rw [hl, hdr]; exact numN_pos hD) (hE.new _)
      rw [hl, hdr, ← tokL_num r hLf hD, ← hdr, hR] at cw
      simp only [hD] at cd
      clear hdr hR hl hr cm hL hLf hD hW1
      go_enter Tryd.func23, Tryd.ntmps23
      go_wp2_with (first
        | (go_at_call 24; refine (cl _).mono ?_; rintro e w2 ⟨rfl, rfl⟩)
        | (go_at_call 39; refine (cd _).mono ?_; rintro e w2 ⟨rfl, rfl⟩)
        | (go_at_call 40; refine cw.mono ?_; intro e w3 h3; obtain ⟨x, u, v, rfl⟩ := h3.val; have H3 := Lib.hid h3; clear h3; have hz3 := hz.below H3.out.1)
        | (refine wpList_store_tok rfl (.tmp 4) (.tmp 26) rfl w.heap.size tk0 x rfl rfl hz3 ?_; intro w9 h9 t9))
      exact bodyPost_ret (v := .tuple #[.agg (tkC x), u, v]) (results_tok rfl _ _ _ _ _ _ rfl rfl rfl h9) rfl ⟨((Below.refl _ w).alloc (Nat.le_refl _) _).trans ((H3.out.1.mono (by simp)).trans (t9.below (Nat.le_refl _))), H3.out.2⟩
    · have hDf : isD c = false := by simpa using hD
      simp only [hDf] at cd
      by_cases q34 : c.toNat = 34
      · have cw := text_any (w.alloc (.cells (tkC tk0) 32)) s i hi hs (hE.new _)
        rw [hl, hdr, ← tokL_text r hLf hDf q34, ← hdr, hR] at cw
        have z34 : ((c.toNat : Int) == 34) = true := by rw [q34]; rfl
        clear hdr hR hl hr cm hL hLf hD hDf hW1 q34
        go_enter Tryd.func23, Tryd.ntmps23
        go_wp2_with (first
          | (go_at_call 24; refine (cl _).mono ?_; rintro e w2 ⟨rfl, rfl⟩)
          | (go_at_call 39; refine (cd _).mono ?_; rintro e w2 ⟨rfl, rfl⟩)
          | (go_at_call 41; refine cw.mono ?_; intro e w3 h3; obtain ⟨x, u, v, rfl⟩ := h3.val; have H3 := Lib.hid h3; clear h3; have hz3 := hz.below H3.out.1)
          | (refine wpList_store_tok rfl (.tmp 4) (.tmp 35) rfl w.heap.size tk0 x rfl rfl hz3 ?_; intro w9 h9 t9))
        exact bodyPost_ret (v := .tuple #[.agg (tkC x), u, v]) (results_tok rfl _ _ _ _ _ _ rfl rfl rfl h9) rfl ⟨((Below.refl _ w).alloc (Nat.le_refl _) _).trans ((H3.out.1.mono (by simp)).trans (t9.below (Nat.le_refl _))), H3.out.2⟩
      · have z34 : ((c.toNat : Int) == 34) = false := beq_eq_false_iff_ne.2 (by omega)
        by_cases hM : isM c = true
        · have hRE : R = .tok 4 (ls (s.extract i (i + 1))) 0 1 := by
            rw [← hR, hdr, tokL_mark r hLf hDf q34 hM, ls_extract, hl, hdr, show i + 1 - i = 1 by omega]
            rfl
          have HRE := Lib.hid hRE
          simp only [hM] at cm
          have cc := fun W => clone_any W (s.extract i (i + 1)) (by rw [ByteArray.size_extract]; omega)
          clear hdr hR hl hr hL hLf hD hDf hW1 q34 hM hRE
          go_enter Tryd.func23, Tryd.ntmps23
          go_wp2_with (first
            | (go_at_call 24; refine (cl _).mono ?_; rintro e w2 ⟨rfl, rfl⟩)
            | (go_at_call 39; refine (cd _).mono ?_; rintro e w2 ⟨rfl, rfl⟩)
            | (go_at_call 36; refine (cm _).mono ?_; rintro e w2 ⟨rfl, rfl⟩)
            | (go_at_call 42; refine (cc _).mono ?_; rintro e w3 ⟨rfl, hb3⟩; have hz3 := hz.below hb3)
            | (refine wpList_store_tok rfl (.tmp 4) (.tmp 50) rfl w.heap.size tk0 ⟨4, ls (s.extract i (i + 1)), 0, i, i + 1⟩ rfl rfl hz3 ?_; intro w9 h9 t9))
          rw [HRE.out]
          exact bodyPost_ret (v := .tuple #[.agg (tkC ⟨4, ls (s.extract i (i + 1)), 0, i, i + 1⟩), .int .i64 0, .int .i64 0]) (results_tok rfl _ _ _ _ _ _ rfl rfl rfl h9) rfl ⟨((Below.refl _ w).alloc (Nat.le_refl _) _).trans ((hb3.mono (by simp)).trans (t9.below (Nat.le_refl _))), rfl⟩
        · have hMf : isM c = false := by simpa using hM
          have hRE : R = .bad 0 80 := by
            rw [← hR, hdr, tokL_none r hLf hDf q34 hMf]
          have HRE := Lib.hid hRE
          simp only [hMf] at cm
          clear hdr hR hl hr hL hLf hD hDf hW1 q34 hM hMf hRE
          go_enter Tryd.func23, Tryd.ntmps23
          go_wp2_with (first
            | (go_at_call 24; refine (cl _).mono ?_; rintro e w2 ⟨rfl, rfl⟩)
            | (go_at_call 39; refine (cd _).mono ?_; rintro e w2 ⟨rfl, rfl⟩)
            | (go_at_call 36; refine (cm _).mono ?_; rintro e w2 ⟨rfl, rfl⟩)
            | (refine wpList_store_tok rfl (.tmp 4) (.tmp 51) rfl w.heap.size tk0 tk0 rfl rfl hz ?_; intro w9 h9 t9))
          rw [HRE.out]
          exact bodyPost_ret (v := .tuple #[.agg (tkC tk0), .int .i64 ((i + 0 : Nat) : Int), .int .i64 ((80 : Nat) : Int)]) (results_tok rfl _ _ _ _ _ _ rfl rfl rfl h9) rfl ⟨below_alloc t9, rfl⟩

set_option maxRecDepth 100000 in
set_option maxHeartbeats 4000000 in
theorem lex_any (w : World) (s : ByteArray) (hE : EV w) : Calls Tryd.prog 12 #[.string s] w (LexAt (lexS s) w) := by
  obtain ⟨R, hR⟩ : ∃ R, lexS s = R := ⟨_, rfl⟩
  rw [hR]
  have HEV := Lib.hid hE
  clear hE
  by_cases hbig : 1048576 < s.size
  · have hz : (1048576 : Int) < (s.size : Int) := by omega
    have HRE : Hid (R = .bad 0 2) := by unfold Hid; rw [← hR]; exact if_pos hbig
    clear hR
    go_enter Tryd.func12, Tryd.ntmps12
    go_wp2
    rw [HRE.out]
    exact bodyPost_ret (v := .tuple #[.slice none 0 0, .int .i64 ((0 : Nat) : Int), .int .i64 ((2 : Nat) : Int)]) (results_three rfl _ _ _ _ _ rfl rfl rfl) rfl ⟨Below.refl _ _, rfl⟩
  · have hs : s.size ≤ 1048576 := by omega
    have hz : ¬ (1048576 : Int) < (s.size : Int) := by omega
    have HI : Hid (LexInv s R [] (0 + skipS false ((ls s).drop 0))) := by
      unfold Hid
      refine ⟨0, rfl, Nat.zero_le _, ?_, Nat.le_refl _⟩
      rw [← hR, List.drop_zero, LR.pre_nil]
      exact if_neg hbig
    have cs0 := skip_any w s 0 (Nat.zero_le _) (by omega)
    clear hR
    obtain ⟨k0, hk0⟩ : ∃ k0, 0 + skipS false ((ls s).drop 0) = k0 := ⟨_, rfl⟩
    rw [hk0] at HI cs0
    clear hk0
    go_enter Tryd.func12, Tryd.ntmps12
    go_wp2_with (go_at_call 22; refine cs0.mono ?_; rintro e w2 ⟨rfl, rfl⟩)
    go_loopw [5, 6] (fun o v wr => ∃ (k : Nat) (A : Option Addr) (c : Nat) (pre : List Tk), o = .slice A pre.length c ∧ v = .int .i64 k ∧ Hid (LexInv s R pre k) ∧ Hid (OwnT wr w.heap.size A c pre) ∧ Below w.heap.size w wr) (fun _ v _ => s.size - (intOf v).toNat)
    case atStart => exact ⟨k0, none, 0, [], rfl, rfl, HI, OwnT.nil _ _, Below.refl _ _⟩
    case round =>
      obtain ⟨k, A, c0, pre, rfl, rfl, HJ, HO, hbw⟩ := hrel
      have hk := HJ.out.k_le
      by_cases hlt : k < s.size
      · have hltz : (k : Int) < (s.size : Int) := by omega
        have ct := next_any wr s k hlt hs (HEV.out.below hbw)
        cases hT : tokL ((ls s).drop k) with
        | bad o x =>
          rw [hT] at ct
          have HRE := Lib.hid (HJ.out.bad hlt hT)
          have hx : ((x : Int) != 0) = true := by have := tok_err hT; simp; omega
          clear hT
          have hce : Calls Tryd.prog 23 #[.string s, .int .i64 k] wr fun e w' => e = .returned (.tuple #[.agg (tkC tk0), .int .i64 ((k + o : Nat) : Int), .int .i64 (x : Nat)]) ∧ Below wr.heap.size wr w' := ct.mono fun e w' h => ⟨h.2, h.1⟩
          clear ct
          go_wp2_with (first
            | (go_at_call 23; refine hce.mono ?_; rintro e w3 ⟨rfl, hb3⟩; have hz3 := tkz w3)
            | (refine wpList_store_tok rfl (.tmp 7) (.tmp 23) rfl w3.heap.size tk0 tk0 rfl rfl hz3 ?_; intro w9 h9 t9))
          rw [HRE.out]
          exact bodyPost_ret (v := .tuple #[.slice none 0 0, .int .i64 ((k + o : Nat) : Int), .int .i64 (x : Nat)]) (results_three rfl _ _ _ _ _ rfl rfl rfl) rfl ⟨(hbw.trans (hb3.mono hbw.size)).trans ((below_alloc t9).mono (Nat.le_trans hbw.size hb3.size)), rfl⟩
        | tok q t n len =>
          rw [hT] at ct
          obtain ⟨hJ2, hkl, hl1⟩ := HJ.out.tok hlt hT
          obtain ⟨x, hx⟩ : ∃ x, (⟨q, t, n, k, k + len⟩ : Tk) = x := ⟨_, rfl⟩
          have hce : Calls Tryd.prog 23 #[.string s, .int .i64 k] wr fun e w' => e = .returned (.tuple #[.agg (tkC x), .int .i64 0, .int .i64 0]) ∧ Below wr.heap.size wr w' := by
            rw [← hx]
            exact ct.mono fun e w' h => ⟨h.2, h.1⟩
          have hxe : x.e = k + len := by rw [← hx]
          obtain ⟨p, hp⟩ : ∃ p, k + len = p := ⟨_, rfl⟩
          have cs := fun W => skip_any W s p (by omega) (by omega)
          rw [hp] at hxe
          rw [hx] at hJ2
          rw [hp] at hJ2
          obtain ⟨k2, hk2⟩ : ∃ k2, p + skipS false ((ls s).drop p) = k2 := ⟨_, rfl⟩
          simp only [hk2] at cs
          rw [hk2] at hJ2
          have hkk : k < k2 := by omega
          have hk2s := hJ2.k_le.1
          obtain ⟨r, hr⟩ : ∃ r, r = pre ++ [x] := ⟨_, rfl⟩
          rw [← hr] at hJ2
          have hrl : r.length ≤ 2000000000 := by have := hJ2.k_le.2; omega
          have HJ2 := Lib.hid hJ2
          have APP := Lib.hid (fun (w9 : World) (hb : Below wr.heap.size wr w9) => run_app_tok (HO.out.then_ hb) x r hr hrl (Nat.le_trans hbw.size hb.size))
          have OFF := Lib.hid (fun (g : Nat) (hg : wr.heap.size ≤ g) => HO.out.off hg)
          have hsz5 : (tkC x).size = 5 := rfl
          clear hT hJ2 hx ct hr hk2 hp
          go_wp2_with (first
            | (go_at_call 23; refine hce.mono ?_; rintro e w3 ⟨rfl, hb3⟩; have hz3 := tkz w3)
            | (refine wpList_store_tok rfl (.tmp 7) (.tmp 23) rfl w3.heap.size tk0 x rfl rfl hz3 ?_; intro w9 h9 t9; have hb9 := hb3.trans ((below_alloc t9).mono hb3.size); obtain ⟨A', c', w4, ha, ho4, hb4, hk4⟩ := APP.out w9 hb9; have h4 := h9.keep (hk4 _ h9.len (OFF.out _ hb3.size)); have hc4 := h4.cells.2.2.2.2; rw [hxe] at hc4; have HA := Lib.hid ha; have HO4 := Lib.hid ho4; clear ha ho4 hk4)
            | (refine wpList_load_tok rfl (.tmp 7) rfl w3.heap.size x rfl h9 ?_)
            | (at_builtin; refine wpList_append_run rfl (.tmp 30) (.tmp 32) _ rfl rfl rfl HA.out ?_)
            | (go_at_call 22; refine (cs _).mono ?_; rintro e w5 ⟨rfl, rfl⟩))
          go_roundw
          case rel => exact ⟨k2, A', c', r, rfl, rfl, HJ2, HO4, (hbw.trans (hb9.mono hbw.size)).trans hb4⟩
          case measure => simp [intOf]; omega
      · obtain rfl : k = s.size := by omega
        have HRE := Lib.hid HJ.out.end_
        have hltz : ¬ (s.size : Int) < (s.size : Int) := by omega
        obtain ⟨r, hr⟩ : ∃ r, r = pre ++ [endTk s.size] := ⟨_, rfl⟩
        obtain ⟨A', c', w4, ha, ho4, hb4, _⟩ := run_app_tok HO.out (endTk s.size) r hr (by rw [hr, List.length_append]; show _ + 1 ≤ _; omega) hbw.size
        rw [← hr] at HRE
        have HA := Lib.hid ha
        have HO4 := Lib.hid ho4
        clear ha ho4 hr
        go_wp2_with (at_builtin; refine wpList_append_run rfl (.tmp 38) (.tmp 44) _ rfl rfl rfl HA.out ?_)
        rw [HRE.out]
        exact bodyPost_ret (v := .tuple #[.slice A' r.length c', .int .i64 0, .int .i64 0]) (results_three rfl _ _ _ _ _ rfl rfl rfl) rfl ⟨hbw.trans hb4, A', c', rfl, HO4.out.reads⟩
end Go.Proofs.YtggonhciakfabaaDoor
