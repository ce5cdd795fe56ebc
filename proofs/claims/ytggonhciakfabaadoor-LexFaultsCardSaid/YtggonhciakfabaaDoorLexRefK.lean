/- The walk of the reference: a token, whichever. -/
import Derived.Test.YtggonhciakfabaaDoorLexRefT
import Derived.Test.YtggonhciakfabaaDoorLexRefN
namespace Go.Proofs.YtggonhciakfabaaDoor
open Go.RowKit

theorem TokAt.val {R : TR} {i : Nat} {w w' : World} {e : Ending} (h : TokAt R i w e w') : ∃ x u v, e = .returned (.tuple #[.agg (tkC x), u, v]) := by
  cases R
  · exact ⟨_, _, _, h.2⟩
  · exact ⟨_, _, _, h.2⟩
theorem tokL_word {c : UInt8} (r : List UInt8) (h : isL c = true) : tokL (c :: r) = wordR (c :: r) := by simp only [tokL]; rw [if_pos h]; rfl
theorem tokL_num {c : UInt8} (r : List UInt8) (h1 : isL c = false) (h : isD c = true) : tokL (c :: r) = numR (c :: r) := by simp only [tokL]; rw [if_neg (by simp [h1]), if_pos h]; rfl
theorem tokL_text {c : UInt8} (r : List UInt8) (h1 : isL c = false) (h2 : isD c = false) (h : c.toNat = 34) : tokL (c :: r) = textR (c :: r) := by
  simp only [tokL]
  rw [if_neg (by simp [h1]), if_neg (by simp [h2]), if_pos h]
  show _ = txR (txS r)
  cases txS r <;> rfl
theorem tokL_mark {c : UInt8} (r : List UInt8) (h1 : isL c = false) (h2 : isD c = false) (h3 : c.toNat ≠ 34) (h : isM c = true) : tokL (c :: r) = .tok 4 [c] 0 1 := by
  simp only [tokL]
  rw [if_neg (by simp [h1]), if_neg (by simp [h2]), if_neg h3, if_pos h]
theorem tokL_none {c : UInt8} (r : List UInt8) (h1 : isL c = false) (h2 : isD c = false) (h3 : c.toNat ≠ 34) (h : isM c = false) : tokL (c :: r) = .bad 0 80 := by
  simp only [tokL]
  rw [if_neg (by simp [h1]), if_neg (by simp [h2]), if_neg h3, if_neg (by simp [h])]

set_option maxRecDepth 100000 in
set_option maxHeartbeats 4000000 in
theorem rtoken_any (w : World) (s : ByteArray) (i : Nat) (hi : i < s.size) (hs : s.size ≤ 1048576) :
    Calls Tryd.prog 21 #[.string s, .int .i64 i] w (TokAt (tokL ((ls s).drop i)) i w) := by
  obtain ⟨R, hR⟩ : ∃ R, tokL ((ls s).drop i) = R := ⟨_, rfl⟩
  obtain ⟨c, hc⟩ : ∃ c, s[i]'hi = c := ⟨_, rfl⟩
  obtain ⟨l, hl⟩ : ∃ l, (ls s).drop i = l := ⟨_, rfl⟩
  obtain ⟨r, hr⟩ : ∃ r, (ls s).drop (i + 1) = r := ⟨_, rfl⟩
  have hdr := drop_at s hi
  rw [hc, hl, hr] at hdr
  rw [hR]
  rw [hl] at hR
  have hz := tkz w
  obtain ⟨W1, hW1⟩ : ∃ W1, w.alloc (.cells (tkC tk0) 32) = W1 := ⟨_, rfl⟩
  have cl := fun W => rletter_any W c
  have cd := fun W => rdigit_any W c
  have cm := fun W => rmark_any W c
  have hiz : (i : Int) < (s.size : Int) := by omega
  by_cases hL : isL c = true
  · have cw := rword_any (w.alloc (.cells (tkC tk0) 32)) s i (by omega) hs
    rw [hl, hdr, ← tokL_word r hL, ← hdr, hR] at cw
    simp only [hL] at cl
    clear hdr hR hl hr cd cm hL hW1
    go_enter Tryd.func21, Tryd.ntmps21
    go_wp2_with (first
      | (go_at_call 26; refine (cl _).mono ?_; rintro e w2 ⟨rfl, rfl⟩)
      | (go_at_call 32; refine cw.mono ?_; intro e w3 h3; obtain ⟨x, u, v, rfl⟩ := h3.val; have H3 := Lib.hid h3; clear h3; have hz3 := hz.below H3.out.1)
      | (refine wpList_store_tok rfl (.tmp 4) (.tmp 17) rfl w.heap.size tk0 x rfl rfl hz3 ?_; intro w9 h9 t9))
    exact bodyPost_ret (v := .tuple #[.agg (tkC x), u, v]) (results_tok rfl _ _ _ _ _ _ rfl rfl rfl h9) rfl ⟨((Below.refl _ w).alloc (Nat.le_refl _) _).trans ((H3.out.1.mono (by simp)).trans (t9.below (Nat.le_refl _))), H3.out.2⟩
  · have hLf : isL c = false := by simpa using hL
    simp only [hLf] at cl
    by_cases hD : isD c = true
    · have cw := rnumber_any (w.alloc (.cells (tkC tk0) 32)) s i (by omega) hs
      rw [hl, hdr, ← tokL_num r hLf hD, ← hdr, hR] at cw
      simp only [hD] at cd
      clear hdr hR hl hr cm hL hLf hD hW1
      go_enter Tryd.func21, Tryd.ntmps21
      go_wp2_with (first
        | (go_at_call 26; refine (cl _).mono ?_; rintro e w2 ⟨rfl, rfl⟩)
        | (go_at_call 27; refine (cd _).mono ?_; rintro e w2 ⟨rfl, rfl⟩)
        | (go_at_call 33; refine cw.mono ?_; intro e w3 h3; obtain ⟨x, u, v, rfl⟩ := h3.val; have H3 := Lib.hid h3; clear h3; have hz3 := hz.below H3.out.1)
        | (refine wpList_store_tok rfl (.tmp 4) (.tmp 26) rfl w.heap.size tk0 x rfl rfl hz3 ?_; intro w9 h9 t9))
      exact bodyPost_ret (v := .tuple #[.agg (tkC x), u, v]) (results_tok rfl _ _ _ _ _ _ rfl rfl rfl h9) rfl ⟨((Below.refl _ w).alloc (Nat.le_refl _) _).trans ((H3.out.1.mono (by simp)).trans (t9.below (Nat.le_refl _))), H3.out.2⟩
    · have hDf : isD c = false := by simpa using hD
      simp only [hDf] at cd
      by_cases q34 : c.toNat = 34
      · have cw := rtext_any (w.alloc (.cells (tkC tk0) 32)) s i hi hs
        rw [hl, hdr, ← tokL_text r hLf hDf q34, ← hdr, hR] at cw
        have z34 : ((c.toNat : Int) == 34) = true := by rw [q34]; rfl
        clear hdr hR hl hr cm hL hLf hD hDf hW1 q34
        go_enter Tryd.func21, Tryd.ntmps21
        go_wp2_with (first
          | (go_at_call 26; refine (cl _).mono ?_; rintro e w2 ⟨rfl, rfl⟩)
          | (go_at_call 27; refine (cd _).mono ?_; rintro e w2 ⟨rfl, rfl⟩)
          | (go_at_call 34; refine cw.mono ?_; intro e w3 h3; obtain ⟨x, u, v, rfl⟩ := h3.val; have H3 := Lib.hid h3; clear h3; have hz3 := hz.below H3.out.1)
          | (refine wpList_store_tok rfl (.tmp 4) (.tmp 35) rfl w.heap.size tk0 x rfl rfl hz3 ?_; intro w9 h9 t9))
        exact bodyPost_ret (v := .tuple #[.agg (tkC x), u, v]) (results_tok rfl _ _ _ _ _ _ rfl rfl rfl h9) rfl ⟨((Below.refl _ w).alloc (Nat.le_refl _) _).trans ((H3.out.1.mono (by simp)).trans (t9.below (Nat.le_refl _))), H3.out.2⟩
      · have z34 : ((c.toNat : Int) == 34) = false := beq_eq_false_iff_ne.2 (by omega)
        by_cases hM : isM c = true
        · have hRE : R = .tok 4 (ls (s.extract i (i + 1))) 0 1 := by
            rw [← hR, hdr, tokL_mark r hLf hDf q34 hM, ls_extract, hl, hdr, show i + 1 - i = 1 by omega]
            rfl
          have HRE := Lib.hid hRE
          simp only [hM] at cm
          clear hdr hR hl hr hL hLf hD hDf hW1 q34 hM hRE
          go_enter Tryd.func21, Tryd.ntmps21
          go_wp2_with (first
            | (go_at_call 26; refine (cl _).mono ?_; rintro e w2 ⟨rfl, rfl⟩)
            | (go_at_call 27; refine (cd _).mono ?_; rintro e w2 ⟨rfl, rfl⟩)
            | (go_at_call 35; refine (cm _).mono ?_; rintro e w2 ⟨rfl, rfl⟩)
            | (refine wpList_store_tok rfl (.tmp 4) (.tmp 49) rfl w.heap.size tk0 ⟨4, ls (s.extract i (i + 1)), 0, i, i + 1⟩ rfl rfl hz ?_; intro w9 h9 t9))
          rw [HRE.out]
          exact bodyPost_ret (v := .tuple #[.agg (tkC ⟨4, ls (s.extract i (i + 1)), 0, i, i + 1⟩), .int .i64 0, .int .i64 0]) (results_tok rfl _ _ _ _ _ _ rfl rfl rfl h9) rfl ⟨below_alloc t9, rfl⟩
        · have hMf : isM c = false := by simpa using hM
          have hRE : R = .bad 0 80 := by
            rw [← hR, hdr, tokL_none r hLf hDf q34 hMf]
          have HRE := Lib.hid hRE
          simp only [hMf] at cm
          clear hdr hR hl hr hL hLf hD hDf hW1 q34 hM hMf hRE
          go_enter Tryd.func21, Tryd.ntmps21
          go_wp2_with (first
            | (go_at_call 26; refine (cl _).mono ?_; rintro e w2 ⟨rfl, rfl⟩)
            | (go_at_call 27; refine (cd _).mono ?_; rintro e w2 ⟨rfl, rfl⟩)
            | (go_at_call 35; refine (cm _).mono ?_; rintro e w2 ⟨rfl, rfl⟩)
            | (refine wpList_store_tok rfl (.tmp 4) (.tmp 50) rfl w.heap.size tk0 tk0 rfl rfl hz ?_; intro w9 h9 t9))
          rw [HRE.out]
          exact bodyPost_ret (v := .tuple #[.agg (tkC tk0), .int .i64 ((i + 0 : Nat) : Int), .int .i64 ((80 : Nat) : Int)]) (results_tok rfl _ _ _ _ _ _ rfl rfl rfl h9) rfl ⟨below_alloc t9, rfl⟩
end Go.Proofs.YtggonhciakfabaaDoor
