/- The walks of the code: whether a text is a name, a name, a number. -/
import Derived.Test.YtggonhciakfabaaDoorLexCodeS
import Derived.Test.YtggonhciakfabaaDoorLexRefN
namespace Go.Proofs.YtggonhciakfabaaDoor
open Go.RowKit

theorem takeWhile_all (p : UInt8 → Bool) (l : List UInt8) : ((l.takeWhile p).length = l.length) ↔ l.all p = true := by
  induction l with
  | nil => simp
  | cons c r ih =>
    rw [List.takeWhile_cons]
    by_cases h : p c = true
    · rw [if_pos h]
      simp only [List.length_cons, List.all_cons, h, Bool.true_and]
      rw [← ih]
      omega
    · have hf : p c = false := by simpa using h
      rw [if_neg h]
      simp [hf]

set_option maxRecDepth 100000 in
set_option maxHeartbeats 2000000 in
theorem name_any (w : World) (s : ByteArray) (hs : s.size ≤ 9223372036854775806) : Calls Tryd.prog 14 #[.string s] w fun e w' => e = .returned (.bool (nameL (ls s))) ∧ Below w.heap.size w w' := by
  obtain ⟨b, hb⟩ : ∃ b, nameL (ls s) = b := ⟨_, rfl⟩
  rw [hb]
  by_cases h1 : s.size = 0
  · have hem : s = ⟨#[]⟩ := by
      cases s with | mk d => 
      congr 1
      exact Array.eq_empty_of_size_eq_zero h1
    subst hem
    obtain rfl : false = b := hb
    clear h1
    go_enter Tryd.func14, Tryd.ntmps14
    go_wp2
    go_ret; exact ⟨rfl, Below.refl _ _⟩
  · have h0 : 0 < s.size := by omega
    have h0z : (0 : Int) < (s.size : Int) := by omega
    have hemp : s.toList.isEmpty = false := by
      rw [← decide_eq_emptyBytes]
      exact decide_eq_false (fun h => h1 (by rw [h]; rfl))
    obtain ⟨c, hc⟩ : ∃ c, s[0]'h0 = c := ⟨_, rfl⟩
    have hl := drop_at s h0
    rw [List.drop_zero, hc] at hl
    have cl := fun W => letter_any W c
    have cn := fun W => nameEnd_any W s 0 (Nat.zero_le _) hs
    rw [List.drop_zero, Nat.zero_add] at cn
    have hcast : ((0 : Nat) : Int) = 0 := rfl
    simp only [hcast] at cn
    have hw := takeWhile_all isW (ls s)
    change wordN (ls s) = _ ↔ _ at hw
    rw [ls_size] at hw
    have hnl : nameL (ls s) = (decide ((ls s).length ≤ 64) && isL c && (ls s).all isW) := by rw [hl]; rfl
    rw [hb, ls_size] at hnl
    generalize wordN (ls s) = m at cn hw
    by_cases hL : isL c = true
    · simp only [hL] at cl
      rw [hL, Bool.and_true] at hnl
      by_cases hm : m = s.size
      · have ha := hw.1 hm
        rw [ha, Bool.and_true] at hnl
        subst hm
        have HB : Hid (b = decide (s.size ≤ 64)) := hnl
        clear hL hw ha hnl hb hl h1
        go_enter Tryd.func14, Tryd.ntmps14
        go_wp2_with (first
          | (go_at_call 24; refine (cl _).mono ?_; rintro e w2 ⟨rfl, rfl⟩)
          | (go_at_call 25; refine (cn _).mono ?_; rintro e w2 ⟨rfl, rfl⟩))
        go_ret
        refine ⟨ret_bool ?_, Below.refl _ _⟩
        rw [HB.out]
        simp
        try omega
      · have ha : (ls s).all isW = false := by
          cases h : (ls s).all isW with
          | false => rfl
          | true => exact absurd (hw.2 h) hm
        rw [ha, Bool.and_false] at hnl
        subst hnl
        have hmz : ((m : Int) == (s.size : Int)) = false := beq_eq_false_iff_ne.2 (by omega)
        clear hL hw ha hb hl h1 hm
        go_enter Tryd.func14, Tryd.ntmps14
        go_wp2_with (first
          | (go_at_call 24; refine (cl _).mono ?_; rintro e w2 ⟨rfl, rfl⟩)
          | (go_at_call 25; refine (cn _).mono ?_; rintro e w2 ⟨rfl, rfl⟩))
        go_ret; exact ⟨rfl, Below.refl _ _⟩
    · have hLf : isL c = false := by simpa using hL
      simp only [hLf] at cl
      rw [hLf, Bool.and_false, Bool.false_and] at hnl
      subst hnl
      clear hL hLf hw hb hl h1
      go_enter Tryd.func14, Tryd.ntmps14
      go_wp2_with (go_at_call 24; refine (cl _).mono ?_; rintro e w2 ⟨rfl, rfl⟩)
      go_ret; exact ⟨rfl, Below.refl _ _⟩

set_option maxRecDepth 100000 in
set_option maxHeartbeats 2000000 in
theorem word_any (w : World) (s : ByteArray) (i : Nat) (hi : i ≤ s.size) (hs : s.size ≤ 1048576) :
    Calls Tryd.prog 38 #[.string s, .int .i64 i] w (TokAt (wordR ((ls s).drop i)) i w) := by
  obtain ⟨R, hR⟩ : ∃ R, wordR ((ls s).drop i) = R := ⟨_, rfl⟩
  rw [hR]
  have hz := tkz w
  have cn := fun W => nameEnd_any W s i hi (by omega)
  have hwl := wordN_le ((ls s).drop i)
  rw [List.length_drop, ls_size] at hwl
  unfold wordR at hR
  obtain ⟨n, hn⟩ : ∃ n, wordN ((ls s).drop i) = n := ⟨_, rfl⟩
  rw [hn] at hR hwl
  simp only [hn] at cn
  obtain ⟨k, hk⟩ : ∃ k, i + n = k := ⟨_, rfl⟩
  simp only [hk] at cn
  have hik : (i : Int) ≤ (k : Int) := by omega
  have hks : (k : Int) ≤ (s.size : Int) := by omega
  by_cases h64 : 64 < n
  · rw [if_pos h64] at hR
    have hz64 : (64 : Int) < (k : Int) - (i : Int) := by omega
    subst hR
    clear hwl hn hk h64
    go_enter Tryd.func38, Tryd.ntmps38
    go_wp2_with (first
      | (go_at_call 25; refine (cn _).mono ?_; rintro e w2 ⟨rfl, rfl⟩)
      | (refine wpList_store_tok rfl (.tmp 4) (.tmp 15) rfl w.heap.size tk0 tk0 rfl rfl hz ?_; intro w9 h9 t9))
    exact bodyPost_ret (v := .tuple #[.agg (tkC tk0), .int .i64 ((i + 0 : Nat) : Int), .int .i64 ((111 : Nat) : Int)]) (results_tok rfl _ _ _ _ _ _ rfl rfl rfl h9) rfl ⟨below_alloc t9, rfl⟩
  · rw [if_neg h64] at hR
    have hz64 : ¬ (64 : Int) < (k : Int) - (i : Int) := by omega
    have hRE : R = .tok 1 (ls (s.extract i k)) 0 n := by rw [← hR, ls_extract, ← hk, show i + n - i = n by omega]
    have HRE := Lib.hid hRE
    have cc := fun W => clone_any W (s.extract i k) (by rw [ByteArray.size_extract]; omega)
    have HK := Lib.hid hk
    clear hwl hn hk h64 hR hRE
    go_enter Tryd.func38, Tryd.ntmps38
    go_wp2_with (first
      | (go_at_call 25; refine (cn _).mono ?_; rintro e w2 ⟨rfl, rfl⟩)
      | (go_at_call 42; refine (cc _).mono ?_; rintro e w3 ⟨rfl, hb3⟩; have hz3 := hz.below hb3)
      | (refine wpList_store_tok rfl (.tmp 4) (.tmp 24) rfl w.heap.size tk0 ⟨1, ls (s.extract i k), 0, i, k⟩ rfl rfl hz3 ?_; intro w9 h9 t9))
    rw [HRE.out]
    refine bodyPost_ret (v := .tuple #[.agg (tkC ⟨1, ls (s.extract i k), 0, i, k⟩), .int .i64 0, .int .i64 0]) (results_tok rfl _ _ _ _ _ _ rfl rfl rfl h9) rfl ⟨((Below.refl _ w).alloc (Nat.le_refl _) _).trans ((hb3.mono (by simp)).trans (t9.below (Nat.le_refl _))), ?_⟩
    show Ending.returned _ = Ending.returned _
    rw [HK.out]
end Go.Proofs.YtggonhciakfabaaDoor
