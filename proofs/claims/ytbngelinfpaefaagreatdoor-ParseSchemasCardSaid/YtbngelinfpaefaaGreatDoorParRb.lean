/- The walks of the reference: kinds of bytes, skip. -/
import Derived.Test.YtbngelinfpaefaaGreatDoorParGb
import Derived.Test.YtbngelinfpaefaaGreatDoorParGa
import Derived.Deep.RegionHeld3
namespace Go.Proofs.YtbngelinfpaefaaGreatDoor
open Go.RowKit

set_option maxRecDepth 100000 in
set_option maxHeartbeats 1000000 in
theorem rblank_any (w : World) (c : UInt8) : Calls Tryz.prog 76 #[.int .u8 (c.toNat : Nat)] w fun e w' => e = .returned (.bool (isBl c)) ∧ w = w' := by
  have hc := c.toNat_lt
  obtain ⟨b, hb⟩ : ∃ b, isBl c = b := ⟨_, rfl⟩
  obtain ⟨n, hn⟩ : ∃ n, c.toNat = n := ⟨_, rfl⟩
  have HB : Hid (b = true ↔ (n = 32 ∨ n = 9 ∨ n = 10 ∨ n = 13)) := by unfold Hid; rw [← hb, ← hn]; unfold isBl; exact decide_eq_true_iff
  rw [hb]
  rw [hn] at hc ⊢
  clear hb hn
  go_enter Tryz.func76, Tryz.ntmps76
  go_wp2
  all_goals
    go_ret
    refine ⟨ret_bool (Bool.eq_iff_iff.2 (Iff.trans ?_ HB.out.symm)), rfl⟩
    first | omega | (simp; done) | (simp; omega)

set_option maxRecDepth 100000 in
set_option maxHeartbeats 1000000 in
theorem rdigit_any (w : World) (c : UInt8) : Calls Tryz.prog 79 #[.int .u8 (c.toNat : Nat)] w fun e w' => e = .returned (.bool (isD c)) ∧ w = w' := by
  have hc := c.toNat_lt
  obtain ⟨b, hb⟩ : ∃ b, isD c = b := ⟨_, rfl⟩
  obtain ⟨n, hn⟩ : ∃ n, c.toNat = n := ⟨_, rfl⟩
  have HB : Hid (b = true ↔ (48 ≤ n ∧ n ≤ 57)) := by unfold Hid; rw [← hb, ← hn]; unfold isD; exact decide_eq_true_iff
  rw [hb]
  rw [hn] at hc ⊢
  clear hb hn
  go_enter Tryz.func79, Tryz.ntmps79
  go_wp2
  all_goals
    go_ret
    refine ⟨ret_bool (Bool.eq_iff_iff.2 (Iff.trans ?_ HB.out.symm)), rfl⟩
    first | omega | (simp; done) | (simp; omega)

set_option maxRecDepth 100000 in
set_option maxHeartbeats 1000000 in
theorem rletter_any (w : World) (c : UInt8) : Calls Tryz.prog 77 #[.int .u8 (c.toNat : Nat)] w fun e w' => e = .returned (.bool (isL c)) ∧ w = w' := by
  have hc := c.toNat_lt
  obtain ⟨b, hb⟩ : ∃ b, isL c = b := ⟨_, rfl⟩
  obtain ⟨n, hn⟩ : ∃ n, c.toNat = n := ⟨_, rfl⟩
  have HB : Hid (b = true ↔ (n = 95 ∨ (97 ≤ n ∧ n ≤ 122) ∨ (65 ≤ n ∧ n ≤ 90))) := by unfold Hid; rw [← hb, ← hn]; unfold isL; exact decide_eq_true_iff
  rw [hb]
  rw [hn] at hc ⊢
  clear hb hn
  go_enter Tryz.func77, Tryz.ntmps77
  go_wp2
  all_goals
    go_ret
    refine ⟨ret_bool (Bool.eq_iff_iff.2 (Iff.trans ?_ HB.out.symm)), rfl⟩
    first | omega | (simp; done) | (simp; omega)

set_option maxRecDepth 100000 in
set_option maxHeartbeats 1000000 in
theorem xmk_any (w : World) (c : UInt8) : Calls Tryz.prog 82 #[.int .u8 (c.toNat : Nat)] w fun e w' => e = .returned (.bool (isM c)) ∧ w = w' := by
  obtain ⟨b, hb⟩ : ∃ b, isM c = b := ⟨_, rfl⟩
  rw [hb]
  have HB := Lib.hid hb
  clear hb
  go_enter Tryz.func82, Tryz.ntmps82
  go_wp2
  go_loop [4] (fun v => ∃ k : Nat, v = .int .i64 k ∧ k ≤ 11 ∧ Hid (∀ j (h : j < 11), j < k → marks[j]'h ≠ c)) (fun v => 11 - (intOf v).toNat)
  case atStart => exact ⟨0, rfl, by omega, fun _ _ h => absurd h (Nat.not_lt_zero _)⟩
  case round =>
    obtain ⟨k, rfl, hk, HN⟩ := hrel
    by_cases hlt : k < 11
    · have hltz : (k : Int) < 11 := by omega
      have e1 := lit_marks k hlt
      obtain ⟨d, hd⟩ : ∃ d, marks[k]'hlt = d := ⟨_, rfl⟩
      rw [hd] at e1
      by_cases hc : d = c
      · subst hc
        have HE : Hid (b = true) := HB.out.symm.trans ((isM_mem d).2 (by rw [← hd]; exact List.getElem_mem _))
        go_wp2
        go_ret
        exact ⟨ret_bool HE.out.symm, rfl⟩
      · have hne : ((d.toNat : Int) == (c.toNat : Int)) = false := beq_eq_false_iff_ne.2 fun e => hc (UInt8.toNat_inj.1 (by omega))
        have HN2 : Hid (∀ j (h : j < 11), j < k + 1 → marks[j]'h ≠ c) := fun j h hj => by
          rcases Nat.lt_or_eq_of_le (Nat.le_of_lt_succ hj) with q | q
          · exact HN.out j h q
          · subst q; rw [hd]; exact hc
        clear hc hd
        go_wp2
        go_round
        case rel => exact ⟨k + 1, by go_num, by omega, HN2⟩
        case measure => simp [intOf]; omega
    · have HE : Hid (b = false) := HB.out.symm.trans (by
        cases hm : isM c with
        | false => rfl
        | true =>
          obtain ⟨j, hj, e⟩ := List.getElem_of_mem ((isM_mem c).1 hm)
          exact absurd e (HN.out j hj (by have : j < 11 := hj; omega)))
      go_wp2
      go_ret
      exact ⟨ret_bool HE.out.symm, rfl⟩

set_option maxRecDepth 100000 in
set_option maxHeartbeats 2000000 in
theorem rskip_any (w : World) (s : ByteArray) (i : Nat) (hi : i ≤ s.size) (hs : s.size ≤ 140737488355328) :
    Calls Tryz.prog 44 #[.string s, .int .i64 i] w fun e w' => e = .returned (.int .i64 ((i + skipS false ((ls s).drop i) : Nat) : Int)) ∧ w = w' := by
  obtain ⟨X, hX⟩ : ∃ X, i + skipS false ((ls s).drop i) = X := ⟨_, rfl⟩
  rw [hX]
  have HX := Lib.hid hX
  clear hX
  go_enter Tryz.func44, Tryz.ntmps44
  go_wp2
  go_loopw [1] (fun v wr => ∃ k : Nat, v = .int .i64 k ∧ k ≤ s.size ∧ Hid (k + skipS false ((ls s).drop k) = X) ∧ w = wr) (fun v _ => s.size - (intOf v).toNat)
  case atStart => exact ⟨i, rfl, hi, HX, rfl⟩
  case round =>
    obtain ⟨k, rfl, hk, HK, rfl⟩ := hrel
    by_cases hlt : k < s.size
    · have hltz : (k : Int) < (s.size : Int) := by omega
      obtain ⟨c, hc⟩ : ∃ c, s[k]'hlt = c := ⟨_, rfl⟩
      have hdr := drop_at s hlt
      rw [hc] at hdr
      have cb := fun W => rblank_any W c
      have hk2 := HK.out
      rw [hdr, skip_cons, if_neg (by simp)] at hk2
      by_cases hb : isBl c = true
      · rw [if_pos hb] at hk2
        simp only [hb] at cb
        have HK2 : Hid (k + 1 + skipS false ((ls s).drop (k + 1)) = X) := by unfold Hid; omega
        clear hk2 hdr hb
        go_wp2_with (go_at_call 76; refine (cb _).mono ?_; rintro e w2 ⟨rfl, rfl⟩)
        go_roundw
        case rel => exact ⟨k + 1, by go_num, by omega, HK2, trivial⟩
        case measure => simp [intOf]; omega
      · rw [if_neg hb] at hk2
        have hbf : isBl c = false := by simpa using hb
        simp only [hbf] at cb
        by_cases h35 : c.toNat = 35
        · rw [if_pos h35] at hk2
          have h35z : ((c.toNat : Int) == 35) = true := by rw [h35]; rfl
          have HK2 : Hid (k + skipS true ((ls s).drop k) = X) := by
            unfold Hid
            rw [hdr, skip_cons, if_pos ⟨rfl, by omega⟩]
            exact hk2
          have HC : Hid (s[k]'hlt = c ∧ c.toNat = 35) := ⟨hc, h35⟩
          clear hk2 hdr hb hbf h35
          go_wp2_with (go_at_call 76; refine (cb _).mono ?_; rintro e w2 ⟨rfl, rfl⟩)
          clear h35z hc cb
          go_loopw [1] (fun v wr => ∃ m : Nat, v = .int .i64 m ∧ k ≤ m ∧ m ≤ s.size ∧ Hid (m + skipS true ((ls s).drop m) = X) ∧ w = wr) (fun v _ => s.size - (intOf v).toNat)
          case atStart => exact ⟨k, rfl, Nat.le_refl _, hk, HK2, rfl⟩
          case round =>
            obtain ⟨m, rfl, hkm, hm, HM, rfl⟩ := hrel
            by_cases hml : m < s.size
            · have hmlz : (m : Int) < (s.size : Int) := by omega
              obtain ⟨d, hd⟩ : ∃ d, s[m]'hml = d := ⟨_, rfl⟩
              have hdr := drop_at s hml
              rw [hd] at hdr
              have hm2 := HM.out
              rw [hdr, skip_cons] at hm2
              by_cases hd10 : d.toNat = 10
              · rw [if_neg (by simp [hd10]), if_pos (by unfold isBl; rw [hd10]; rfl)] at hm2
                have HK3 : Hid (m + skipS false ((ls s).drop m) = X) := by
                  unfold Hid
                  rw [hdr, skip_cons, if_neg (by simp), if_pos (by unfold isBl; rw [hd10]; rfl)]
                  exact hm2
                have hlt2 : k < m := by
                  rcases Nat.lt_or_eq_of_le hkm with g | g
                  · exact g
                  · subst g
                    have := HC.out
                    rw [hd] at this
                    have h1 := this.2
                    rw [← this.1] at h1
                    omega
                have hdz : ((d.toNat : Int) != 10) = false := by simp [hd10]
                clear hm2 hdr hd10
                go_wp2
                go_roundw
                case rel => exact ⟨m, rfl, hm, HK3, trivial⟩
                case measure => simp [intOf]; omega
              · rw [if_pos ⟨rfl, hd10⟩] at hm2
                have HM2 : Hid (m + 1 + skipS true ((ls s).drop (m + 1)) = X) := by unfold Hid; omega
                have hdz : ((d.toNat : Int) != 10) = true := by simp; omega
                clear hm2 hdr hd10
                go_wp2
                go_roundw
                case rel => exact ⟨m + 1, by go_num, by omega, by omega, HM2, trivial⟩
                case measure => simp [intOf]; omega
            · obtain rfl : m = s.size := by omega
              have HK3 : Hid (s.size + skipS false ((ls s).drop s.size) = X) := by
                have := HM.out
                rw [drop_end s (Nat.le_refl _)] at this ⊢
                exact this
              go_wp2
              go_roundw
              case rel => exact ⟨s.size, rfl, Nat.le_refl _, HK3, trivial⟩
              case measure => simp [intOf]; omega
        · rw [if_neg h35] at hk2
          have h35z : ((c.toNat : Int) == 35) = false := beq_eq_false_iff_ne.2 (by omega)
          obtain rfl : k = X := by omega
          clear hk2 hdr hb hbf h35
          go_wp2_with (go_at_call 76; refine (cb _).mono ?_; rintro e w2 ⟨rfl, rfl⟩)
          go_ret
          exact ⟨rfl, rfl⟩
    · have HE : Hid (X = k) := by
        have := HK.out
        rw [drop_end s (by omega)] at this
        exact this.symm
      go_wp2
      go_ret
      exact ⟨ret_int (by rw [HE.out]), rfl⟩
end Go.Proofs.YtbngelinfpaefaaGreatDoor
/- The walks of the reference: a name, a number. -/
namespace Go.Proofs.YtbngelinfpaefaaGreatDoor
open Go.RowKit

set_option maxRecDepth 100000 in
set_option maxHeartbeats 2000000 in
theorem xwd_any (w : World) (s : ByteArray) (i : Nat) (hi : i ≤ s.size) (hs : s.size ≤ 1048576) :
    Calls Tryz.prog 78 #[.string s, .int .i64 i] w (TokAt (wordR ((ls s).drop i)) i w) := by
  obtain ⟨X, hX⟩ : ∃ X, wordN ((ls s).drop i) = X := ⟨_, rfl⟩
  obtain ⟨R, hR⟩ : ∃ R, wordR ((ls s).drop i) = R := ⟨_, rfl⟩
  rw [hR]
  have HX := Lib.hid hX
  have HR := Lib.hid hR
  have hz := tkz w
  clear hX hR
  go_enter Tryz.func78, Tryz.ntmps78
  go_wp2
  go_loopw [7] (fun v wr => ∃ k : Nat, v = .int .i64 k ∧ i ≤ k ∧ k ≤ s.size ∧ Hid ((k - i) + wordN ((ls s).drop k) = X) ∧ w.alloc (.cells (tkC tk0) 78) = wr) (fun v _ => s.size - (intOf v).toNat)
  case atStart => exact ⟨i, rfl, Nat.le_refl _, hi, by unfold Hid; rw [HX.out]; omega, rfl⟩
  case round =>
    obtain ⟨k, rfl, hik, hk, HK, rfl⟩ := hrel
    by_cases hlt : k < s.size
    · have hltz : (k : Int) < (s.size : Int) := by omega
      obtain ⟨c, hc⟩ : ∃ c, s[k]'hlt = c := ⟨_, rfl⟩
      have hdr := drop_at s hlt
      rw [hc] at hdr
      have cl := fun W => rletter_any W c
      have cd := fun W => rdigit_any W c
      have hk2 := HK.out
      rw [hdr, wordN_cons] at hk2
      by_cases hW : isW c = true
      · rw [if_pos hW] at hk2
        have HK2 : Hid ((k + 1 - i) + wordN ((ls s).drop (k + 1)) = X) := by unfold Hid; omega
        clear hk2 hdr
        by_cases hL : isL c = true
        · simp only [hL] at cl
          clear hL hW
          go_wp2_with (first
            | (go_at_call 77; refine (cl _).mono ?_; rintro e w2 ⟨rfl, rfl⟩)
            | (go_at_call 79; refine (cd _).mono ?_; rintro e w2 ⟨rfl, rfl⟩))
          go_roundw
          case rel => exact ⟨k + 1, by go_num, by omega, by omega, HK2, trivial⟩
          case measure => simp [intOf]; omega
        · have hLf : isL c = false := by simpa using hL
          have hD : isD c = true := by unfold isW at hW; rw [hLf, Bool.false_or] at hW; exact hW
          simp only [hLf] at cl
          simp only [hD] at cd
          clear hL hLf hD hW
          go_wp2_with (first
            | (go_at_call 77; refine (cl _).mono ?_; rintro e w2 ⟨rfl, rfl⟩)
            | (go_at_call 79; refine (cd _).mono ?_; rintro e w2 ⟨rfl, rfl⟩))
          go_roundw
          case rel => exact ⟨k + 1, by go_num, by omega, by omega, HK2, trivial⟩
          case measure => simp [intOf]; omega
      · rw [if_neg hW] at hk2
        have hWf : isL c = false ∧ isD c = false := by unfold isW at hW; simpa using hW
        simp only [hWf.1] at cl
        simp only [hWf.2] at cd
        have HE : Hid (X = k - i) := by unfold Hid; omega
        clear hdr hW hWf hk2
        by_cases h64 : 64 < k - i
        · have hz64 : (64 : Int) < (k : Int) - (i : Int) := by omega
          have HRE : Hid (R = .bad 0 111) := by unfold Hid; rw [← HR.out]; unfold wordR; rw [HX.out, HE.out, if_pos h64]
          go_wp2_with (first
            | (go_at_call 77; refine (cl _).mono ?_; rintro e w2 ⟨rfl, rfl⟩)
            | (go_at_call 79; refine (cd _).mono ?_; rintro e w2 ⟨rfl, rfl⟩)
            | (refine wpList_store_tok rfl (.tmp 4) (.tmp 31) rfl w.heap.size tk0 tk0 rfl rfl hz ?_; intro w9 h9 t9))
          rw [HRE.out]
          exact bodyPost_ret (v := .tuple #[.agg (tkC tk0), .int .i64 ((i + 0 : Nat) : Int), .int .i64 ((111 : Nat) : Int)]) (results_tok rfl _ _ _ _ _ _ rfl rfl rfl h9) rfl ⟨below_alloc t9, rfl⟩
        · have hz64 : ¬ (64 : Int) < (k : Int) - (i : Int) := by omega
          have hle : (i : Int) ≤ (k : Int) := by omega
          have HRE : Hid (R = .tok 1 (ls (s.extract i k)) 0 (k - i)) := by
            unfold Hid
            rw [← HR.out]
            unfold wordR
            rw [HX.out, HE.out, if_neg h64, ls_extract]
          go_wp2_with (first
            | (go_at_call 77; refine (cl _).mono ?_; rintro e w2 ⟨rfl, rfl⟩)
            | (go_at_call 79; refine (cd _).mono ?_; rintro e w2 ⟨rfl, rfl⟩)
            | (refine wpList_store_tok rfl (.tmp 4) (.tmp 39) rfl w.heap.size tk0 ⟨1, ls (s.extract i k), 0, i, k⟩ rfl rfl hz ?_; intro w9 h9 t9))
          rw [HRE.out]
          refine bodyPost_ret (v := .tuple #[.agg (tkC ⟨1, ls (s.extract i k), 0, i, k⟩), .int .i64 0, .int .i64 0]) (results_tok rfl _ _ _ _ _ _ rfl rfl rfl h9) rfl ⟨below_alloc t9, ?_⟩
          show Ending.returned _ = Ending.returned _
          rw [show i + (k - i) = k by omega]
    · obtain rfl : k = s.size := by omega
      have hk2 := HK.out
      rw [drop_end s (Nat.le_refl _)] at hk2
      have HE : Hid (X = s.size - i) := hk2.symm
      clear hk2
      by_cases h64 : 64 < s.size - i
      · have hz64 : (64 : Int) < (s.size : Int) - (i : Int) := by omega
        have HRE : Hid (R = .bad 0 111) := by unfold Hid; rw [← HR.out]; unfold wordR; rw [HX.out, HE.out, if_pos h64]
        go_wp2_with (refine wpList_store_tok rfl (.tmp 4) (.tmp 31) rfl w.heap.size tk0 tk0 rfl rfl hz ?_; intro w9 h9 t9)
        rw [HRE.out]
        exact bodyPost_ret (v := .tuple #[.agg (tkC tk0), .int .i64 ((i + 0 : Nat) : Int), .int .i64 ((111 : Nat) : Int)]) (results_tok rfl _ _ _ _ _ _ rfl rfl rfl h9) rfl ⟨below_alloc t9, rfl⟩
      · have hz64 : ¬ (64 : Int) < (s.size : Int) - (i : Int) := by omega
        have hle : (i : Int) ≤ (s.size : Int) := by omega
        have HRE : Hid (R = .tok 1 (ls (s.extract i s.size)) 0 (s.size - i)) := by
          unfold Hid
          rw [← HR.out]
          unfold wordR
          rw [HX.out, HE.out, if_neg h64, ls_extract]
        go_wp2_with (refine wpList_store_tok rfl (.tmp 4) (.tmp 39) rfl w.heap.size tk0 ⟨1, ls (s.extract i s.size), 0, i, s.size⟩ rfl rfl hz ?_; intro w9 h9 t9)
        rw [HRE.out]
        refine bodyPost_ret (v := .tuple #[.agg (tkC ⟨1, ls (s.extract i s.size), 0, i, s.size⟩), .int .i64 0, .int .i64 0]) (results_tok rfl _ _ _ _ _ _ rfl rfl rfl h9) rfl ⟨below_alloc t9, ?_⟩
        show Ending.returned _ = Ending.returned _
        rw [show i + (s.size - i) = s.size by omega]
end Go.Proofs.YtbngelinfpaefaaGreatDoor
/- The walk of the reference: a number. -/
namespace Go.Proofs.YtbngelinfpaefaaGreatDoor
open Go.RowKit

set_option maxRecDepth 100000 in
set_option maxHeartbeats 4000000 in
theorem rnumber_any (w : World) (s : ByteArray) (i : Nat) (hi : i ≤ s.size) (hs : s.size ≤ 1048576) :
    Calls Tryz.prog 80 #[.string s, .int .i64 i] w (TokAt (numR ((ls s).drop i)) i w) := by
  obtain ⟨X, hX⟩ : ∃ X, numN ((ls s).drop i) = X := ⟨_, rfl⟩
  obtain ⟨R, hR⟩ : ∃ R, numR ((ls s).drop i) = R := ⟨_, rfl⟩
  rw [hR]
  have HX := Lib.hid hX
  have HR := Lib.hid hR
  have hz := tkz w
  clear hX hR
  go_enter Tryz.func80, Tryz.ntmps80
  go_wp2
  go_loopw [7, 8, 9] (fun v x8 v9 wr => ∃ (k : Nat) (x : Int) (hb : Bool), v = .int .i64 k ∧ x8 = .int .u64 x ∧ v9 = .bool hb ∧ i ≤ k ∧ k ≤ s.size ∧ 0 ≤ x ∧ x ≤ 18446744073709551615 ∧ Hid (NumInv (numV (((ls s).drop i).take (k - i))) x hb) ∧ Hid ((k - i) + numN ((ls s).drop k) = X) ∧ w.alloc (.cells (tkC tk0) 78) = wr) (fun v _ _ _ => s.size - (intOf v).toNat)
  case atStart => exact ⟨i, 0, false, rfl, rfl, rfl, Nat.le_refl _, hi, by omega, by omega, by unfold Hid; rw [Nat.sub_self, List.take_zero]; exact inv_start, by unfold Hid; rw [HX.out]; omega, rfl⟩
  case round =>
    obtain ⟨k, x, hb, rfl, rfl, rfl, hik, hk, hx0, hx9, HI, HK, rfl⟩ := hrel
    by_cases hend : k < s.size ∧ ∃ c, (ls s)[k]? = some c ∧ isD c = true
    · obtain ⟨hlt, c, hc', hD⟩ := hend
      have hltz : (k : Int) < (s.size : Int) := by omega
      have hc : s[k]'hlt = c := by
        rw [List.getElem?_eq_getElem (by rw [ls_size]; exact hlt)] at hc'
        exact Option.some.inj hc'
      have hdr := drop_at s hlt
      rw [hc] at hdr
      have cd := fun W => rdigit_any W c
      have hk2 := HK.out
      rw [hdr, numN_cons, if_pos hD] at hk2
      have HK2 : Hid ((k + 1 - i) + numN ((ls s).drop (k + 1)) = X) := by unfold Hid; omega
      have hpre : ((ls s).drop i).take (k + 1 - i) = ((ls s).drop i).take (k - i) ++ [c] := by
        rw [show k + 1 - i = (k - i) + 1 by omega, List.take_succ_eq_append_getElem (by rw [List.length_drop, ls_size]; omega), List.getElem_drop]
        congr 2
        rw [← hc]
        show (ls s)[i + (k - i)]'_ = (ls s)[k]'_
        congr 1
        omega
      have hcd : 48 ≤ c.toNat ∧ c.toNat ≤ 57 := by unfold isD at hD; exact of_decide_eq_true hD
      simp only [hD] at cd
      obtain ⟨d, hd⟩ : ∃ d : Nat, c.toNat - 48 = d := ⟨_, rfl⟩
      have hdz : (c.toNat : Int) - 48 = (d : Int) := by omega
      have hd9 : d ≤ 9 := by omega
      have hd0 : (0 : Int) ≤ (d : Int) := by omega
      have hd99 : (d : Int) ≤ 9 := by omega
      have HP : ∀ (y : Int) (b : Bool), NumInv (numV (((ls s).drop i).take (k - i)) * 10 + d) y b → Hid (NumInv (numV (((ls s).drop i).take (k + 1 - i))) y b) := fun y b h => by
        unfold Hid
        rw [hpre, numV_snoc, hd]
        exact h
      have HP' := Lib.hid HP
      clear hk2 hdr hpre hD hcd hd HP hc'
      by_cases hbig : 1844674407370955161 < x
      · have HH := fun y => HP'.out y true (inv_high (y := y) HI.out (.inl hbig))
        obtain ⟨y, hy, y0, y9⟩ := wrap_nat (x * 10)
        obtain ⟨u, hu, u0, u9⟩ := wrap_nat (y + (d : Int))
        go_wp2_with (go_at_call 79; refine (cd _).mono ?_; rintro e w2 ⟨rfl, rfl⟩)
        go_roundw
        case rel => exact ⟨k + 1, u, true, by go_num, rfl, rfl, by omega, by omega, u0, u9, HH u, HK2, trivial⟩
        case measure => simp [intOf]; omega
      · by_cases hbig2 : 18446744073709551615 - (d : Int) < x * 10
        · have HH := fun y => HP'.out y true (inv_high (y := y) HI.out (.inr hbig2))
          obtain ⟨u, hu, u0, u9⟩ := wrap_nat (x * 10 + (d : Int))
          go_wp2_with (go_at_call 79; refine (cd _).mono ?_; rintro e w2 ⟨rfl, rfl⟩)
          go_roundw
          case rel => exact ⟨k + 1, u, true, by go_num, rfl, rfl, by omega, by omega, u0, u9, HH u, HK2, trivial⟩
          case measure => simp [intOf]; omega
        · have HH := HP'.out _ hb (inv_low HI.out hbig2)
          go_wp2_with (go_at_call 79; refine (cd _).mono ?_; rintro e w2 ⟨rfl, rfl⟩)
          go_roundw
          case rel => exact ⟨k + 1, x * 10 + (d : Int), hb, by go_num, rfl, rfl, by omega, by omega, by omega, by omega, HH, HK2, trivial⟩
          case measure => simp [intOf]; omega
    · have HE : Hid (X = k - i) := by
        unfold Hid
        have hk2 := HK.out
        by_cases hlt : k < s.size
        · rw [drop_at s hlt, numN_cons, if_neg (fun hD => hend ⟨hlt, s[k], by rw [List.getElem?_eq_getElem (by rw [ls_size]; exact hlt)]; rfl, hD⟩)] at hk2
          omega
        · rw [drop_end s (by omega)] at hk2
          have : numN [] = 0 := rfl
          omega
      have HPX : Hid (numV (((ls s).drop i).take (numN ((ls s).drop i))) = numV (((ls s).drop i).take (k - i))) := by unfold Hid; rw [HX.out, HE.out]
      by_cases hlt : k < s.size
      · have hltz : (k : Int) < (s.size : Int) := by omega
        obtain ⟨c, hc⟩ : ∃ c, s[k]'hlt = c := ⟨_, rfl⟩
        have cd := fun W => rdigit_any W c
        have hDf : isD c = false := by
          cases hq : isD c with
          | false => rfl
          | true => exact absurd ⟨hlt, c, by rw [List.getElem?_eq_getElem (by rw [ls_size]; exact hlt)]; exact congrArg some hc, hq⟩ hend
        simp only [hDf] at cd
        clear hDf hend
        have h6 := HI.out
        cases hb with
        | true =>
          have HRE : Hid (R = .bad 0 111) := by unfold Hid; rw [← HR.out]; unfold numR; rw [HPX.out, if_pos (h6.2 rfl)]
          clear h6
          go_wp2_with (first
                    | (go_at_call 79; refine (cd _).mono ?_; rintro e w2 ⟨rfl, rfl⟩)
                    | (refine wpList_store_tok rfl (.tmp 4) (.tmp 43) rfl w.heap.size tk0 tk0 rfl rfl hz ?_; intro w9 h9 t9))
          rw [HRE.out]
          exact bodyPost_ret (v := .tuple #[.agg (tkC tk0), .int .i64 ((i + 0 : Nat) : Int), .int .i64 ((111 : Nat) : Int)]) (results_tok rfl _ _ _ _ _ _ rfl rfl rfl h9) rfl ⟨below_alloc t9, rfl⟩
        | false =>
          obtain ⟨hxe, hP9⟩ := h6.1 rfl
          obtain ⟨P, hP⟩ : ∃ P, numV (((ls s).drop i).take (k - i)) = P := ⟨_, rfl⟩
          rw [hP] at hxe hP9
          have HRE : Hid (R = .tok 2 [] P (k - i)) := by unfold Hid; rw [← HR.out]; unfold numR; rw [HPX.out, hP, if_neg (by omega), HX.out, HE.out]
          subst hxe
          clear h6 hP hP9
          go_wp2_with (first
                    | (go_at_call 79; refine (cd _).mono ?_; rintro e w2 ⟨rfl, rfl⟩)
                    | (refine wpList_store_tok rfl (.tmp 4) (.tmp 48) rfl w.heap.size tk0 ⟨2, [], P, i, k⟩ rfl rfl hz ?_; intro w9 h9 t9))
          rw [HRE.out]
          refine bodyPost_ret (v := .tuple #[.agg (tkC ⟨2, [], P, i, k⟩), .int .i64 0, .int .i64 0]) (results_tok rfl _ _ _ _ _ _ rfl rfl rfl h9) rfl ⟨below_alloc t9, ?_⟩
          show Ending.returned _ = Ending.returned _
          rw [show i + (k - i) = k by omega]
      · have hltz : ¬ (k : Int) < (s.size : Int) := by omega
        clear hend
        have h6 := HI.out
        cases hb with
        | true =>
          have HRE : Hid (R = .bad 0 111) := by unfold Hid; rw [← HR.out]; unfold numR; rw [HPX.out, if_pos (h6.2 rfl)]
          clear h6
          go_wp2_with (refine wpList_store_tok rfl (.tmp 4) (.tmp 43) rfl w.heap.size tk0 tk0 rfl rfl hz ?_; intro w9 h9 t9)
          rw [HRE.out]
          exact bodyPost_ret (v := .tuple #[.agg (tkC tk0), .int .i64 ((i + 0 : Nat) : Int), .int .i64 ((111 : Nat) : Int)]) (results_tok rfl _ _ _ _ _ _ rfl rfl rfl h9) rfl ⟨below_alloc t9, rfl⟩
        | false =>
          obtain ⟨hxe, hP9⟩ := h6.1 rfl
          obtain ⟨P, hP⟩ : ∃ P, numV (((ls s).drop i).take (k - i)) = P := ⟨_, rfl⟩
          rw [hP] at hxe hP9
          have HRE : Hid (R = .tok 2 [] P (k - i)) := by unfold Hid; rw [← HR.out]; unfold numR; rw [HPX.out, hP, if_neg (by omega), HX.out, HE.out]
          subst hxe
          clear h6 hP hP9
          go_wp2_with (refine wpList_store_tok rfl (.tmp 4) (.tmp 48) rfl w.heap.size tk0 ⟨2, [], P, i, k⟩ rfl rfl hz ?_; intro w9 h9 t9)
          rw [HRE.out]
          refine bodyPost_ret (v := .tuple #[.agg (tkC ⟨2, [], P, i, k⟩), .int .i64 0, .int .i64 0]) (results_tok rfl _ _ _ _ _ _ rfl rfl rfl h9) rfl ⟨below_alloc t9, ?_⟩
          show Ending.returned _ = Ending.returned _
          rw [show i + (k - i) = k by omega]
end Go.Proofs.YtbngelinfpaefaaGreatDoor
/- The walks of the reference: a digit of base 16, an escape. -/
namespace Go.Proofs.YtbngelinfpaefaaGreatDoor
open Go.RowKit

set_option maxRecDepth 100000 in
set_option maxHeartbeats 1000000 in
theorem rhex_any (w : World) (c : UInt8) : Calls Tryz.prog 136 #[.int .u8 (c.toNat : Nat)] w fun e w' => e = .returned (.int .i64 (hxI c)) ∧ w = w' := by
  have cd := fun W => rdigit_any W c
  have hc := c.toNat_lt
  obtain ⟨V, hV⟩ : ∃ V, hxI c = V := ⟨_, rfl⟩
  rw [hV]
  unfold hxI at hV
  by_cases h1 : 48 ≤ c.toNat ∧ c.toNat ≤ 57
  · have hD : isD c = true := decide_eq_true h1
    simp only [hD] at cd
    rw [dv_num h1, if_neg (by omega)] at hV
    obtain ⟨n, hn⟩ : ∃ n, c.toNat = n := ⟨_, rfl⟩
    rw [hn] at h1 hV hc
    simp only [hn] at cd
    rw [hn]
    have HV := Lib.hid hV
    obtain ⟨a, b⟩ := h1
    clear hV hD hn
    go_enter Tryz.func136, Tryz.ntmps136
    go_wp2_with (go_at_call 79; refine (cd _).mono ?_; rintro e w2 ⟨rfl, rfl⟩)
    go_ret
    exact ⟨ret_int (by rw [← HV.out]; omega), rfl⟩
  · have hD : isD c = false := decide_eq_false h1
    simp only [hD] at cd
    by_cases h2 : 97 ≤ c.toNat ∧ c.toNat ≤ 102
    · rw [dv_low h2, if_neg (by omega)] at hV
      obtain ⟨n, hn⟩ : ∃ n, c.toNat = n := ⟨_, rfl⟩
      rw [hn] at h2 hV hc
      simp only [hn] at cd
      rw [hn]
      have HV := Lib.hid hV
      obtain ⟨a, b⟩ := h2
      clear hV hD hn h1
      go_enter Tryz.func136, Tryz.ntmps136
      go_wp2_with (go_at_call 79; refine (cd _).mono ?_; rintro e w2 ⟨rfl, rfl⟩)
      go_ret
      exact ⟨ret_int (by rw [← HV.out]; omega), rfl⟩
    · by_cases h3 : 65 ≤ c.toNat ∧ c.toNat ≤ 70
      · rw [dv_upp h3, if_neg (by omega)] at hV
        obtain ⟨n, hn⟩ : ∃ n, c.toNat = n := ⟨_, rfl⟩
        rw [hn] at h3 hV hc
        simp only [hn] at cd
        rw [hn]
        have HV := Lib.hid hV
        obtain ⟨a, b⟩ := h3
        have n2 : ¬ (97 : Int) ≤ n := by omega
        clear hV hD hn h1 h2
        go_enter Tryz.func136, Tryz.ntmps136
        go_wp2_with (go_at_call 79; refine (cd _).mono ?_; rintro e w2 ⟨rfl, rfl⟩)
        go_ret
        exact ⟨ret_int (by rw [← HV.out]; omega), rfl⟩
      · rw [dv_no h1 h2 h3, if_pos rfl] at hV
        obtain ⟨n, hn⟩ : ∃ n, c.toNat = n := ⟨_, rfl⟩
        rw [hn] at h1 h2 h3 hc
        simp only [hn] at cd
        rw [hn]
        subst hV
        clear hD hn h1
        go_enter Tryz.func136, Tryz.ntmps136
        go_wp2_with (go_at_call 79; refine (cd _).mono ?_; rintro e w2 ⟨rfl, rfl⟩)
        all_goals first
          | (go_ret; exact ⟨rfl, rfl⟩)
          | (exfalso; omega)

set_option maxRecDepth 100000 in
set_option maxHeartbeats 4000000 in
theorem rescape_any (w : World) (s : ByteArray) (i : Nat) (hi : i < s.size) (hs : s.size ≤ 1048576) :
    Calls Tryz.prog 120 #[.string s, .int .i64 i] w fun e w' => e = .returned (.tuple #[.int .u8 ((esN (escX ((ls s).drop (i + 1)))).1 : Nat), .int .i64 ((esN (escX ((ls s).drop (i + 1)))).2 : Nat)]) ∧ Below w.heap.size w w' := by
  obtain ⟨E, hE⟩ : ∃ E, escX ((ls s).drop (i + 1)) = E := ⟨_, rfl⟩
  rw [hE]
  by_cases h1 : i + 1 < s.size
  · have hz1 : (i : Int) + 1 < (s.size : Int) := by omega
    obtain ⟨d, hd⟩ : ∃ d, s[i + 1]'h1 = d := ⟨_, rfl⟩
    have hdr := drop_at s h1
    rw [hd] at hdr
    rw [hdr] at hE
    change escD d _ = E at hE
    unfold escD at hE
    have hd8 := d.toNat_lt
    by_cases q1 : d.toNat = 92 ∨ d.toNat = 34
    · rw [if_pos q1] at hE
      subst hE
      clear hdr
      rcases q1 with q | q
      · have qz : ((d.toNat : Int) == 92) = true := by rw [q]; rfl
        clear q
        go_enter Tryz.func120, Tryz.ntmps120
        go_wp2
        go_ret2
        exact ⟨rfl, Below.refl _ _⟩
      · have qz : ((d.toNat : Int) == 34) = true := by rw [q]; rfl
        have qn : ((d.toNat : Int) == 92) = false := by rw [q]; rfl
        clear q
        go_enter Tryz.func120, Tryz.ntmps120
        go_wp2
        go_ret2
        exact ⟨rfl, Below.refl _ _⟩
    · rw [if_neg q1] at hE
      have n1 : ((d.toNat : Int) == 92) = false := beq_eq_false_iff_ne.2 (by omega)
      have n2 : ((d.toNat : Int) == 34) = false := beq_eq_false_iff_ne.2 (by omega)
      by_cases q2 : d.toNat = 110
      · rw [if_pos q2] at hE
        subst hE
        have qz : ((d.toNat : Int) == 110) = true := by rw [q2]; rfl
        clear hdr q1 q2
        go_enter Tryz.func120, Tryz.ntmps120
        go_wp2
        go_ret2
        exact ⟨rfl, Below.refl _ _⟩
      · rw [if_neg q2] at hE
        have n3 : ((d.toNat : Int) == 110) = false := beq_eq_false_iff_ne.2 (by omega)
        by_cases q3 : d.toNat = 116
        · rw [if_pos q3] at hE
          subst hE
          have qz : ((d.toNat : Int) == 116) = true := by rw [q3]; rfl
          clear hdr q1 q2 q3
          go_enter Tryz.func120, Tryz.ntmps120
          go_wp2
          go_ret2
          exact ⟨rfl, Below.refl _ _⟩
        · rw [if_neg q3] at hE
          have n4 : ((d.toNat : Int) == 116) = false := beq_eq_false_iff_ne.2 (by omega)
          by_cases q4 : d.toNat = 120
          · rw [if_pos q4] at hE
            have qz : ((d.toNat : Int) == 120) = true := by rw [q4]; rfl
            clear hdr q1 q2 q3 q4
            by_cases h3 : i + 3 < s.size
            · have hz3 : (i : Int) + 3 < (s.size : Int) := by omega
              have hz2 : (i : Int) + 2 < (s.size : Int) := by omega
              have h2 : i + 2 < s.size := by omega
              obtain ⟨a, ha⟩ : ∃ a, s[i + 2]'h2 = a := ⟨_, rfl⟩
              obtain ⟨b, hb⟩ : ∃ b, s[i + 3]'h3 = b := ⟨_, rfl⟩
              have hdr2 := drop_at s h2
              have hdr3 := drop_at s h3
              rw [ha] at hdr2
              rw [hb] at hdr3
              rw [show i + 1 + 1 = i + 2 by omega, hdr2, show i + 2 + 1 = i + 3 by omega, hdr3] at hE
              dsimp only at hE
              have ca := fun W => rhex_any W a
              have cb := fun W => rhex_any W b
              clear hdr2 hdr3
              by_cases g1 : dv a.toNat = 16
              · rw [if_pos (.inl g1)] at hE
                subst hE
                simp only [hx_bad g1] at ca
                clear g1
                go_enter Tryz.func120, Tryz.ntmps120
                go_wp2_with (first
                  | (go_at_call 136; (with_reducible refine (ca _).mono ?_); rintro e w2 ⟨rfl, rfl⟩)
                  | (go_at_call 136; (with_reducible refine (cb _).mono ?_); rintro e w2 ⟨rfl, rfl⟩))
                go_ret2
                exact ⟨rfl, Below.refl _ _⟩
              · by_cases g2 : dv b.toNat = 16
                · rw [if_pos (.inr g2)] at hE
                  subst hE
                  simp only [hx_ok g1] at ca
                  simp only [hx_bad g2] at cb
                  clear g1 g2
                  go_enter Tryz.func120, Tryz.ntmps120
                  go_wp2_with (first
                    | (go_at_call 136; (with_reducible refine (ca _).mono ?_); rintro e w2 ⟨rfl, rfl⟩)
                    | (go_at_call 136; (with_reducible refine (cb _).mono ?_); rintro e w2 ⟨rfl, rfl⟩))
                  go_ret2
                  exact ⟨rfl, Below.refl _ _⟩
                · rw [if_neg (by omega)] at hE
                  subst hE
                  simp only [hx_ok g1] at ca
                  simp only [hx_ok g2] at cb
                  have hp := dv_le a.toNat
                  have hq := dv_le b.toNat
                  obtain ⟨p, hp'⟩ : ∃ p, dv a.toNat = p := ⟨_, rfl⟩
                  obtain ⟨q, hq'⟩ : ∃ q, dv b.toNat = q := ⟨_, rfl⟩
                  rw [hp'] at hp g1 ⊢
                  rw [hq'] at hq g2 ⊢
                  simp only [hp'] at ca
                  simp only [hq'] at cb
                  have hp15 : p < 16 := by omega
                  have hq15 : q < 16 := by omega
                  have e1 : (UInt8.ofNat (16 * p + q)).toNat = 16 * p + q := by simp; omega
                  have hw1 : IntKind.i64.wrap (16 * (p : Int)) = 16 * (p : Int) := by rw [IntKind.wrap_i64]; omega
                  have hw2 : IntKind.i64.wrap (16 * (p : Int) + (q : Int)) = 16 * (p : Int) + (q : Int) := by rw [IntKind.wrap_i64]; omega
                  have hw3 : IntKind.i64.wrap ((i : Int) + 2) = (i : Int) + 2 := by rw [IntKind.wrap_i64]; omega
                  have hw4 : IntKind.i64.wrap ((i : Int) + 3) = (i : Int) + 3 := by rw [IntKind.wrap_i64]; omega
                  have hz20 : (0 : Int) ≤ (i : Int) + 2 := by omega
                  have hz30 : (0 : Int) ≤ (i : Int) + 3 := by omega
                  have hw5 : IntKind.u8.wrap (16 * (p : Int) + (q : Int)) = ((16 * p + q : Nat) : Int) := by
                    have h : IntKind.u8.wrap (16 * (p : Int) + (q : Int)) = (16 * (p : Int) + (q : Int)) % 256 := rfl
                    rw [h]; omega
                  have he : ((esN (some (UInt8.ofNat (16 * p + q), 3))).1 : Int) = ((16 * p + q : Nat) : Int) := congrArg _ e1
                  obtain ⟨Z, hZ⟩ : ∃ Z : Int, ((16 * p + q : Nat) : Int) = Z := ⟨_, rfl⟩
                  rw [hZ] at hw5 he
                  rw [he]
                  clear hZ he e1
                  have ha2 : s[((i : Int) + 2).toNat]'(by omega) = a := ha
                  have hb2 : s[((i : Int) + 3).toNat]'(by omega) = b := hb
                  clear g1 g2 hp hq hp' hq'
                  go_enter Tryz.func120, Tryz.ntmps120
                  go_wp2_with (first
                    | (go_at_call 136; (with_reducible refine (ca _).mono ?_); rintro e w2 ⟨rfl, rfl⟩)
                    | (go_at_call 136; (with_reducible refine (cb _).mono ?_); rintro e w2 ⟨rfl, rfl⟩))
                  go_region_held3 (fun _ => True) (exact trivial) (first
                    | (go_at_call 136; (with_reducible refine (ca _).mono ?_); rintro e w2 ⟨rfl, rfl⟩)
                    | (go_at_call 136; (with_reducible refine (cb _).mono ?_); rintro e w2 ⟨rfl, rfl⟩))
                  all_goals
                    go_wp2
                    go_ret2
                    exact ⟨rfl, Below.thenN (Below.refl _ _) 1⟩
            · have hz3 : ¬ (i : Int) + 3 < (s.size : Int) := by omega
              have hEn : E = none := by
                have hl : ((ls s).drop (i + 1 + 1)).length = s.size - (i + 2) := by rw [List.length_drop, ls_size]
                rw [← hE]
                split
                · rename_i a b r hr
                  rw [hr] at hl
                  simp only [List.length_cons] at hl
                  omega
                · rfl
              clear hE
              subst hEn
              go_enter Tryz.func120, Tryz.ntmps120
              go_wp2
              go_ret2
              exact ⟨rfl, Below.refl _ _⟩
          · rw [if_neg q4] at hE
            subst hE
            have n5 : ((d.toNat : Int) == 120) = false := beq_eq_false_iff_ne.2 (by omega)
            clear hdr q1 q2 q3 q4
            go_enter Tryz.func120, Tryz.ntmps120
            go_wp2
            go_ret2
            exact ⟨rfl, Below.refl _ _⟩
  · have hz1 : (s.size : Int) ≤ (i : Int) + 1 := by omega
    rw [drop_end s (by omega)] at hE
    have hEn : E = none := hE.symm
    subst hEn
    clear hE
    go_enter Tryz.func120, Tryz.ntmps120
    go_wp2
    go_ret2
    exact ⟨rfl, Below.refl _ _⟩
end Go.Proofs.YtbngelinfpaefaaGreatDoor
/- The walk of the reference: a text. -/
namespace Go.Proofs.YtbngelinfpaefaaGreatDoor
open Go.RowKit
open Go.Lib (byteCells)

set_option maxRecDepth 100000 in
set_option maxHeartbeats 4000000 in
theorem xtx_any (w : World) (s : ByteArray) (i : Nat) (hi : i < s.size) (hs : s.size ≤ 1048576) :
    Calls Tryz.prog 81 #[.string s, .int .i64 i] w (TokAt (textR ((ls s).drop i)) i w) := by
  obtain ⟨R, hR⟩ : ∃ R, textR ((ls s).drop i) = R := ⟨_, rfl⟩
  obtain ⟨X, hX⟩ : ∃ X, txS ((ls s).drop (i + 1)) = X := ⟨_, rfl⟩
  have hRX : R = txR X := by
    rw [← hR, ← hX]
    unfold textR
    rw [List.drop_drop]
  rw [hR]
  have HR := Lib.hid hRX
  have HX := Lib.hid hX
  have hz := tkz w
  have hB0 : Below w.heap.size w (w.alloc (.cells (tkC tk0) 78)) := (Below.refl _ w).alloc (Nat.le_refl _) _
  have hbs : w.heap.size + 1 ≤ (w.alloc (.cells (tkC tk0) 78)).heap.size := by simp
  clear hR hX hRX
  go_enter Tryz.func81, Tryz.ntmps81
  go_wp2
  go_loopw [7, 8] (fun o v wr => ∃ (k : Nat) (A : Option Addr) (c : Nat) (pre : List UInt8), o = .slice A pre.length c ∧ v = .int .i64 k ∧ i + 1 ≤ k ∧ k ≤ s.size ∧ pre.length ≤ k ∧ Hid (OwnB wr (w.heap.size + 1) 5 A c pre) ∧ TBlk wr w.heap.size tk0 ∧ Below w.heap.size w wr ∧ w.heap.size + 1 ≤ wr.heap.size ∧ Hid (X = (txS ((ls s).drop k)).pre pre (k - (i + 1)))) (fun _ v _ => s.size - (intOf v).toNat)
  case atStart => exact ⟨i + 1, none, 0, [], rfl, by go_num, Nat.le_refl _, by omega, by simp, OwnB.nil _ _ _, hz, hB0, hbs, by unfold Hid; rw [Nat.sub_self, Tx.pre_nil, HX.out]⟩
  case round =>
    obtain ⟨k, A, c0, pre, rfl, rfl, hik, hk, hpk, HO, hzb, hbw, hwz, HT⟩ := hrel
    by_cases hlt : k < s.size
    · have hltz : (k : Int) < (s.size : Int) := by omega
      obtain ⟨c, hc⟩ : ∃ c, s[k]'hlt = c := ⟨_, rfl⟩
      have hdr := drop_at s hlt
      rw [hc] at hdr
      have hX := HT.out
      rw [hdr] at hX
      by_cases q10 : c.toNat = 10
      · rw [tx_line _ q10] at hX
        have HRE : Hid (R = .bad 0 81) := by unfold Hid; rw [HR.out, hX]; rfl
        have z10 : ((c.toNat : Int) != 10) = false := by simp [q10]
        clear hX hdr q10
        go_wp2_with (refine wpList_store_tok rfl (.tmp 4) (.tmp 61) rfl w.heap.size tk0 tk0 rfl rfl hzb ?_; intro w9 h9 t9)
        rw [HRE.out]
        exact bodyPost_ret (v := .tuple #[.agg (tkC tk0), .int .i64 ((i + 0 : Nat) : Int), .int .i64 ((81 : Nat) : Int)]) (results_tok rfl _ _ _ _ _ _ rfl rfl rfl h9) rfl ⟨hbw.trans (t9.below (Nat.le_refl _)), rfl⟩
      · have z10 : ((c.toNat : Int) != 10) = true := by simp; omega
        by_cases q34 : c.toNat = 34
        · rw [tx_close _ q34] at hX
          have HRE : Hid (R = .tok 3 pre 0 (k + 1 - i)) := by
            unfold Hid
            rw [HR.out, hX]
            show TR.tok 3 (pre ++ []) 0 _ = _
            rw [List.append_nil]
            congr 1
            omega
          have z34 : ((c.toNat : Int) == 34) = true := by rw [q34]; rfl
          have hst := own_byt HO.out c0
          clear hX hdr q10 q34
          go_wp2_with (refine wpList_store_tok rfl (.tmp 4) (.tmp 41) rfl w.heap.size tk0 ⟨3, pre, 0, i, k + 1⟩ rfl rfl hzb ?_; intro w9 h9 t9)
          rw [HRE.out]
          refine bodyPost_ret (v := .tuple #[.agg (tkC ⟨3, pre, 0, i, k + 1⟩), .int .i64 0, .int .i64 0]) (results_tok rfl _ _ _ _ _ _ rfl rfl rfl h9) rfl ⟨hbw.trans (t9.below (Nat.le_refl _)), ?_⟩
          show Ending.returned _ = Ending.returned _
          rw [show i + (k + 1 - i) = k + 1 by omega]
        · have z34 : ((c.toNat : Int) == 34) = false := beq_eq_false_iff_ne.2 (by omega)
          by_cases q92 : c.toNat = 92
          · rw [tx_esc _ q92] at hX
            have z92 : ((c.toNat : Int) == 92) = true := by rw [q92]; rfl
            have ce := rescape_any wr s k hlt hs
            cases hE : escX ((ls s).drop (k + 1)) with
            | none =>
              rw [hE] at hX ce
              have HRE : Hid (R = .bad (k - i) 82) := by
                unfold Hid
                rw [HR.out, hX]
                show TR.bad (0 + (k - (i + 1)) + 1) 82 = _
                congr 1
                omega
              have hki : i + (k - i) = k := by omega
              have hce : Calls Tryz.prog 120 #[.string s, .int .i64 k] wr fun e w' => e = .returned (.tuple #[.int .u8 0, .int .i64 0]) ∧ Below wr.heap.size wr w' := ce
              clear hX hdr q10 q34 q92 hE ce
              go_wp2_with (first
                | (go_at_call 120; refine hce.mono ?_; rintro e w3 ⟨rfl, hb3⟩; have hzb3 := hzb.below hb3)
                | (refine wpList_store_tok rfl (.tmp 4) (.tmp 52) rfl w.heap.size tk0 tk0 rfl rfl hzb3 ?_; intro w9 h9 t9))
              rw [HRE.out]
              refine bodyPost_ret (v := .tuple #[.agg (tkC tk0), .int .i64 (k : Nat), .int .i64 ((82 : Nat) : Int)]) (results_tok rfl _ _ _ _ _ _ rfl rfl rfl h9) rfl ⟨hbw.trans ((hb3.mono hbw.size).trans (t9.below (Nat.le_refl _))), ?_⟩
              show Ending.returned _ = Ending.returned _
              rw [hki]
            | some xj =>
              obtain ⟨x, j⟩ := xj
              rw [hE] at hX ce
              have hjl := escX_len hE
              rw [List.length_drop, ls_size] at hjl
              dsimp only at hX
              rw [Tx.pre_push, List.drop_drop] at hX
              have HT2 : Hid (X = (txS ((ls s).drop (k + (j + 1)))).pre (pre ++ [x]) (k + (j + 1) - (i + 1))) := by
                unfold Hid
                rw [hX, show k + 1 + j = k + (j + 1) by omega, show k - (i + 1) + (j + 1) = k + (j + 1) - (i + 1) by omega]
              obtain ⟨m, hm⟩ : ∃ m, j + 1 = m := ⟨_, rfl⟩
              have hce : Calls Tryz.prog 120 #[.string s, .int .i64 k] wr fun e w' => e = .returned (.tuple #[.int .u8 (x.toNat : Nat), .int .i64 (m : Nat)]) ∧ Below wr.heap.size wr w' := by rw [← hm]; exact ce
              rw [hm] at HT2
              have hm1 : 1 ≤ m := by omega
              have hmk : k + m ≤ s.size := by omega
              have hmz : ((m : Int) == 0) = false := beq_eq_false_iff_ne.2 (by omega)
              obtain ⟨r, hr⟩ : ∃ r, r = pre ++ [x] := ⟨_, rfl⟩
              have hrl : r.length = pre.length + 1 := by rw [hr]; simp
              rw [← hr] at HT2
              have app := fun {w3 : World} (hb3 : Below wr.heap.size wr w3) => run_app_new (HO.out.then_ hb3) #[.int .u8 (x.toNat : Nat)] [x] 1 rfl (by simp [byteCells]) 5 r hr (by omega) (Nat.le_trans hwz hb3.size)
              have APP := Lib.hid (fun (w3 : World) (hb3 : Below wr.heap.size wr w3) => app hb3)
              have HRL := Lib.hid hrl
              clear hX hdr q10 q34 q92 hE ce hjl hr hrl app hm
              go_wp2_with (first
                | (go_at_call 120; refine hce.mono ?_; rintro e w3 ⟨rfl, hb3⟩; obtain ⟨A', c', w4, ha, ho4, hb4⟩ := APP.out w3 hb3; have HA := Lib.hid ha; have HO4 := Lib.hid ho4; clear ha ho4)
                | (at_builtin; refine wpList_append_run rfl (.tmp 54) (.tmp 56) _ rfl rfl rfl HA.out ?_))
              go_roundw
              case rel => exact ⟨k + m, A', c', r, rfl, by go_num, by omega, by omega, by have := HRL.out; omega, HO4, below_tok (hzb.below hb3) hb4 (by omega), hbw.trans ((hb3.mono hbw.size).trans (hb4.mono (by omega))), Nat.le_trans (Nat.le_trans hwz hb3.size) hb4.size, HT2⟩
              case measure => simp [intOf]; omega
          · rw [tx_plain _ q10 q34 q92] at hX
            have z92 : ((c.toNat : Int) == 92) = false := beq_eq_false_iff_ne.2 (by omega)
            rw [Tx.pre_push] at hX
            obtain ⟨r, hr⟩ : ∃ r, r = pre ++ [c] := ⟨_, rfl⟩
            have hrl : r.length = pre.length + 1 := by rw [hr]; simp
            have HT2 : Hid (X = (txS ((ls s).drop (k + 1))).pre r (k + 1 - (i + 1))) := by
              unfold Hid
              rw [hX, hr, show k - (i + 1) + 1 = k + 1 - (i + 1) by omega]
            obtain ⟨A', c', w4, ha, ho4, hb4⟩ := run_app_new HO.out #[.int .u8 (c.toNat : Nat)] [c] 1 rfl (by simp [byteCells]) 5 r hr (by omega) hwz
            have HA := Lib.hid ha
            have HO4 := Lib.hid ho4
            have HRL := Lib.hid hrl
            clear hX hdr q10 q34 q92 hr hrl ha ho4
            go_wp2_with (at_builtin; refine wpList_append_run rfl (.tmp 26) (.tmp 30) _ rfl rfl rfl HA.out ?_)
            go_roundw
            case rel => exact ⟨k + 1, A', c', r, rfl, by go_num, by omega, by omega, by have := HRL.out; omega, HO4, below_tok hzb hb4 (by omega), hbw.trans (hb4.mono (by omega)), Nat.le_trans hwz hb4.size, HT2⟩
            case measure => simp [intOf]; omega
    · have hX := HT.out
      rw [drop_end s (by omega), tx_nil] at hX
      have HRE : Hid (R = .bad 0 81) := by unfold Hid; rw [HR.out, hX]; rfl
      have hltz : ¬ (k : Int) < (s.size : Int) := by omega
      clear hX
      go_wp2_with (refine wpList_store_tok rfl (.tmp 4) (.tmp 61) rfl w.heap.size tk0 tk0 rfl rfl hzb ?_; intro w9 h9 t9)
      rw [HRE.out]
      exact bodyPost_ret (v := .tuple #[.agg (tkC tk0), .int .i64 ((i + 0 : Nat) : Int), .int .i64 ((81 : Nat) : Int)]) (results_tok rfl _ _ _ _ _ _ rfl rfl rfl h9) rfl ⟨hbw.trans (t9.below (Nat.le_refl _)), rfl⟩
end Go.Proofs.YtbngelinfpaefaaGreatDoor
/- The walk of the reference: a token, whichever. -/
namespace Go.Proofs.YtbngelinfpaefaaGreatDoor
open Go.RowKit

set_option maxRecDepth 100000 in
set_option maxHeartbeats 4000000 in
theorem rtoken_any (w : World) (s : ByteArray) (i : Nat) (hi : i < s.size) (hs : s.size ≤ 1048576) :
    Calls Tryz.prog 45 #[.string s, .int .i64 i] w (TokAt (tokL ((ls s).drop i)) i w) := by
  obtain ⟨R, hR⟩ : ∃ R, tokL ((ls s).drop i) = R := ⟨_, rfl⟩
  obtain ⟨c, hc⟩ : ∃ c, s[i]'hi = c := ⟨_, rfl⟩
  obtain ⟨l, hl⟩ : ∃ l, (ls s).drop i = l := ⟨_, rfl⟩
  obtain ⟨r, hr⟩ : ∃ r, (ls s).drop (i + 1) = r := ⟨_, rfl⟩
  have hdr := drop_at s hi
  rw [hc, hl, hr] at hdr
  rw [hR]
  rw [hl] at hR
  have hz := tkz w
  obtain ⟨W1, hW1⟩ : ∃ W1, w.alloc (.cells (tkC tk0) 78) = W1 := ⟨_, rfl⟩
  have cl := fun W => rletter_any W c
  have cd := fun W => rdigit_any W c
  have cm := fun W => xmk_any W c
  have hiz : (i : Int) < (s.size : Int) := by omega
  by_cases hL : isL c = true
  · have cw := xwd_any (w.alloc (.cells (tkC tk0) 78)) s i (by omega) hs
    rw [hl, hdr, ← tokL_word r hL, ← hdr, hR] at cw
    simp only [hL] at cl
    clear hdr hR hl hr cd cm hL hW1
    go_enter Tryz.func45, Tryz.ntmps45
    go_wp2_with (first
      | (go_at_call 77; refine (cl _).mono ?_; rintro e w2 ⟨rfl, rfl⟩)
      | (go_at_call 78; refine cw.mono ?_; intro e w3 h3; obtain ⟨x, u, v, rfl⟩ := h3.val; have H3 := Lib.hid h3; clear h3; have hz3 := hz.below H3.out.1)
      | (refine wpList_store_tok rfl (.tmp 4) (.tmp 17) rfl w.heap.size tk0 x rfl rfl hz3 ?_; intro w9 h9 t9))
    exact bodyPost_ret (v := .tuple #[.agg (tkC x), u, v]) (results_tok rfl _ _ _ _ _ _ rfl rfl rfl h9) rfl ⟨((Below.refl _ w).alloc (Nat.le_refl _) _).trans ((H3.out.1.mono (by simp)).trans (t9.below (Nat.le_refl _))), H3.out.2⟩
  · have hLf : isL c = false := by simpa using hL
    simp only [hLf] at cl
    by_cases hD : isD c = true
    · have cw := rnumber_any (w.alloc (.cells (tkC tk0) 78)) s i (by omega) hs
      rw [hl, hdr, ← tokL_num r hLf hD, ← hdr, hR] at cw
      simp only [hD] at cd
      clear hdr hR hl hr cm hL hLf hD hW1
      go_enter Tryz.func45, Tryz.ntmps45
      go_wp2_with (first
        | (go_at_call 77; refine (cl _).mono ?_; rintro e w2 ⟨rfl, rfl⟩)
        | (go_at_call 79; refine (cd _).mono ?_; rintro e w2 ⟨rfl, rfl⟩)
        | (go_at_call 80; refine cw.mono ?_; intro e w3 h3; obtain ⟨x, u, v, rfl⟩ := h3.val; have H3 := Lib.hid h3; clear h3; have hz3 := hz.below H3.out.1)
        | (refine wpList_store_tok rfl (.tmp 4) (.tmp 26) rfl w.heap.size tk0 x rfl rfl hz3 ?_; intro w9 h9 t9))
      exact bodyPost_ret (v := .tuple #[.agg (tkC x), u, v]) (results_tok rfl _ _ _ _ _ _ rfl rfl rfl h9) rfl ⟨((Below.refl _ w).alloc (Nat.le_refl _) _).trans ((H3.out.1.mono (by simp)).trans (t9.below (Nat.le_refl _))), H3.out.2⟩
    · have hDf : isD c = false := by simpa using hD
      simp only [hDf] at cd
      by_cases q34 : c.toNat = 34
      · have cw := xtx_any (w.alloc (.cells (tkC tk0) 78)) s i hi hs
        rw [hl, hdr, ← tokL_text r hLf hDf q34, ← hdr, hR] at cw
        have z34 : ((c.toNat : Int) == 34) = true := by rw [q34]; rfl
        clear hdr hR hl hr cm hL hLf hD hDf hW1 q34
        go_enter Tryz.func45, Tryz.ntmps45
        go_wp2_with (first
          | (go_at_call 77; refine (cl _).mono ?_; rintro e w2 ⟨rfl, rfl⟩)
          | (go_at_call 79; refine (cd _).mono ?_; rintro e w2 ⟨rfl, rfl⟩)
          | (go_at_call 81; refine cw.mono ?_; intro e w3 h3; obtain ⟨x, u, v, rfl⟩ := h3.val; have H3 := Lib.hid h3; clear h3; have hz3 := hz.below H3.out.1)
          | (refine wpList_store_tok rfl (.tmp 4) (.tmp 35) rfl w.heap.size tk0 x rfl rfl hz3 ?_; intro w9 h9 t9))
        exact bodyPost_ret (v := .tuple #[.agg (tkC x), u, v]) (results_tok rfl _ _ _ _ _ _ rfl rfl rfl h9) rfl ⟨((Below.refl _ w).alloc (Nat.le_refl _) _).trans ((H3.out.1.mono (by simp)).trans (t9.below (Nat.le_refl _))), H3.out.2⟩
      · have z34 : ((c.toNat : Int) == 34) = false := beq_eq_false_iff_ne.2 (by omega)
        by_cases hM : isM c = true
        · have hRE : R = .tok 4 (ls (s.extract i (i + 1))) 0 1 := by
            rw [← hR, hdr, tokL_mark r hLf hDf q34 hM, ls_extract, hl, hdr, show i + 1 - i = 1 by omega]
            rfl
          have HRE := Lib.hid hRE
          simp only [hM] at cm
          clear hdr hR hl hr hL hLf hD hDf hW1 q34 hM hRE
          go_enter Tryz.func45, Tryz.ntmps45
          go_wp2_with (first
            | (go_at_call 77; refine (cl _).mono ?_; rintro e w2 ⟨rfl, rfl⟩)
            | (go_at_call 79; refine (cd _).mono ?_; rintro e w2 ⟨rfl, rfl⟩)
            | (go_at_call 82; refine (cm _).mono ?_; rintro e w2 ⟨rfl, rfl⟩)
            | (refine wpList_store_tok rfl (.tmp 4) (.tmp 49) rfl w.heap.size tk0 ⟨4, ls (s.extract i (i + 1)), 0, i, i + 1⟩ rfl rfl hz ?_; intro w9 h9 t9))
          rw [HRE.out]
          exact bodyPost_ret (v := .tuple #[.agg (tkC ⟨4, ls (s.extract i (i + 1)), 0, i, i + 1⟩), .int .i64 0, .int .i64 0]) (results_tok rfl _ _ _ _ _ _ rfl rfl rfl h9) rfl ⟨below_alloc t9, rfl⟩
        · have hMf : isM c = false := by simpa using hM
          have hRE : R = .bad 0 80 := by
            rw [← hR, hdr, tokL_none r hLf hDf q34 hMf]
          have HRE := Lib.hid hRE
          simp only [hMf] at cm
          clear hdr hR hl hr hL hLf hD hDf hW1 q34 hM hMf hRE
          go_enter Tryz.func45, Tryz.ntmps45
          go_wp2_with (first
            | (go_at_call 77; refine (cl _).mono ?_; rintro e w2 ⟨rfl, rfl⟩)
            | (go_at_call 79; refine (cd _).mono ?_; rintro e w2 ⟨rfl, rfl⟩)
            | (go_at_call 82; refine (cm _).mono ?_; rintro e w2 ⟨rfl, rfl⟩)
            | (refine wpList_store_tok rfl (.tmp 4) (.tmp 50) rfl w.heap.size tk0 tk0 rfl rfl hz ?_; intro w9 h9 t9))
          rw [HRE.out]
          exact bodyPost_ret (v := .tuple #[.agg (tkC tk0), .int .i64 ((i + 0 : Nat) : Int), .int .i64 ((80 : Nat) : Int)]) (results_tok rfl _ _ _ _ _ _ rfl rfl rfl h9) rfl ⟨below_alloc t9, rfl⟩
end Go.Proofs.YtbngelinfpaefaaGreatDoor
/- The walk of the reference: the tokens of a text. -/
namespace Go.Proofs.YtbngelinfpaefaaGreatDoor
open Go.RowKit

set_option maxRecDepth 100000 in
set_option maxHeartbeats 4000000 in
theorem rlex_any (w : World) (s : ByteArray) : Calls Tryz.prog 23 #[.string s] w (LexAt (lexS s) w) := by
  obtain ⟨R, hR⟩ : ∃ R, lexS s = R := ⟨_, rfl⟩
  rw [hR]
  by_cases hbig : 1048576 < s.size
  · have hz : (1048576 : Int) < (s.size : Int) := by omega
    have HRE : Hid (R = .bad 0 2) := by unfold Hid; rw [← hR]; exact if_pos hbig
    clear hR
    go_enter Tryz.func23, Tryz.ntmps23
    go_wp2
    rw [HRE.out]
    exact bodyPost_ret (v := .tuple #[.slice none 0 0, .int .i64 ((0 : Nat) : Int), .int .i64 ((2 : Nat) : Int)]) (results_three rfl _ _ _ _ _ rfl rfl rfl) rfl ⟨Below.refl _ _, rfl⟩
  · have hs : s.size ≤ 1048576 := by omega
    have hz : ¬ (1048576 : Int) < (s.size : Int) := by omega
    have HI : Hid (LexInv s R [] (0 + skipS false ((ls s).drop 0))) := by
      unfold Hid
      refine ⟨0, rfl, Nat.zero_le _, ?_, Nat.le_refl _⟩
      rw [← hR, List.drop_zero, LR.pre_nil]
      exact if_neg hbig
    have cs0 := rskip_any w s 0 (Nat.zero_le _) (by omega)
    clear hR
    obtain ⟨k0, hk0⟩ : ∃ k0, 0 + skipS false ((ls s).drop 0) = k0 := ⟨_, rfl⟩
    rw [hk0] at HI cs0
    clear hk0
    go_enter Tryz.func23, Tryz.ntmps23
    go_wp2_with (go_at_call 44; refine cs0.mono ?_; rintro e w2 ⟨rfl, rfl⟩)
    go_loopw [5, 6] (fun o v wr => ∃ (k : Nat) (A : Option Addr) (c : Nat) (pre : List Tk), o = .slice A pre.length c ∧ v = .int .i64 k ∧ Hid (LexInv s R pre k) ∧ Hid (OwnT wr w.heap.size A c pre) ∧ Below w.heap.size w wr) (fun _ v _ => s.size - (intOf v).toNat)
    case atStart => exact ⟨k0, none, 0, [], rfl, rfl, HI, OwnT.nil _ _, Below.refl _ _⟩
    case round =>
      obtain ⟨k, A, c0, pre, rfl, rfl, HJ, HO, hbw⟩ := hrel
      have hk := HJ.out.k_le
      by_cases hlt : k < s.size
      · have hltz : (k : Int) < (s.size : Int) := by omega
        have ct := rtoken_any wr s k hlt hs
        cases hT : tokL ((ls s).drop k) with
        | bad o x =>
          rw [hT] at ct
          have HRE := Lib.hid (HJ.out.bad hlt hT)
          have hx : ((x : Int) != 0) = true := by have := tok_err hT; simp; omega
          clear hT
          have hce : Calls Tryz.prog 45 #[.string s, .int .i64 k] wr fun e w' => e = .returned (.tuple #[.agg (tkC tk0), .int .i64 ((k + o : Nat) : Int), .int .i64 (x : Nat)]) ∧ Below wr.heap.size wr w' := ct.mono fun e w' h => ⟨h.2, h.1⟩
          clear ct
          go_wp2_with (first
            | (go_at_call 45; refine hce.mono ?_; rintro e w3 ⟨rfl, hb3⟩; have hz3 := tkz w3)
            | (refine wpList_store_tok rfl (.tmp 7) (.tmp 23) rfl w3.heap.size tk0 tk0 rfl rfl hz3 ?_; intro w9 h9 t9))
          rw [HRE.out]
          exact bodyPost_ret (v := .tuple #[.slice none 0 0, .int .i64 ((k + o : Nat) : Int), .int .i64 (x : Nat)]) (results_three rfl _ _ _ _ _ rfl rfl rfl) rfl ⟨(hbw.trans (hb3.mono hbw.size)).trans ((below_alloc t9).mono (Nat.le_trans hbw.size hb3.size)), rfl⟩
        | tok q t n len =>
          rw [hT] at ct
          obtain ⟨hJ2, hkl, hl1⟩ := HJ.out.tok hlt hT
          obtain ⟨x, hx⟩ : ∃ x, (⟨q, t, n, k, k + len⟩ : Tk) = x := ⟨_, rfl⟩
          have hce : Calls Tryz.prog 45 #[.string s, .int .i64 k] wr fun e w' => e = .returned (.tuple #[.agg (tkC x), .int .i64 0, .int .i64 0]) ∧ Below wr.heap.size wr w' := by
            rw [← hx]
            exact ct.mono fun e w' h => ⟨h.2, h.1⟩
          have hxe : x.e = k + len := by rw [← hx]
          obtain ⟨p, hp⟩ : ∃ p, k + len = p := ⟨_, rfl⟩
          have cs := fun W => rskip_any W s p (by omega) (by omega)
          rw [hp] at hxe
          rw [hx] at hJ2
          rw [hp] at hJ2
          obtain ⟨k2, hk2⟩ : ∃ k2, p + skipS false ((ls s).drop p) = k2 := ⟨_, rfl⟩
          simp only [hk2] at cs
          rw [hk2] at hJ2
          have hkk : k < k2 := by omega
          have hk2s := hJ2.k_le.1
          obtain ⟨r, hr⟩ : ∃ r, r = pre ++ [x] := ⟨_, rfl⟩
          rw [← hr] at hJ2
          have hrl : r.length ≤ 2000000000 := by have := hJ2.k_le.2; omega
          have HJ2 := Lib.hid hJ2
          have APP := Lib.hid (fun (w9 : World) (hb : Below wr.heap.size wr w9) => run_app_tok (HO.out.then_ hb) x r hr hrl (Nat.le_trans hbw.size hb.size))
          have OFF := Lib.hid (fun (g : Nat) (hg : wr.heap.size ≤ g) => HO.out.off hg)
          have hsz5 : (tkC x).size = 5 := rfl
          clear hT hJ2 hx ct hr hk2 hp
          go_wp2_with (first
            | (go_at_call 45; refine hce.mono ?_; rintro e w3 ⟨rfl, hb3⟩; have hz3 := tkz w3)
            | (refine wpList_store_tok rfl (.tmp 7) (.tmp 23) rfl w3.heap.size tk0 x rfl rfl hz3 ?_; intro w9 h9 t9; have hb9 := hb3.trans ((below_alloc t9).mono hb3.size); obtain ⟨A', c', w4, ha, ho4, hb4, hk4⟩ := APP.out w9 hb9; have h4 := h9.keep (hk4 _ h9.len (OFF.out _ hb3.size)); have hc4 := h4.cells.2.2.2.2; rw [hxe] at hc4; have HA := Lib.hid ha; have HO4 := Lib.hid ho4; clear ha ho4 hk4)
            | (refine wpList_load_tok rfl (.tmp 7) rfl w3.heap.size x rfl h9 ?_)
            | (at_builtin; refine wpList_append_run rfl (.tmp 30) (.tmp 32) _ rfl rfl rfl HA.out ?_)
            | (go_at_call 44; refine (cs _).mono ?_; rintro e w5 ⟨rfl, rfl⟩))
          go_roundw
          case rel => exact ⟨k2, A', c', r, rfl, rfl, HJ2, HO4, (hbw.trans (hb9.mono hbw.size)).trans hb4⟩
          case measure => simp [intOf]; omega
      · obtain rfl : k = s.size := by omega
        have HRE := Lib.hid HJ.out.end_
        have hltz : ¬ (s.size : Int) < (s.size : Int) := by omega
        obtain ⟨r, hr⟩ : ∃ r, r = pre ++ [endTk s.size] := ⟨_, rfl⟩
        obtain ⟨A', c', w4, ha, ho4, hb4, _⟩ := run_app_tok HO.out (endTk s.size) r hr (by rw [hr, List.length_append]; show _ + 1 ≤ _; omega) hbw.size
        rw [← hr] at HRE
        have HA := Lib.hid ha
        have HO4 := Lib.hid ho4
        clear ha ho4 hr
        go_wp2_with (at_builtin; refine wpList_append_run rfl (.tmp 38) (.tmp 44) _ rfl rfl rfl HA.out ?_)
        rw [HRE.out]
        exact bodyPost_ret (v := .tuple #[.slice A' r.length c', .int .i64 0, .int .i64 0]) (results_three rfl _ _ _ _ _ rfl rfl rfl) rfl ⟨hbw.trans hb4, A', c', rfl, HO4.out.reads⟩
end Go.Proofs.YtbngelinfpaefaaGreatDoor
