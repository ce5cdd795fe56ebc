/- The walks of the reference: kinds of bytes, skip. -/
import Derived.Test.YtggonhciakfabaaDoorLexMem
namespace Go.Proofs.YtggonhciakfabaaDoor
open Go.RowKit

set_option maxRecDepth 100000 in
set_option maxHeartbeats 1000000 in
theorem rblank_any (w : World) (c : UInt8) : Calls Tryd.prog 31 #[.int .u8 (c.toNat : Nat)] w fun e w' => e = .returned (.bool (isBl c)) ∧ w = w' := by
  have hc := c.toNat_lt
  obtain ⟨b, hb⟩ : ∃ b, isBl c = b := ⟨_, rfl⟩
  obtain ⟨n, hn⟩ : ∃ n, c.toNat = n := ⟨_, rfl⟩
  have HB : Hid (b = true ↔ (n = 32 ∨ n = 9 ∨ n = 10 ∨ n = 13)) := by unfold Hid; rw [← hb, ← hn]; unfold isBl; exact decide_eq_true_iff
  rw [hb]
  rw [hn] at hc ⊢
  clear hb hn
  go_enter Tryd.func31, Tryd.ntmps31
  go_wp2
  all_goals
    go_ret
    refine ⟨ret_bool (Bool.eq_iff_iff.2 (Iff.trans ?_ HB.out.symm)), rfl⟩
    first | omega | (simp; done) | (simp; omega)

set_option maxRecDepth 100000 in
set_option maxHeartbeats 1000000 in
theorem rdigit_any (w : World) (c : UInt8) : Calls Tryd.prog 27 #[.int .u8 (c.toNat : Nat)] w fun e w' => e = .returned (.bool (isD c)) ∧ w = w' := by
  have hc := c.toNat_lt
  obtain ⟨b, hb⟩ : ∃ b, isD c = b := ⟨_, rfl⟩
  obtain ⟨n, hn⟩ : ∃ n, c.toNat = n := ⟨_, rfl⟩
  have HB : Hid (b = true ↔ (48 ≤ n ∧ n ≤ 57)) := by unfold Hid; rw [← hb, ← hn]; unfold isD; exact decide_eq_true_iff
  rw [hb]
  rw [hn] at hc ⊢
  clear hb hn
  go_enter Tryd.func27, Tryd.ntmps27
  go_wp2
  all_goals
    go_ret
    refine ⟨ret_bool (Bool.eq_iff_iff.2 (Iff.trans ?_ HB.out.symm)), rfl⟩
    first | omega | (simp; done) | (simp; omega)

set_option maxRecDepth 100000 in
set_option maxHeartbeats 1000000 in
theorem rletter_any (w : World) (c : UInt8) : Calls Tryd.prog 26 #[.int .u8 (c.toNat : Nat)] w fun e w' => e = .returned (.bool (isL c)) ∧ w = w' := by
  have hc := c.toNat_lt
  obtain ⟨b, hb⟩ : ∃ b, isL c = b := ⟨_, rfl⟩
  obtain ⟨n, hn⟩ : ∃ n, c.toNat = n := ⟨_, rfl⟩
  have HB : Hid (b = true ↔ (n = 95 ∨ (97 ≤ n ∧ n ≤ 122) ∨ (65 ≤ n ∧ n ≤ 90))) := by unfold Hid; rw [← hb, ← hn]; unfold isL; exact decide_eq_true_iff
  rw [hb]
  rw [hn] at hc ⊢
  clear hb hn
  go_enter Tryd.func26, Tryd.ntmps26
  go_wp2
  all_goals
    go_ret
    refine ⟨ret_bool (Bool.eq_iff_iff.2 (Iff.trans ?_ HB.out.symm)), rfl⟩
    first | omega | (simp; done) | (simp; omega)

/-- the marks -/
def marks : List UInt8 := [123, 125, 40, 41, 58, 59, 44, 61, 43, 45, 42]
theorem isM_mem (c : UInt8) : isM c = true ↔ c ∈ marks := by
  unfold isM marks
  rw [decide_eq_true_iff]
  simp only [List.mem_cons, List.not_mem_nil, or_false, ← UInt8.toNat_inj]
  rfl
theorem lit_marks (p : Nat) (h : p < 11) : (⟨#[123, 125, 40, 41, 58, 59, 44, 61, 43, 45, 42]⟩ : ByteArray)[p]'h = marks[p]'h := by
  have : ∀ p : Fin 11, (⟨#[123, 125, 40, 41, 58, 59, 44, 61, 43, 45, 42]⟩ : ByteArray)[(p : Nat)]'p.2 = marks[(p : Nat)]'p.2 := by decide
  exact this ⟨p, h⟩

set_option maxRecDepth 100000 in
set_option maxHeartbeats 1000000 in
theorem rmark_any (w : World) (c : UInt8) : Calls Tryd.prog 35 #[.int .u8 (c.toNat : Nat)] w fun e w' => e = .returned (.bool (isM c)) ∧ w = w' := by
  obtain ⟨b, hb⟩ : ∃ b, isM c = b := ⟨_, rfl⟩
  rw [hb]
  have HB := Lib.hid hb
  clear hb
  go_enter Tryd.func35, Tryd.ntmps35
  go_wp2
  go_loop [4] (fun v => ∃ k : Nat, v = .int .i64 k ∧ k ≤ 11 ∧ Hid (∀ j (h : j < 11), j < k → marks[j]'h ≠ c)) (fun v => 11 - (intOf v).toNat)
  case atStart => exact ⟨0, rfl, by omega, fun _ _ h => absurd h (Nat.not_lt_zero _)⟩
  case round =>
    obtain ⟨k, rfl, hk, HN⟩ := hrel
    by_cases hlt : k < 11
    · have hltz : (k : Int) < 11 := by omega
      have e1 := lit_marks k hlt
      obtain ⟨d, hd⟩ : ∃ d, marks[k]'hlt = d := ⟨_, rfl⟩
      rw [hd] at e1
      by_cases hc : d = c
      · subst hc
        have HE : Hid (b = true) := HB.out.symm.trans ((isM_mem d).2 (by rw [← hd]; exact List.getElem_mem _))
        go_wp2
        go_ret
        exact ⟨ret_bool HE.out.symm, rfl⟩
      · have hne : ((d.toNat : Int) == (c.toNat : Int)) = false := beq_eq_false_iff_ne.2 fun e => hc (UInt8.toNat_inj.1 (by omega))
        have HN2 : Hid (∀ j (h : j < 11), j < k + 1 → marks[j]'h ≠ c) := fun j h hj => by
          rcases Nat.lt_or_eq_of_le (Nat.le_of_lt_succ hj) with q | q
          · exact HN.out j h q
          · subst q; rw [hd]; exact hc
        clear hc hd
        go_wp2
        go_round
        case rel => exact ⟨k + 1, by go_num, by omega, HN2⟩
        case measure => simp [intOf]; omega
    · have HE : Hid (b = false) := HB.out.symm.trans (by
        cases hm : isM c with
        | false => rfl
        | true =>
          obtain ⟨j, hj, e⟩ := List.getElem_of_mem ((isM_mem c).1 hm)
          exact absurd e (HN.out j hj (by have : j < 11 := hj; omega)))
      go_wp2
      go_ret
      exact ⟨ret_bool HE.out.symm, rfl⟩

theorem drop_at (s : ByteArray) {k : Nat} (h : k < s.size) : (ls s).drop k = s[k] :: (ls s).drop (k + 1) := by
  rw [List.drop_eq_getElem_cons (by rw [ls_size]; exact h)]
  rfl
theorem drop_end (s : ByteArray) {k : Nat} (h : s.size ≤ k) : (ls s).drop k = [] := List.drop_eq_nil_of_le (by rw [ls_size]; exact h)

set_option maxRecDepth 100000 in
set_option maxHeartbeats 2000000 in
theorem rskip_any (w : World) (s : ByteArray) (i : Nat) (hi : i ≤ s.size) (hs : s.size ≤ 140737488355328) :
    Calls Tryd.prog 20 #[.string s, .int .i64 i] w fun e w' => e = .returned (.int .i64 ((i + skipS false ((ls s).drop i) : Nat) : Int)) ∧ w = w' := by
  obtain ⟨X, hX⟩ : ∃ X, i + skipS false ((ls s).drop i) = X := ⟨_, rfl⟩
  rw [hX]
  have HX := Lib.hid hX
  clear hX
  go_enter Tryd.func20, Tryd.ntmps20
  go_wp2
  go_loopw [1] (fun v wr => ∃ k : Nat, v = .int .i64 k ∧ k ≤ s.size ∧ Hid (k + skipS false ((ls s).drop k) = X) ∧ w = wr) (fun v _ => s.size - (intOf v).toNat)
  case atStart => exact ⟨i, rfl, hi, HX, rfl⟩
  case round =>
    obtain ⟨k, rfl, hk, HK, rfl⟩ := hrel
    by_cases hlt : k < s.size
    · have hltz : (k : Int) < (s.size : Int) := by omega
      obtain ⟨c, hc⟩ : ∃ c, s[k]'hlt = c := ⟨_, rfl⟩
      have hdr := drop_at s hlt
      rw [hc] at hdr
      have cb := fun W => rblank_any W c
      have hk2 := HK.out
      rw [hdr, skip_cons, if_neg (by simp)] at hk2
      by_cases hb : isBl c = true
      · rw [if_pos hb] at hk2
        simp only [hb] at cb
        have HK2 : Hid (k + 1 + skipS false ((ls s).drop (k + 1)) = X) := by unfold Hid; omega
        clear hk2 hdr hb
        go_wp2_with (go_at_call 31; refine (cb _).mono ?_; rintro e w2 ⟨rfl, rfl⟩)
        go_roundw
        case rel => exact ⟨k + 1, by go_num, by omega, HK2, trivial⟩
        case measure => simp [intOf]; omega
      · rw [if_neg hb] at hk2
        have hbf : isBl c = false := by simpa using hb
        simp only [hbf] at cb
        by_cases h35 : c.toNat = 35
        · rw [if_pos h35] at hk2
          have h35z : ((c.toNat : Int) == 35) = true := by rw [h35]; rfl
          have HK2 : Hid (k + skipS true ((ls s).drop k) = X) := by
            unfold Hid
            rw [hdr, skip_cons, if_pos ⟨rfl, by omega⟩]
            exact hk2
          have HC : Hid (s[k]'hlt = c ∧ c.toNat = 35) := ⟨hc, h35⟩
          clear hk2 hdr hb hbf h35
          go_wp2_with (go_at_call 31; refine (cb _).mono ?_; rintro e w2 ⟨rfl, rfl⟩)
          clear h35z hc cb
          go_loopw [1] (fun v wr => ∃ m : Nat, v = .int .i64 m ∧ k ≤ m ∧ m ≤ s.size ∧ Hid (m + skipS true ((ls s).drop m) = X) ∧ w = wr) (fun v _ => s.size - (intOf v).toNat)
          case atStart => exact ⟨k, rfl, Nat.le_refl _, hk, HK2, rfl⟩
          case round =>
            obtain ⟨m, rfl, hkm, hm, HM, rfl⟩ := hrel
            by_cases hml : m < s.size
            · have hmlz : (m : Int) < (s.size : Int) := by omega
              obtain ⟨d, hd⟩ : ∃ d, s[m]'hml = d := ⟨_, rfl⟩
              have hdr := drop_at s hml
              rw [hd] at hdr
              have hm2 := HM.out
              rw [hdr, skip_cons] at hm2
              by_cases hd10 : d.toNat = 10
              · rw [if_neg (by simp [hd10]), if_pos (by unfold isBl; rw [hd10]; rfl)] at hm2
                have HK3 : Hid (m + skipS false ((ls s).drop m) = X) := by
                  unfold Hid
                  rw [hdr, skip_cons, if_neg (by simp), if_pos (by unfold isBl; rw [hd10]; rfl)]
                  exact hm2
                have hlt2 : k < m := by
                  rcases Nat.lt_or_eq_of_le hkm with g | g
                  · exact g
                  · subst g
                    have := HC.out
                    rw [hd] at this
                    have h1 := this.2
                    rw [← this.1] at h1
                    omega
                have hdz : ((d.toNat : Int) != 10) = false := by simp [hd10]
                clear hm2 hdr hd10
                go_wp2
                go_roundw
                case rel => exact ⟨m, rfl, hm, HK3, trivial⟩
                case measure => simp [intOf]; omega
              · rw [if_pos ⟨rfl, hd10⟩] at hm2
                have HM2 : Hid (m + 1 + skipS true ((ls s).drop (m + 1)) = X) := by unfold Hid; omega
                have hdz : ((d.toNat : Int) != 10) = true := by simp; omega
                clear hm2 hdr hd10
                go_wp2
                go_roundw
                case rel => exact ⟨m + 1, by go_num, by omega, by omega, HM2, trivial⟩
                case measure => simp [intOf]; omega
            · obtain rfl : m = s.size := by omega
              have HK3 : Hid (s.size + skipS false ((ls s).drop s.size) = X) := by
                have := HM.out
                rw [drop_end s (Nat.le_refl _)] at this ⊢
                exact this
              go_wp2
              go_roundw
              case rel => exact ⟨s.size, rfl, Nat.le_refl _, HK3, trivial⟩
              case measure => simp [intOf]; omega
        · rw [if_neg h35] at hk2
          have h35z : ((c.toNat : Int) == 35) = false := beq_eq_false_iff_ne.2 (by omega)
          obtain rfl : k = X := by omega
          clear hk2 hdr hb hbf h35
          go_wp2_with (go_at_call 31; refine (cb _).mono ?_; rintro e w2 ⟨rfl, rfl⟩)
          go_ret
          exact ⟨rfl, rfl⟩
    · have HE : Hid (X = k) := by
        have := HK.out
        rw [drop_end s (by omega)] at this
        exact this.symm
      go_wp2
      go_ret
      exact ⟨ret_int (by rw [HE.out]), rfl⟩
end Go.Proofs.YtggonhciakfabaaDoor
