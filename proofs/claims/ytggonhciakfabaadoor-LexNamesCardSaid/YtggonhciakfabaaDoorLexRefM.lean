/- The walk of the reference: whether a text is a name. -/
import Derived.Test.YtggonhciakfabaaDoorLexRefS
namespace Go.Proofs.YtggonhciakfabaaDoor
open Go.RowKit

theorem nameL_eq (l : List UInt8) (c : UInt8) (r : List UInt8) (h : l = c :: r) (h1 : l.length ≤ 64) (h2 : isL c = true) : nameL l = l.all isW := by
  subst h
  show (decide _ && isL c && _) = _
  rw [decide_eq_true h1, h2]
  rfl

set_option maxRecDepth 100000 in
set_option maxHeartbeats 2000000 in
theorem rname_any (w : World) (s : ByteArray) : Calls Tryd.prog 15 #[.string s] w fun e w' => e = .returned (.bool (nameL (ls s))) ∧ w = w' := by
  obtain ⟨b, hb⟩ : ∃ b, nameL (ls s) = b := ⟨_, rfl⟩
  rw [hb]
  by_cases h1 : s.size < 1
  · have hz : (s.size : Int) < 1 := by omega
    obtain rfl : b = false := by
      rw [← hb]
      have : ls s = [] := List.eq_nil_of_length_eq_zero (by rw [ls_size]; omega)
      rw [this]
      rfl
    clear hb
    go_enter Tryd.func15, Tryd.ntmps15
    go_wp2
    go_ret; exact ⟨rfl, rfl⟩
  · by_cases h64 : 64 < s.size
    · have hz : ¬ (s.size : Int) < 1 := by omega
      have hz2 : (64 : Int) < (s.size : Int) := by omega
      obtain rfl : b = false := by
        rw [← hb]
        have hl := drop_at s (show 0 < s.size by omega)
        rw [List.drop_zero] at hl
        have hn := ls_size s
        rw [hl] at hn ⊢
        show (decide (_ ≤ 64) && isL _ && _) = false
        rw [decide_eq_false (by omega)]
        rfl
      clear hb
      go_enter Tryd.func15, Tryd.ntmps15
      go_wp2
      go_ret; exact ⟨rfl, rfl⟩
    · have hz : ¬ (s.size : Int) < 1 := by omega
      have hz2 : ¬ (64 : Int) < (s.size : Int) := by omega
      have h0 : 0 < s.size := by omega
      have h0z : (0 : Int) < (s.size : Int) := by omega
      obtain ⟨c, hc⟩ : ∃ c, s[0]'h0 = c := ⟨_, rfl⟩
      have hl := drop_at s h0
      rw [List.drop_zero, hc] at hl
      have cl := fun W => rletter_any W c
      by_cases hL : isL c = true
      · simp only [hL] at cl
        have HB : Hid (((ls s).drop 0).all isW = b) := by
          unfold Hid
          rw [List.drop_zero, ← hb, nameL_eq _ c _ hl (by rw [ls_size]; omega) hL]
        clear hb hl hL
        go_enter Tryd.func15, Tryd.ntmps15
        go_wp2_with (go_at_call 26; refine (cl _).mono ?_; rintro e w2 ⟨rfl, rfl⟩)
        go_loopw [3] (fun v wr => ∃ k : Nat, v = .int .i64 k ∧ k ≤ s.size ∧ Hid (((ls s).drop k).all isW = b) ∧ w = wr) (fun v _ => s.size - (intOf v).toNat)
        case atStart => exact ⟨0, rfl, Nat.zero_le _, HB, rfl⟩
        case round =>
          obtain ⟨k, rfl, hk, HK, rfl⟩ := hrel
          by_cases hlt : k < s.size
          · have hltz : (k : Int) < (s.size : Int) := by omega
            obtain ⟨d, hd⟩ : ∃ d, s[k]'hlt = d := ⟨_, rfl⟩
            have hdr := drop_at s hlt
            rw [hd] at hdr
            have hk2 := HK.out
            rw [hdr, List.all_cons] at hk2
            have dl := fun W => rletter_any W d
            have dd := fun W => rdigit_any W d
            by_cases hL : isL d = true
            · have hW : isW d = true := by unfold isW; rw [hL]; rfl
              rw [hW, Bool.true_and] at hk2
              have HK2 := Lib.hid hk2
              simp only [hL] at dl
              clear hL hW hk2 hdr dd
              go_wp2_with (go_at_call 26; refine (dl _).mono ?_; rintro e w2 ⟨rfl, rfl⟩)
              go_roundw
              case rel => exact ⟨k + 1, by go_num, by omega, HK2, trivial⟩
              case measure => simp [intOf]; omega
            · have hLf : isL d = false := by simpa using hL
              simp only [hLf] at dl
              by_cases hD : isD d = true
              · have hW : isW d = true := by unfold isW; rw [hD, Bool.or_true]
                rw [hW, Bool.true_and] at hk2
                have HK2 := Lib.hid hk2
                simp only [hD] at dd
                clear hL hLf hD hW hk2 hdr
                go_wp2_with (first
                  | (go_at_call 26; refine (dl _).mono ?_; rintro e w2 ⟨rfl, rfl⟩)
                  | (go_at_call 27; refine (dd _).mono ?_; rintro e w2 ⟨rfl, rfl⟩))
                go_roundw
                case rel => exact ⟨k + 1, by go_num, by omega, HK2, trivial⟩
                case measure => simp [intOf]; omega
              · have hDf : isD d = false := by simpa using hD
                have hW : isW d = false := by unfold isW; rw [hLf, hDf]; rfl
                rw [hW, Bool.false_and] at hk2
                obtain rfl : false = b := hk2
                simp only [hDf] at dd
                clear hL hLf hD hDf hW hdr
                go_wp2_with (first
                  | (go_at_call 26; refine (dl _).mono ?_; rintro e w2 ⟨rfl, rfl⟩)
                  | (go_at_call 27; refine (dd _).mono ?_; rintro e w2 ⟨rfl, rfl⟩))
                go_ret; exact ⟨rfl, rfl⟩
          · have hltz : ¬ (k : Int) < (s.size : Int) := by omega
            have hk2 := HK.out
            rw [drop_end s (by omega)] at hk2
            obtain rfl : true = b := hk2
            go_wp2
            go_ret; exact ⟨rfl, rfl⟩
      · have hLf : isL c = false := by simpa using hL
        obtain rfl : b = false := by
          rw [← hb, hl]
          show (decide (_ ≤ 64) && isL c && _) = false
          rw [hLf, Bool.and_false]
          rfl
        simp only [hLf] at cl
        clear hb hl hL hLf
        go_enter Tryd.func15, Tryd.ntmps15
        go_wp2_with (go_at_call 26; refine (cl _).mono ?_; rintro e w2 ⟨rfl, rfl⟩)
        go_ret; exact ⟨rfl, rfl⟩
end Go.Proofs.YtggonhciakfabaaDoor
