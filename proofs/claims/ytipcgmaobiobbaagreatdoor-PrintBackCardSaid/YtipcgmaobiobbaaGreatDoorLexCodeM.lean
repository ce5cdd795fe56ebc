/- The walk of the code: whether a text is a name. -/
import Derived.Test.YtipcgmaobiobbaaGreatDoorParGc
import Derived.Test.YtipcgmaobiobbaaGreatDoorParGb
namespace Go.Proofs.YtipcgmaobiobbaaGreatDoor
open Go.RowKit

theorem takeWhile_all (p : UInt8 → Bool) (l : List UInt8) : ((l.takeWhile p).length = l.length) ↔ l.all p = true := by
  induction l with
  | nil => simp
  | cons c r ih =>
    rw [List.takeWhile_cons]
    by_cases h : p c = true
    · rw [if_pos h]
      simp only [List.length_cons, List.all_cons, h, Bool.true_and]
      rw [← ih]
      omega
    · have hf : p c = false := by simpa using h
      rw [if_neg h]
      simp [hf]

set_option maxRecDepth 100000 in
set_option maxHeartbeats 2000000 in
theorem name_any (w : World) (s : ByteArray) (hs : s.size ≤ 9223372036854775806) : Calls Tryz.prog 74 #[.string s] w fun e w' => e = .returned (.bool (nameL (ls s))) ∧ Below w.heap.size w w' := by
  obtain ⟨b, hb⟩ : ∃ b, nameL (ls s) = b := ⟨_, rfl⟩
  rw [hb]
  by_cases h1 : s.size = 0
  · have hem : s = ⟨#[]⟩ := by
      cases s with | mk d => 
      congr 1
      exact Array.eq_empty_of_size_eq_zero h1
    subst hem
    obtain rfl : false = b := hb
    clear h1
    go_enter Tryz.func74, Tryz.ntmps74
    go_wp2
    go_ret; exact ⟨rfl, Below.refl _ _⟩
  · have h0 : 0 < s.size := by omega
    have h0z : (0 : Int) < (s.size : Int) := by omega
    have hemp : s.toList.isEmpty = false := by
      rw [← decide_eq_emptyBytes]
      exact decide_eq_false (fun h => h1 (by rw [h]; rfl))
    obtain ⟨c, hc⟩ : ∃ c, s[0]'h0 = c := ⟨_, rfl⟩
    have hl := drop_at s h0
    rw [List.drop_zero, hc] at hl
    have cl := fun W => letter_any W c
    have cn := fun W => nameEnd_any W s 0 (Nat.zero_le _) hs
    rw [List.drop_zero, Nat.zero_add] at cn
    have hcast : ((0 : Nat) : Int) = 0 := rfl
    simp only [hcast] at cn
    have hw := takeWhile_all isW (ls s)
    change wordN (ls s) = _ ↔ _ at hw
    rw [ls_size] at hw
    have hnl : nameL (ls s) = (decide ((ls s).length ≤ 64) && isL c && (ls s).all isW) := by rw [hl]; rfl
    rw [hb, ls_size] at hnl
    generalize wordN (ls s) = m at cn hw
    by_cases hL : isL c = true
    · simp only [hL] at cl
      rw [hL, Bool.and_true] at hnl
      by_cases hm : m = s.size
      · have ha := hw.1 hm
        rw [ha, Bool.and_true] at hnl
        subst hm
        have HB : Hid (b = decide (s.size ≤ 64)) := hnl
        clear hL hw ha hnl hb hl h1
        go_enter Tryz.func74, Tryz.ntmps74
        go_wp2_with (first
          | (go_at_call 57; refine (cl _).mono ?_; rintro e w2 ⟨rfl, rfl⟩)
          | (go_at_call 83; refine (cn _).mono ?_; rintro e w2 ⟨rfl, rfl⟩))
        go_ret
        refine ⟨ret_bool ?_, Below.refl _ _⟩
        rw [HB.out]
        simp
        try omega
      · have ha : (ls s).all isW = false := by
          cases h : (ls s).all isW with
          | false => rfl
          | true => exact absurd (hw.2 h) hm
        rw [ha, Bool.and_false] at hnl
        subst hnl
        have hmz : ((m : Int) == (s.size : Int)) = false := beq_eq_false_iff_ne.2 (by omega)
        clear hL hw ha hb hl h1 hm
        go_enter Tryz.func74, Tryz.ntmps74
        go_wp2_with (first
          | (go_at_call 57; refine (cl _).mono ?_; rintro e w2 ⟨rfl, rfl⟩)
          | (go_at_call 83; refine (cn _).mono ?_; rintro e w2 ⟨rfl, rfl⟩))
        go_ret; exact ⟨rfl, Below.refl _ _⟩
    · have hLf : isL c = false := by simpa using hL
      simp only [hLf] at cl
      rw [hLf, Bool.and_false, Bool.false_and] at hnl
      subst hnl
      clear hL hLf hw hb hl h1
      go_enter Tryz.func74, Tryz.ntmps74
      go_wp2_with (go_at_call 57; refine (cl _).mono ?_; rintro e w2 ⟨rfl, rfl⟩)
      go_ret; exact ⟨rfl, Below.refl _ _⟩

end Go.Proofs.YtipcgmaobiobbaaGreatDoor
