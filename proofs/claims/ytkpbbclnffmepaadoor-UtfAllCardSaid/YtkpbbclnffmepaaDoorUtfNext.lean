/- The walks of utf.Next, utf.Fault, utf.Count: every text. -/
import Derived.Test.YtkpbbclnffmepaaDoorUtfMem
import Derived.WalkKit
import Derived.BigCall
namespace Go.Proofs.YtkpbbclnffmepaaDoor
open Go.RowKit

theorem decodeGo_nx (s : ByteArray) (R K : Nat) (hR : (Lib.decodeGo s).1 = R) (hK : (Lib.decodeGo s).2 = K) :
    nx (ls s) = if R = 65533 ∧ K ≤ 1 then (-1, K) else ((R : Int), K) := by
  subst hR hK
  unfold Lib.decodeGo
  by_cases h0 : s.size = 0
  · have : ls s = [] := List.eq_nil_of_length_eq_zero (by rw [size_ls]; exact h0)
    rw [if_pos h0, this, nx_nil]
    simp
  · have hne : ls s ≠ [] := fun h => h0 (by rw [← size_ls, h]; rfl)
    have hd : Go.Lib.decodeL (ls s) = Utf8.decode s 0 := by
      have := Go.Lib.decodeL_drop s 0
      rwa [List.drop_zero] at this
    have hw := Go.Lib.decodeL_width (ls s)
    rw [if_neg h0, ← hd]
    unfold nx
    rw [if_neg hne]
    by_cases hv : (Go.Lib.decodeL (ls s)).1 = 65533 ∧ (Go.Lib.decodeL (ls s)).2 = 1
    · rw [if_pos hv, if_pos ⟨hv.1, by omega⟩, hv.2]
    · rw [if_neg hv, if_neg (fun h => hv ⟨h.1, by omega⟩)]
theorem decodeGo_le (s : ByteArray) : (Lib.decodeGo s).1 ≤ 1114111 ∧ (Lib.decodeGo s).2 ≤ 4 := by
  unfold Lib.decodeGo
  by_cases h0 : s.size = 0
  · rw [if_pos h0]; simp
  · have hne : ls s ≠ [] := fun h => h0 (by rw [← size_ls, h]; rfl)
    have hd : Go.Lib.decodeL (ls s) = Utf8.decode s 0 := by
      have := Go.Lib.decodeL_drop s 0
      rwa [List.drop_zero] at this
    rw [if_neg h0, ← hd]
    have := nx_range _ hne
    rw [nx_width _ hne] at this
    exact ⟨Go.Lib.decodeL_rune _, this.2.1⟩

set_option maxRecDepth 100000 in
set_option maxHeartbeats 1000000 in
theorem next_any {w0 w : World} (h : St w0 w) (s : ByteArray) :
    Calls Tryd.prog 11 #[.string s] w fun e w' => e = .returned (.tuple #[.int .i64 (nx (ls s)).1, .int .i64 (nx (ls s)).2]) ∧ St w0 w' := by
  have cS := Tryd.utf8_DecodeRuneInString s w h.tabs
  have hle := decodeGo_le s
  obtain ⟨R, hR⟩ : ∃ R : Nat, (Lib.decodeGo s).1 = R := ⟨_, rfl⟩
  obtain ⟨K, hK⟩ : ∃ K : Nat, (Lib.decodeGo s).2 = K := ⟨_, rfl⟩
  rw [decodeGo_nx s R K hR hK]
  rw [hR, hK] at cS hle
  obtain ⟨hR1, hK1⟩ := hle
  clear hR hK
  by_cases hb : R = 65533 ∧ K ≤ 1
  · rw [if_pos hb]
    obtain ⟨rfl, hk⟩ := hb
    have hkz : (K : Int) ≤ 1 := by omega
    go_enter Tryd.func11, Tryd.ntmps11
    go_wp2_with (go_at_call 23; refine cS.mono ?_; rintro e w' ⟨rfl, hbl⟩)
    go_ret2
    exact ⟨rfl, h.then_ hbl⟩
  · rw [if_neg hb]
    by_cases hr : R = 65533
    · subst hr
      have hkz : ¬ ((K : Int) ≤ 1) := by omega
      go_enter Tryd.func11, Tryd.ntmps11
      go_wp2_with (go_at_call 23; refine cS.mono ?_; rintro e w' ⟨rfl, hbl⟩)
      go_ret2
      exact ⟨rfl, h.then_ hbl⟩
    · have hrz : ¬ ((R : Int) = 65533) := by omega
      have hrb : ((R : Int) == 65533) = false := by simp; omega
      go_enter Tryd.func11, Tryd.ntmps11
      go_wp2_with (go_at_call 23; refine cS.mono ?_; rintro e w' ⟨rfl, hbl⟩)
      go_ret2
      exact ⟨rfl, h.then_ hbl⟩

set_option maxRecDepth 100000 in
set_option maxHeartbeats 1000000 in
theorem count_any {w0 w : World} (h : St w0 w) (s : ByteArray) (hs : s.size ≤ 140737488355328) :
    Calls Tryd.prog 17 #[.string s] w fun e w' => e = .returned (.int .i64 (cntL (ls s))) ∧ St w0 w' := by
  have cS := Tryd.utf8_RuneCountInString s w (by omega)
  rw [runeCount_ok] at cS
  have hcl : cntL (ls s) = cntL s.data.toList := rfl
  rw [← hcl] at cS
  clear hcl
  obtain ⟨N, hN⟩ : ∃ N, cntL (ls s) = N := ⟨_, rfl⟩
  rw [hN] at cS ⊢
  clear hN
  go_enter Tryd.func17, Tryd.ntmps17
  go_wp2_with (go_at_call 26; refine cS.mono ?_; rintro e w' ⟨rfl, pos, rfl⟩)
  go_ret
  exact ⟨rfl, h.then_ ((Below.refl _ _).alloc (Nat.le_refl _) _)⟩

set_option maxRecDepth 100000 in
set_option maxHeartbeats 1000000 in
theorem fault_any {w0 w : World} (h : St w0 w) (s : ByteArray) (hs : s.size ≤ 140737488355328) :
    Calls Tryd.prog 13 #[.string s] w fun e w' => e = .returned (.int .i64 (fltL (ls s))) ∧ St w0 w' := by
  obtain ⟨F, hF⟩ : ∃ F, fltL (ls s) = F := ⟨_, rfl⟩
  rw [hF]
  have HF := Lib.hid hF
  clear hF
  go_enter Tryd.func13, Tryd.ntmps13
  go_wp2
  go_loopw [3] (fun n wr => St w0 wr ∧ ∃ i : Nat, n = .int .i64 i ∧ i ≤ s.size ∧ Hid (i + fltL ((ls s).drop i) = F)) (fun n _ => s.size - (intOf n).toNat)
  case atStart => exact ⟨h, 0, rfl, Nat.zero_le _, by have := HF.out; unfold Hid; rw [List.drop_zero]; omega⟩
  case round =>
    obtain ⟨hst, i, rfl, hi, HI⟩ := hrel
    by_cases hlt : i < s.size
    · have hltz : (i : Int) < (s.size : Int) := by omega
      have hne : (ls s).drop i ≠ [] := fun hn => by
        have := congrArg List.length hn
        rw [List.length_drop, size_ls] at this
        simp at this; omega
      have hsp := nx_cases _ hne
      have hrg := nx_range _ hne
      rw [List.length_drop, size_ls] at hrg
      obtain ⟨t, ht⟩ : ∃ t, s.extract i s.size = t := ⟨_, rfl⟩
      have hlt' : ls t = (ls s).drop i := by rw [← ht, ls_from]
      have hn := next_any hst t
      rw [hlt'] at hn
      obtain ⟨C, hC⟩ : ∃ C, (nx ((ls s).drop i)).1 = C := ⟨_, rfl⟩
      obtain ⟨K, hK⟩ : ∃ K, (nx ((ls s).drop i)).2 = K := ⟨_, rfl⟩
      rw [hC, hK] at hn
      have hfl : Hid ((C = -1 ∧ fltL ((ls s).drop i) = 0) ∨ (0 ≤ C ∧ fltL ((ls s).drop i) = K + fltL ((ls s).drop (i + K)))) := by
        rcases hsp with hx | ⟨c, r, hc, hl, hx⟩
        · left
          rw [hx] at hC
          refine ⟨hC.symm, ?_⟩
          unfold fltL
          rw [tk_step _ hne, hx]
          rfl
        · right
          rw [hx] at hC hK
          subst hC hK
          refine ⟨hc.1, ?_⟩
          have e : (ls s).drop (i + (Lib.encodeRune c).length) = r := by
            rw [← List.drop_drop, hl, List.drop_left]
          show _ = (Lib.encodeRune c).length + _
          rw [e, hl]
          unfold fltL
          rw [tk_char c r hc]
          rfl
      rw [hK] at hrg
      obtain ⟨hk1, hk4, hks⟩ := hrg
      clear hC hK hsp hlt' hne
      by_cases hc : C = -1
      · have hf : Hid (fltL ((ls s).drop i) = 0) := by
          rcases hfl.out with h' | h'
          · exact h'.2
          · omega
        subst hc
        clear hfl
        go_wp2_with (go_at_call 11; refine hn.mono ?_; rintro e w' ⟨rfl, hb⟩)
        go_ret
        have h1 := HI.out
        rw [hf.out] at h1
        exact ⟨ret_int (by omega), hb⟩
      · have hf : Hid (fltL ((ls s).drop i) = K + fltL ((ls s).drop (i + K))) := by
          rcases hfl.out with h' | h'
          · omega
          · exact h'.2
        have hcb : (C == -1) = false := by simpa using hc
        clear hfl
        go_wp2_with (go_at_call 11; refine hn.mono ?_; rintro e w' ⟨rfl, hb⟩)
        go_roundw
        case rel => exact ⟨hb, i + K, by go_num, by omega, by have h1 := HI.out; rw [hf.out] at h1; unfold Hid; omega⟩
        case measure => simp [intOf]; omega
    · go_wp2
      go_ret
      have h1 := HI.out
      rw [List.drop_eq_nil_of_le (by rw [size_ls]; omega)] at h1
      exact ⟨ret_int (by have : fltL [] = 0 := rfl; omega), hst⟩
end Go.Proofs.YtkpbbclnffmepaaDoor
