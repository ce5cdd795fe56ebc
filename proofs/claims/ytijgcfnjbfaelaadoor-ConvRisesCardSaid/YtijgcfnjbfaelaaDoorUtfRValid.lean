/- The walks of the reference's Next of any text, Fault, Valid. -/
import Derived.Test.YtijgcfnjbfaelaaDoorUtfRNext
namespace Go.Proofs.YtijgcfnjbfaelaaDoor
open Go.RowKit

theorem rnext_all {w0 w : World} (h : St w0 w) (s : ByteArray) (hm : s.size ≤ 140737488355328) :
    Calls Tryd.prog 73 #[.string s] w fun e w' => e = .returned (.tuple #[.int .i64 (nx (ls s)).1, .int .i64 (nx (ls s)).2]) ∧ St w0 w' := by
  by_cases hs : s.size = 0
  · exact rnext_nil h s hs
  · exact rnext_any h s hs hm

theorem drop_ne {s : ByteArray} {i : Nat} (h : i < s.size) : (ls s).drop i ≠ [] := fun hn => by
  have := congrArg List.length hn
  rw [List.length_drop, size_ls] at this
  simp at this; omega

set_option maxRecDepth 100000 in
set_option maxHeartbeats 1000000 in
theorem rfault_any {w0 w : World} (h : St w0 w) (s : ByteArray) (hs : s.size ≤ 140737488355328) :
    Calls Tryd.prog 58 #[.string s] w fun e w' => e = .returned (.int .i64 (fltL (ls s))) ∧ St w0 w' := by
  obtain ⟨F, hF⟩ : ∃ F, fltL (ls s) = F := ⟨_, rfl⟩
  rw [hF]
  have HF := Lib.hid hF
  clear hF
  go_enter Tryd.func58, Tryd.ntmps58
  go_wp2
  go_loopw [3] (fun n wr => St w0 wr ∧ ∃ i : Nat, n = .int .i64 i ∧ i ≤ s.size ∧ Hid (i + fltL ((ls s).drop i) = F)) (fun n _ => s.size - (intOf n).toNat)
  case atStart => exact ⟨h, 0, rfl, Nat.zero_le _, by have := HF.out; unfold Hid; rw [List.drop_zero]; omega⟩
  case round =>
    obtain ⟨hst, i, rfl, hi, HI⟩ := hrel
    by_cases hlt : i < s.size
    · have hltz : (i : Int) < (s.size : Int) := by omega
      have hne := drop_ne hlt
      have hsp := nx_cases _ hne
      have hrg := nx_range _ hne
      rw [List.length_drop, size_ls] at hrg
      obtain ⟨t, ht⟩ : ∃ t, s.extract i s.size = t := ⟨_, rfl⟩
      have hlt' : ls t = (ls s).drop i := by rw [← ht, ls_from]
      have hts : t.size ≤ 140737488355328 := by
        have := congrArg List.length hlt'
        rw [List.length_drop, size_ls, size_ls] at this
        omega
      have hn := rnext_all hst t hts
      rw [hlt'] at hn
      clear hts
      rcases hsp with hx | ⟨c, r, hc, hl, hx⟩
      · rw [hx] at hn
        have hf : Hid (fltL ((ls s).drop i) = 0) := by
          unfold Hid fltL
          rw [tk_step _ hne, hx]
          rfl
        clear hx hne hrg hlt'
        go_wp2_with (go_at_call 73; refine hn.mono ?_; rintro e w' ⟨rfl, hb⟩)
        go_ret
        have h1 := HI.out
        rw [hf.out] at h1
        exact ⟨ret_int (by omega), hb⟩
      · have hf : fltL ((ls s).drop i) = (Lib.encodeRune c).length + fltL ((ls s).drop (i + (Lib.encodeRune c).length)) := by
          rw [← List.drop_drop, hl, List.drop_left]
          unfold fltL
          rw [tk_char c r hc]
          rfl
        rw [hx] at hn hrg
        obtain ⟨K, hK⟩ : ∃ K, (Lib.encodeRune c).length = K := ⟨_, rfl⟩
        simp only [hK] at hn hrg hf
        have hc0 : ¬ (c < 0) := by have := hc.1; omega
        have HFL := Lib.hid hf
        obtain ⟨hk1, hk4, hks⟩ := hrg
        clear hx hne hlt' hK hf hl hc
        go_wp2_with (go_at_call 73; refine hn.mono ?_; rintro e w' ⟨rfl, hb⟩)
        go_roundw
        case rel => exact ⟨hb, i + K, by go_num, by omega, by have h1 := HI.out; rw [HFL.out] at h1; unfold Hid; omega⟩
        case measure => simp [intOf]; omega
    · go_wp2
      go_ret
      have h1 := HI.out
      rw [List.drop_eq_nil_of_le (by rw [size_ls]; omega)] at h1
      exact ⟨ret_int (by have : fltL [] = 0 := rfl; omega), hst⟩

set_option maxRecDepth 100000 in
set_option maxHeartbeats 1000000 in
theorem rvalid_any {w0 w : World} (h : St w0 w) (s : ByteArray) (hs : s.size ≤ 140737488355328) :
    Calls Tryd.prog 34 #[.string s] w fun e w' => e = .returned (.bool (okL (ls s))) ∧ St w0 w' := by
  have cS := rfault_any h s hs
  rw [ok_flt, size_ls]
  obtain ⟨F, hF⟩ : ∃ F, fltL (ls s) = F := ⟨_, rfl⟩
  rw [hF] at cS ⊢
  clear hF
  go_enter Tryd.func34, Tryd.ntmps34
  go_wp2_with (go_at_call 58; refine cS.mono ?_; rintro e w' ⟨rfl, hb⟩)
  go_ret
  exact ⟨ret_bool (by by_cases g : F = s.size <;> simp [g] <;> omega), hb⟩
end Go.Proofs.YtijgcfnjbfaelaaDoor
