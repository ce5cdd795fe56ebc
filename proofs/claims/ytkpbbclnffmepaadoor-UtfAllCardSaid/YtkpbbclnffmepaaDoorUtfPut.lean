/- The walks of utf.Put and utf.Valid: every number, every text. -/
import Derived.Test.YtkpbbclnffmepaaDoorUtfNext
import Derived.Test.YtkpbbclnffmepaaDoorVShelf
namespace Go.Proofs.YtkpbbclnffmepaaDoor
open Go.RowKit

theorem encode_tx (c : Int) (h : isC c) : Utf8.encode c = tx (Lib.encodeRune c) := by
  obtain ⟨h0, h1, h2⟩ := h
  have hv : Utf8.valid c = true := by
    unfold Utf8.valid
    simp only [Bool.or_eq_true, Bool.and_eq_true, decide_eq_true_eq]
    omega
  obtain ⟨C, rfl⟩ : ∃ C : Nat, c = C := ⟨c.toNat, by omega⟩
  unfold Utf8.encode Lib.encodeRune tx
  simp only [hv, if_true, Int.toNat_natCast]
  by_cases a1 : C < 128
  · rw [Lib.encodeRuneZ_one h0 (by omega), if_pos a1]; rfl
  · by_cases a2 : C < 2048
    · rw [Lib.encodeRuneZ_two (by omega) (by omega), if_neg a1, if_pos a2]; rfl
    · by_cases a3 : C < 65536
      · rw [Lib.encodeRuneZ_three (by omega), if_neg a1, if_neg a2, if_pos a3]; rfl
      · rw [Lib.encodeRuneZ_four (by omega) (by omega), if_neg a1, if_neg a2, if_neg a3]; rfl

set_option maxRecDepth 100000 in
set_option maxHeartbeats 1000000 in
theorem put_same (w : World) (c : Int) :
    Calls Tryd.prog 21 #[.int .i64 c] w fun e w' => e = .returned (.string (tx (putL c))) ∧ w' = w := by
  by_cases h0 : c < 0
  · have hp : putL c = [] := by unfold putL; rw [if_neg (by unfold isC; omega)]
    rw [hp]
    clear hp
    go_enter Tryd.func21, Tryd.ntmps21
    go_wp2
    go_ret
    exact ⟨rfl, rfl⟩
  · by_cases h1 : 1114111 < c
    · have hp : putL c = [] := by unfold putL; rw [if_neg (by unfold isC; omega)]
      rw [hp]
      clear hp
      go_enter Tryd.func21, Tryd.ntmps21
      go_wp2
      go_ret
      exact ⟨rfl, rfl⟩
    · by_cases hc : isC c
      · have hp : Hid (Utf8.encode c = tx (putL c)) := by unfold Hid putL; rw [if_pos hc, encode_tx c hc]
        have hv : Lib.validRune c = true := by
          unfold Lib.validRune
          obtain ⟨_, _, h2⟩ := hc
          simp
          omega
        have cV := fun W => Tryd.utf8_ValidRune c W
        rw [hv] at cV
        clear hc hv
        go_enter Tryd.func21, Tryd.ntmps21
        go_wp2_with (go_at_call 30; refine (cV _).mono ?_; rintro e w' ⟨rfl, rfl⟩)
        go_ret
        exact ⟨by rw [hp.out]; rfl, rfl⟩
      · have hp : putL c = [] := by unfold putL; rw [if_neg hc]
        rw [hp]
        have hv : Lib.validRune c = false := by
          unfold Lib.validRune
          unfold isC at hc
          simp
          omega
        have cV := fun W => Tryd.utf8_ValidRune c W
        rw [hv] at cV
        clear hc hv hp
        go_enter Tryd.func21, Tryd.ntmps21
        go_wp2_with (go_at_call 30; refine (cV _).mono ?_; rintro e w' ⟨rfl, rfl⟩)
        go_ret
        exact ⟨rfl, rfl⟩

theorem put_any {w0 w : World} (h : St w0 w) (c : Int) :
    Calls Tryd.prog 21 #[.int .i64 c] w fun e w' => e = .returned (.string (tx (putL c))) ∧ St w0 w' :=
  (put_same w c).mono fun _ _ ⟨he, hw⟩ => ⟨he, hw ▸ h⟩

set_option maxRecDepth 100000 in
set_option maxHeartbeats 1000000 in
theorem valid_any {w0 w : World} (h : St w0 w) (s : ByteArray) (hs : s.size ≤ 140737488355328) :
    Calls Tryd.prog 15 #[.string s] w fun e w' => e = .returned (.bool (okL (ls s))) ∧ St w0 w' := by
  have cS := Tryd.utf8_ValidString s w (by omega) h.tabs
  rw [validD_ok] at cS
  have hcl : okL (ls s) = okL s.data.toList := rfl
  rw [← hcl] at cS
  clear hcl
  obtain ⟨N, hN⟩ : ∃ N, okL (ls s) = N := ⟨_, rfl⟩
  rw [hN] at cS ⊢
  clear hN
  go_enter Tryd.func15, Tryd.ntmps15
  go_wp2_with (go_at_call 25; refine cS.mono ?_; rintro e w' ⟨rfl, hb⟩)
  go_ret
  exact ⟨rfl, h.then_ hb⟩
end Go.Proofs.YtkpbbclnffmepaaDoor
