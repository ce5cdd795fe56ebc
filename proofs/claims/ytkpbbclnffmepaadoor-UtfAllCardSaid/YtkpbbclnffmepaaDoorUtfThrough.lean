/- The walk of UtfThrough. -/
import Derived.Test.YtkpbbclnffmepaaDoorUtfLives
import Derived.Deep.QuietTactic
namespace Go.Proofs.YtkpbbclnffmepaaDoor
open Go.RowKit

theorem through_big {w : World} (h : St w w) (s : ByteArray) (hs : 16777216 < s.size) :
    Calls Tryd.prog 5 #[.string s] w (Yes w) := by
  have hz : (16777216 : Int) < (s.size : Int) := by omega
  go_enter Tryd.func5, Tryd.ntmps5
  go_wp2_with (go_at_call 9; refine (awake_any h).mono ?_; rintro e w' ⟨rfl, hst⟩)
  go_ret
  exact ⟨rfl, hst.below⟩

/-- where the walk through s stands: i bytes and k tokens are taken off, f is the first single byte's place -/
def At (l : List UInt8) (i k : Nat) (f : Int) : Prop :=
  i ≤ l.length ∧ k + cntL (l.drop i) = cntL l ∧ ((f = -1 ∧ i + fltL (l.drop i) = fltL l) ∨ (f = fltL l ∧ fltL l < l.length))
theorem At.zero (l : List UInt8) : At l 0 0 (-1) := ⟨Nat.zero_le _, by simp, .inl ⟨rfl, by simp⟩⟩
theorem At.le {l : List UInt8} {i k : Nat} {f : Int} (h : At l i k f) : k ≤ l.length := by
  have := cnt_le l
  have := h.2.1
  omega
theorem At.bad {l : List UInt8} {i k : Nat} {f : Int} (h : At l i k f) (hi : i < l.length) (hx : nx (l.drop i) = (-1, 1)) : At l (i + 1) (k + 1) (if f < 0 then i else f) := by
  obtain ⟨h1, h2, h3⟩ := h
  have hne : l.drop i ≠ [] := fun hn => by
    have := congrArg List.length hn
    rw [List.length_drop] at this
    simp at this; omega
  have hc : cntL (l.drop i) = 1 + cntL (l.drop (i + 1)) := by
    unfold cntL
    rw [tk_step _ hne, hx, List.drop_drop, List.length_cons, Nat.add_comm]
  have hf : fltL (l.drop i) = 0 := by
    unfold fltL
    rw [tk_step _ hne, hx]
    rfl
  refine ⟨by omega, by omega, ?_⟩
  rcases h3 with ⟨rfl, h3⟩ | ⟨rfl, h3⟩
  · right
    rw [if_pos (by decide)]
    omega
  · right
    rw [if_neg (by omega)]
    exact ⟨rfl, h3⟩
theorem At.char {l : List UInt8} {i k : Nat} {f : Int} (h : At l i k f) (c : Int) (r : List UInt8) (hc : isC c) (hl : l.drop i = Lib.encodeRune c ++ r) : At l (i + (Lib.encodeRune c).length) (k + 1) f := by
  obtain ⟨h1, h2, h3⟩ := h
  have hd : l.drop (i + (Lib.encodeRune c).length) = r := by rw [← List.drop_drop, hl, List.drop_left]
  have hn : cntL (l.drop i) = 1 + cntL r := by
    unfold cntL
    rw [hl, tk_char c r hc, List.length_cons, Nat.add_comm]
  have hf : fltL (l.drop i) = (Lib.encodeRune c).length + fltL r := by
    unfold fltL
    rw [hl, tk_char c r hc]
    rfl
  have hll := congrArg List.length hl
  rw [List.length_drop, List.length_append] at hll
  have := enc_len c
  unfold At
  rw [hd]
  refine ⟨by omega, by omega, ?_⟩
  rcases h3 with ⟨rfl, h3⟩ | h3
  · exact .inl ⟨rfl, by omega⟩
  · exact .inr h3
theorem At.end_ {l : List UInt8} {i k : Nat} {f : Int} (h : At l i k f) (hi : ¬ i < l.length) : i = l.length ∧ k = cntL l ∧ ((f = -1 ∧ fltL l = l.length) ∨ (f = fltL l ∧ fltL l < l.length)) := by
  obtain ⟨h1, h2, h3⟩ := h
  have hd : l.drop i = [] := List.drop_eq_nil_of_le (by omega)
  rw [hd] at h2 h3
  have e1 : cntL [] = 0 := rfl
  have e2 : fltL [] = 0 := rfl
  refine ⟨by omega, by omega, ?_⟩
  rcases h3 with ⟨rfl, h3⟩ | h3
  · exact .inl ⟨rfl, by omega⟩
  · exact .inr h3

set_option maxRecDepth 100000 in
set_option maxHeartbeats 1000000 in
theorem through_ok {w : World} (h : St w w) (s : ByteArray) (hs : ¬ 16777216 < s.size) :
    Calls Tryd.prog 5 #[.string s] w (Yes w) := by
  have hz : ¬ ((16777216 : Int) < (s.size : Int)) := by omega
  go_enter Tryd.func5, Tryd.ntmps5
  go_wp2_with (go_at_call 9; refine (awake_any h).mono ?_; rintro e w' ⟨rfl, hst⟩)
  clear h
  go_loopw [4, 5, 6] (fun ni nk nf wr => St w wr ∧ ∃ (i k : Nat) (f : Int), ni = .int .i64 i ∧ nk = .int .i64 k ∧ nf = .int .i64 f ∧ i ≤ s.size ∧ k ≤ s.size ∧ Hid (At (ls s) i k f)) (fun ni _ _ _ => s.size - (intOf ni).toNat)
  case atStart => exact ⟨hst, 0, 0, -1, rfl, rfl, rfl, by omega, by omega, At.zero _⟩
  case round =>
    obtain ⟨hst, i, k, f, rfl, rfl, rfl, hi, hk, HA⟩ := hrel
    by_cases hlt : i < s.size
    · have hltz : (i : Int) < (s.size : Int) := by omega
      have hne : (ls s).drop i ≠ [] := fun hn => by
        have := congrArg List.length hn
        rw [List.length_drop, size_ls] at this
        simp at this; omega
      obtain ⟨t, ht⟩ : ∃ t, s.extract i s.size = t := ⟨_, rfl⟩
      have hn := next_any hst t
      rw [← ht, ls_from, ht] at hn
      rcases nx_cases _ hne with hx | ⟨c, r, hc, hl, hx⟩
      · have HN := Lib.hid (At.bad HA.out (by rw [size_ls]; exact hlt) hx)
        rw [hx] at hn
        clear hx hne
        by_cases hf : f < 0
        · rw [if_pos hf] at HN
          go_wp2_with (go_at_call 11; refine hn.mono ?_; rintro e w' ⟨rfl, hst2⟩)
          go_quiet (fail)
          go_wp2
          go_roundw
          case rel => exact ⟨hst2.newN _, i + 1, k + 1, i, by go_num, by go_num, rfl, by omega, by have := HN.out.le; rw [size_ls] at this; exact this, HN⟩
          case measure => simp [intOf]; omega
        · rw [if_neg hf] at HN
          go_wp2_with (go_at_call 11; refine hn.mono ?_; rintro e w' ⟨rfl, hst2⟩)
          go_quiet (fail)
          go_wp2
          go_roundw
          case rel => exact ⟨hst2.newN _, i + 1, k + 1, f, by go_num, by go_num, rfl, by omega, by have := HN.out.le; rw [size_ls] at this; exact this, HN⟩
          case measure => simp [intOf]; omega
      · have HN := Lib.hid (At.char HA.out c r hc hl)
        have hln := enc_len c
        have hll := congrArg List.length hl
        rw [List.length_drop, size_ls, List.length_append] at hll
        have hP : s.extract i (i + (Lib.encodeRune c).length) = tx (putL c) := ls_inj (by
          rw [ls_cut, ls_tx, List.drop_take, hl]
          unfold putL
          rw [if_pos hc, Nat.add_sub_cancel_left, List.take_left])
        rw [hx] at hn
        obtain ⟨K, hK⟩ : ∃ K, (Lib.encodeRune c).length = K := ⟨_, rfl⟩
        obtain ⟨P, hp⟩ : ∃ P, tx (putL c) = P := ⟨_, rfl⟩
        have hput := fun W => put_same W c
        rw [hK, hp] at hP
        simp only [hp] at hput
        rw [hK] at HN hn hln hll
        obtain ⟨hk1, hk4⟩ := hln
        have hks : i + K ≤ s.size := by omega
        have hksz : (i : Int) + (K : Int) ≤ (s.size : Int) := by omega
        have hc0 : 0 ≤ c := hc.1
        clear hx hne hK hp hll hl hc
        go_wp2_with (go_at_call 11; refine hn.mono ?_; rintro e w' ⟨rfl, hst2⟩)
        go_quiet ((go_at_call 21; refine Calls.quiet_of_same (hput _)))
        go_wp2
        go_roundw
        case rel => exact ⟨hst2.newN _, i + K, k + 1, f, by go_num, by go_num, rfl, by omega, by have := HN.out.le; rw [size_ls] at this; exact this, HN⟩
        case measure => simp [intOf]; omega
    · obtain ⟨hie, hke, hfe⟩ := At.end_ HA.out (by rw [size_ls]; exact hlt)
      rw [size_ls] at hie
      subst hie
      have hltz : ¬ ((s.size : Int) < (s.size : Int)) := by omega
      have hn := next_any hst ByteArray.empty
      rw [show ls ByteArray.empty = [] from rfl, nx_nil] at hn
      have hcnt := fun {w1 : World} (g : St w w1) => count_any g s (by omega)
      have hflt := fun {w1 : World} (g : St w w1) => fault_any g s (by omega)
      have hval := fun {w1 : World} (g : St w w1) => valid_any g s (by omega)
      have hok := ok_flt (ls s)
      rw [size_ls] at hok hfe
      obtain ⟨N, hN⟩ : ∃ N, cntL (ls s) = N := ⟨_, rfl⟩
      obtain ⟨F, hF⟩ : ∃ F, fltL (ls s) = F := ⟨_, rfl⟩
      obtain ⟨O, hO⟩ : ∃ O, okL (ls s) = O := ⟨_, rfl⟩
      simp only [hN, hF, hO] at hcnt hflt hval
      rw [hN] at hke
      rw [hF] at hok hfe
      rw [hO] at hok
      subst hke
      clear hN hF hO HA
      rcases hfe with ⟨rfl, hfe⟩ | ⟨rfl, hfe⟩
      · subst hfe
        have hO : O = true := by rw [hok]; exact decide_eq_true rfl
        subst hO
        clear hok
        go_wp2_with (first
          | (go_at_call 11; refine hn.mono ?_; rintro e w' ⟨rfl, hst2⟩)
          | (go_at_call 17; refine (hcnt (by assumption)).mono ?_; rintro e w' ⟨rfl, hst2⟩)
          | (go_at_call 13; refine (hflt (by assumption)).mono ?_; rintro e w' ⟨rfl, hst2⟩)
          | (go_at_call 15; refine (hval (by assumption)).mono ?_; rintro e w' ⟨rfl, hst2⟩))
        go_ret
        exact ⟨rfl, St.below (by assumption)⟩
      · have hO : O = false := by rw [hok]; exact decide_eq_false (by omega)
        subst hO
        have hneq : ((F : Int) == (s.size : Int)) = false := by simp; omega
        have hf0 : ¬ ((F : Int) < 0) := by omega
        clear hok
        go_wp2_with (first
          | (go_at_call 11; refine hn.mono ?_; rintro e w' ⟨rfl, hst2⟩)
          | (go_at_call 17; refine (hcnt (by assumption)).mono ?_; rintro e w' ⟨rfl, hst2⟩)
          | (go_at_call 13; refine (hflt (by assumption)).mono ?_; rintro e w' ⟨rfl, hst2⟩)
          | (go_at_call 15; refine (hval (by assumption)).mono ?_; rintro e w' ⟨rfl, hst2⟩))
        go_ret
        exact ⟨rfl, St.below (by assumption)⟩

theorem through_any {w : World} (h : St w w) (s : ByteArray) : Calls Tryd.prog 5 #[.string s] w (Yes w) := by
  by_cases hs : 16777216 < s.size
  · exact through_big h s hs
  · exact through_ok h s hs
end Go.Proofs.YtkpbbclnffmepaaDoor
