/- The walks of the code: kinds of bytes, skip, the end of a name, whether a text is a name. -/
import Derived.Test.YtggonhciakfabaaDoorLexHex
import Derived.Test.YtggonhciakfabaaDoorLexLast
import Derived.Lib.IndexLaws
namespace Go.Proofs.YtggonhciakfabaaDoor
open Go.RowKit

set_option maxRecDepth 100000 in
set_option maxHeartbeats 1000000 in
theorem digit_any (w : World) (c : UInt8) : Calls Tryd.prog 39 #[.int .u8 (c.toNat : Nat)] w fun e w' => e = .returned (.bool (isD c)) ∧ w = w' := by
  have hc := c.toNat_lt
  obtain ⟨b, hb⟩ : ∃ b, isD c = b := ⟨_, rfl⟩
  obtain ⟨n, hn⟩ : ∃ n, c.toNat = n := ⟨_, rfl⟩
  have HB : Hid (b = true ↔ (48 ≤ n ∧ n ≤ 57)) := by unfold Hid; rw [← hb, ← hn]; unfold isD; exact decide_eq_true_iff
  rw [hb]
  rw [hn] at hc ⊢
  clear hb hn
  go_enter Tryd.func39, Tryd.ntmps39
  go_wp2
  all_goals
    go_ret
    refine ⟨ret_bool (Bool.eq_iff_iff.2 (Iff.trans ?_ HB.out.symm)), rfl⟩
    first | omega | (simp; done) | (simp; omega)

set_option maxRecDepth 100000 in
set_option maxHeartbeats 1000000 in
theorem letter_any (w : World) (c : UInt8) : Calls Tryd.prog 24 #[.int .u8 (c.toNat : Nat)] w fun e w' => e = .returned (.bool (isL c)) ∧ w = w' := by
  have hc := c.toNat_lt
  obtain ⟨b, hb⟩ : ∃ b, isL c = b := ⟨_, rfl⟩
  obtain ⟨n, hn⟩ : ∃ n, c.toNat = n := ⟨_, rfl⟩
  have HB : Hid (b = true ↔ (n = 95 ∨ (97 ≤ n ∧ n ≤ 122) ∨ (65 ≤ n ∧ n ≤ 90))) := by unfold Hid; rw [← hb, ← hn]; unfold isL; exact decide_eq_true_iff
  rw [hb]
  rw [hn] at hc ⊢
  clear hb hn
  go_enter Tryd.func24, Tryd.ntmps24
  go_wp2
  all_goals
    go_ret
    refine ⟨ret_bool (Bool.eq_iff_iff.2 (Iff.trans ?_ HB.out.symm)), rfl⟩
    first | omega | (simp; done) | (simp; omega)

theorem ofNat_toNat (c : UInt8) : ((c.toNat : Nat) : Int).toNat.toUInt8 = c := by simp
theorem blank_ix (c : UInt8) : isBl c = decide (0 ≤ Lib.indexByte [32, 9, 10, 13] c) := by
  have h : ∀ n : Fin 256, isBl (UInt8.ofNat n.val) = decide (0 ≤ Lib.indexByte [32, 9, 10, 13] (UInt8.ofNat n.val)) := by decide +kernel
  have := h ⟨c.toNat, c.toNat_lt⟩
  simpa using this
theorem mark_ix (c : UInt8) : isM c = decide (0 ≤ Lib.indexByte [123, 125, 40, 41, 58, 59, 44, 61, 43, 45, 42] c) := by
  have h : ∀ n : Fin 256, isM (UInt8.ofNat n.val) = decide (0 ≤ Lib.indexByte [123, 125, 40, 41, 58, 59, 44, 61, 43, 45, 42] (UInt8.ofNat n.val)) := by decide +kernel
  have := h ⟨c.toNat, c.toNat_lt⟩
  simpa using this

set_option maxRecDepth 100000 in
set_option maxHeartbeats 1000000 in
theorem has_any (w : World) (S : ByteArray) (c : UInt8) : Calls Tryd.prog 36 #[.string S, .int .u8 (c.toNat : Nat)] w fun e w' => e = .returned (.bool (decide (0 ≤ Lib.indexByte S.data.toList c))) ∧ w = w' := by
  have ci := fun W => Tryd.strings_IndexByte S (c.toNat : Nat) W
  simp only [ofNat_toNat] at ci
  go_enter Tryd.func36, Tryd.ntmps36
  go_wp2_with (go_at_call 46; refine (ci _).mono ?_; rintro e w2 ⟨rfl, rfl⟩)
  go_ret
  exact ⟨rfl, rfl⟩
theorem blank_any (w : World) (c : UInt8) : Calls Tryd.prog 36 #[.string ⟨#[32, 9, 10, 13]⟩, .int .u8 (c.toNat : Nat)] w fun e w' => e = .returned (.bool (isBl c)) ∧ w = w' := by
  rw [blank_ix]
  exact has_any w _ c
theorem mark_any (w : World) (c : UInt8) : Calls Tryd.prog 36 #[.string ⟨#[123, 125, 40, 41, 58, 59, 44, 61, 43, 45, 42]⟩, .int .u8 (c.toNat : Nat)] w fun e w' => e = .returned (.bool (isM c)) ∧ w = w' := by
  rw [mark_ix]
  exact has_any w _ c

set_option maxRecDepth 100000 in
set_option maxHeartbeats 1000000 in
theorem clone_any (w : World) (s : ByteArray) (hs : s.size ≤ 140737488355328) : Calls Tryd.prog 42 #[.string s] w fun e w' => e = .returned (.string s) ∧ Below w.heap.size w w' := by
  have c := Tryd.stringslite_Clone s w (by omega)
  go_enter Tryd.func42, Tryd.ntmps42
  go_wp2_with (go_at_call 49; refine c.mono ?_; rintro e w' ⟨rfl, hb⟩)
  go_ret
  exact ⟨rfl, hb⟩

/-- how many bytes stand ahead of the next newline -/
def lineN : List UInt8 → Nat
  | [] => 0
  | c :: r => if c.toNat = 10 then 0 else lineN r + 1
theorem ix_line (l : List UInt8) : (Lib.indexByte l 10 = -1 ∧ lineN l = l.length) ∨ (Lib.indexByte l 10 = (lineN l : Nat) ∧ lineN l < l.length) := by
  induction l with
  | nil => exact .inl ⟨rfl, rfl⟩
  | cons c r ih =>
    unfold Lib.indexByte lineN
    simp only [List.length_cons]
    by_cases h : c.toNat = 10
    · have h2 : c = 10 := UInt8.toNat_inj.1 h
      rw [if_pos h, if_pos (by rw [h2]; rfl)]
      exact .inr ⟨rfl, by omega⟩
    · have h2 : ¬ (c == 10) = true := fun e => h (by rw [eq_of_beq e]; rfl)
      rw [if_neg h, if_neg h2]
      rcases ih with ⟨h3, h4⟩ | ⟨h3, h4⟩
      · rw [h3]
        exact .inl ⟨rfl, by omega⟩
      · rw [h3, if_neg (fun e => by have := eq_of_beq e; omega)]
        exact .inr ⟨by omega, by omega⟩
theorem lineN_le (l : List UInt8) : lineN l ≤ l.length := by rcases ix_line l with h | h <;> omega
theorem skip_line (l : List UInt8) : skipS true l = lineN l + skipS false (l.drop (lineN l)) := by
  induction l with
  | nil => rfl
  | cons c r ih =>
    unfold lineN
    rw [skip_cons]
    by_cases h : c.toNat = 10
    · have hb : isBl c = true := by unfold isBl; rw [h]; rfl
      rw [if_neg (by omega), if_pos hb, if_pos h, List.drop_zero, skip_cons, if_neg (by simp), if_pos hb]
      omega
    · rw [if_pos ⟨rfl, h⟩, if_neg h, List.drop_succ_cons, ih]
      omega
theorem skip_remark (c : UInt8) (r : List UInt8) (h : c.toNat = 35) : skipS false (c :: r) = lineN (c :: r) + skipS false ((c :: r).drop (lineN (c :: r))) := by
  have hb : isBl c = false := by unfold isBl; rw [h]; rfl
  rw [← skip_line, skip_cons, skip_cons, if_neg (by simp), if_neg (by simp [hb]), if_pos h, if_pos ⟨rfl, by omega⟩]

set_option maxRecDepth 100000 in
set_option maxHeartbeats 1000000 in
theorem line_any (w : World) (s : ByteArray) (k : Nat) (hk : k ≤ s.size) (hs : s.size ≤ 9223372036854775806) : Calls Tryd.prog 37 #[.string s, .int .i64 k] w fun e w' => e = .returned (.int .i64 ((k + lineN ((ls s).drop k) : Nat) : Int)) ∧ w = w' := by
  have hkz : (k : Int) ≤ (s.size : Int) := by omega
  have hls : ls (s.extract k s.size) = (ls s).drop k := by
    rw [ls_extract]
    exact List.take_of_length_le (by rw [List.length_drop, ls_size]; omega)
  have ci := fun W => Tryd.strings_IndexByte (s.extract k s.size) 10 W
  have e10 : (10 : Int).toNat.toUInt8 = 10 := rfl
  change ∀ W, Calls _ _ _ _ (fun e w' => e = .returned (.int .i64 (Lib.indexByte (ls (s.extract k s.size)) 10)) ∧ w' = W) at ci
  rw [hls] at ci
  have hx := ix_line ((ls s).drop k)
  rw [List.length_drop, ls_size] at hx
  generalize lineN ((ls s).drop k) = n at hx ⊢
  rcases hx with ⟨h1, h2⟩ | ⟨h1, h2⟩
  · rw [h1] at ci
    have hkn : ((k + n : Nat) : Int) = (s.size : Int) := by omega
    rw [hkn]
    clear h1 h2 hkn hls e10
    go_enter Tryd.func37, Tryd.ntmps37
    go_wp2_with (go_at_call 46; refine (ci _).mono ?_; rintro e w2 ⟨rfl, rfl⟩)
    go_ret
    exact ⟨rfl, rfl⟩
  · rw [h1] at ci
    have h3 : (k : Int) + (n : Int) < (s.size : Int) := by omega
    have h0 : (0 : Int) ≤ (n : Int) := by omega
    clear h1 h2 hls e10
    go_enter Tryd.func37, Tryd.ntmps37
    go_wp2_with (go_at_call 46; refine (ci _).mono ?_; rintro e w2 ⟨rfl, rfl⟩)
    go_ret
    exact ⟨ret_int (by omega), rfl⟩

set_option maxRecDepth 100000 in
set_option maxHeartbeats 2000000 in
theorem skip_any (w : World) (s : ByteArray) (i : Nat) (hi : i ≤ s.size) (hs : s.size ≤ 9223372036854775806) :
    Calls Tryd.prog 22 #[.string s, .int .i64 i] w fun e w' => e = .returned (.int .i64 ((i + skipS false ((ls s).drop i) : Nat) : Int)) ∧ w = w' := by
  obtain ⟨X, hX⟩ : ∃ X, i + skipS false ((ls s).drop i) = X := ⟨_, rfl⟩
  rw [hX]
  have HX := Lib.hid hX
  clear hX
  go_enter Tryd.func22, Tryd.ntmps22
  go_wp2
  go_loopw [1] (fun v wr => ∃ k : Nat, v = .int .i64 k ∧ k ≤ s.size ∧ Hid (k + skipS false ((ls s).drop k) = X) ∧ w = wr) (fun v _ => s.size - (intOf v).toNat)
  case atStart => exact ⟨i, rfl, hi, HX, rfl⟩
  case round =>
    obtain ⟨k, rfl, hk, HK, rfl⟩ := hrel
    by_cases hlt : k < s.size
    · have hltz : (k : Int) < (s.size : Int) := by omega
      obtain ⟨c, hc⟩ : ∃ c, s[k]'hlt = c := ⟨_, rfl⟩
      have hdr := drop_at s hlt
      rw [hc] at hdr
      have hk2 := HK.out
      have cb := fun W => blank_any W c
      by_cases hb : isBl c = true
      · rw [hdr, skip_cons, if_neg (by simp), if_pos hb] at hk2
        have HK2 : Hid (k + 1 + skipS false ((ls s).drop (k + 1)) = X) := by unfold Hid; omega
        simp only [hb] at cb
        clear hk2 hdr hb
        go_wp2_with (go_at_call 36; refine (cb _).mono ?_; rintro e w2 ⟨rfl, rfl⟩)
        go_roundw
        case rel => exact ⟨k + 1, by go_num, by omega, HK2, trivial⟩
        case measure => simp [intOf]; omega
      · have hbf : isBl c = false := by simpa using hb
        simp only [hbf] at cb
        by_cases h35 : c.toNat = 35
        · have h35z : ((c.toNat : Int) == 35) = true := by rw [h35]; rfl
          have cn := fun W => line_any W s k hk hs
          have hsr := skip_remark c ((ls s).drop (k + 1)) h35
          rw [← hdr] at hsr
          have hn1 : 1 ≤ lineN ((ls s).drop k) := by rw [hdr]; unfold lineN; rw [if_neg (by omega)]; omega
          have hn2 := lineN_le ((ls s).drop k)
          rw [List.length_drop, ls_size] at hn2
          rw [hsr, List.drop_drop] at hk2
          generalize lineN ((ls s).drop k) = n at cn hn1 hn2 hk2
          obtain ⟨m, hm⟩ : ∃ m, k + n = m := ⟨_, rfl⟩
          have HK2 : Hid (m + skipS false ((ls s).drop m) = X) := by unfold Hid; rw [← hm]; omega
          rw [hm] at cn
          have hkm : k < m := by omega
          have hms : m ≤ s.size := by omega
          clear hk2 hdr hb hbf h35 hsr hn1 hn2 hm
          go_wp2_with (first
            | (go_at_call 36; refine (cb _).mono ?_; rintro e w2 ⟨rfl, rfl⟩)
            | (go_at_call 37; refine (cn _).mono ?_; rintro e w2 ⟨rfl, rfl⟩))
          go_roundw
          case rel => exact ⟨m, rfl, by omega, HK2, trivial⟩
          case measure => simp [intOf]; omega
        · have h35z : ((c.toNat : Int) == 35) = false := beq_eq_false_iff_ne.2 (by omega)
          rw [hdr, skip_cons, if_neg (by simp), if_neg hb, if_neg h35] at hk2
          obtain rfl : k = X := by omega
          clear hk2 hdr hb hbf h35
          go_wp2_with (go_at_call 36; refine (cb _).mono ?_; rintro e w2 ⟨rfl, rfl⟩)
          go_ret
          exact ⟨rfl, rfl⟩
    · have hltz : ¬ (k : Int) < (s.size : Int) := by omega
      have HE : Hid (X = k) := by
        have := HK.out
        rw [drop_end s (by omega)] at this
        exact this.symm
      go_wp2
      go_ret
      exact ⟨ret_int (by rw [HE.out]), rfl⟩

set_option maxRecDepth 100000 in
set_option maxHeartbeats 2000000 in
theorem nameEnd_any (w : World) (s : ByteArray) (i : Nat) (hi : i ≤ s.size) (hs : s.size ≤ 9223372036854775806) :
    Calls Tryd.prog 25 #[.string s, .int .i64 i] w fun e w' => e = .returned (.int .i64 ((i + wordN ((ls s).drop i) : Nat) : Int)) ∧ w = w' := by
  obtain ⟨X, hX⟩ : ∃ X, i + wordN ((ls s).drop i) = X := ⟨_, rfl⟩
  rw [hX]
  have HX := Lib.hid hX
  clear hX
  go_enter Tryd.func25, Tryd.ntmps25
  go_wp2
  go_loopw [1] (fun v wr => ∃ k : Nat, v = .int .i64 k ∧ k ≤ s.size ∧ Hid (k + wordN ((ls s).drop k) = X) ∧ w = wr) (fun v _ => s.size - (intOf v).toNat)
  case atStart => exact ⟨i, rfl, hi, HX, rfl⟩
  case round =>
    obtain ⟨k, rfl, hk, HK, rfl⟩ := hrel
    by_cases hlt : k < s.size
    · have hltz : (k : Int) < (s.size : Int) := by omega
      obtain ⟨c, hc⟩ : ∃ c, s[k]'hlt = c := ⟨_, rfl⟩
      have hdr := drop_at s hlt
      rw [hc] at hdr
      have cl := fun W => letter_any W c
      have cd := fun W => digit_any W c
      have hk2 := HK.out
      rw [hdr, wordN_cons] at hk2
      by_cases hW : isW c = true
      · rw [if_pos hW] at hk2
        have HK2 : Hid (k + 1 + wordN ((ls s).drop (k + 1)) = X) := by unfold Hid; omega
        clear hk2 hdr
        by_cases hL : isL c = true
        · simp only [hL] at cl
          clear hL hW cd
          go_wp2_with (go_at_call 24; refine (cl _).mono ?_; rintro e w2 ⟨rfl, rfl⟩)
          go_roundw
          case rel => exact ⟨k + 1, by go_num, by omega, HK2, trivial⟩
          case measure => simp [intOf]; omega
        · have hLf : isL c = false := by simpa using hL
          have hD : isD c = true := by unfold isW at hW; rw [hLf, Bool.false_or] at hW; exact hW
          simp only [hLf] at cl
          simp only [hD] at cd
          clear hL hLf hD hW
          go_wp2_with (first
            | (go_at_call 24; refine (cl _).mono ?_; rintro e w2 ⟨rfl, rfl⟩)
            | (go_at_call 39; refine (cd _).mono ?_; rintro e w2 ⟨rfl, rfl⟩))
          go_roundw
          case rel => exact ⟨k + 1, by go_num, by omega, HK2, trivial⟩
          case measure => simp [intOf]; omega
      · rw [if_neg hW] at hk2
        have hWf : isL c = false ∧ isD c = false := by unfold isW at hW; simpa using hW
        simp only [hWf.1] at cl
        simp only [hWf.2] at cd
        have HE : Hid (X = k) := by unfold Hid; omega
        clear hdr hW hWf hk2
        go_wp2_with (first
          | (go_at_call 24; refine (cl _).mono ?_; rintro e w2 ⟨rfl, rfl⟩)
          | (go_at_call 39; refine (cd _).mono ?_; rintro e w2 ⟨rfl, rfl⟩))
        go_ret
        exact ⟨ret_int (by rw [HE.out]), rfl⟩
    · have hltz : ¬ (k : Int) < (s.size : Int) := by omega
      have HE : Hid (X = k) := by
        have := HK.out
        rw [drop_end s (by omega)] at this
        exact this.symm
      go_wp2
      go_ret
      exact ⟨ret_int (by rw [HE.out]), rfl⟩
end Go.Proofs.YtggonhciakfabaaDoor
