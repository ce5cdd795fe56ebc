/- The walks of the reference: a name, a number. -/
import Derived.Test.YtggonhciakfabaaDoorLexRefS
namespace Go.Proofs.YtggonhciakfabaaDoor
open Go.RowKit

/-- what is answered of a token that stands at i, or of its fault -/
def TokAt (r : TR) (i : Nat) (w : World) (e : Ending) (w' : World) : Prop :=
  Below w.heap.size w w' ∧ match r with
    | .tok k t n len => e = .returned (.tuple #[.agg (tkC ⟨k, t, n, i, i + len⟩), .int .i64 0, .int .i64 0])
    | .bad o x => e = .returned (.tuple #[.agg (tkC tk0), .int .i64 ((i + o : Nat) : Int), .int .i64 (x : Nat)])

theorem wordN_cons (c : UInt8) (r : List UInt8) : wordN (c :: r) = if isW c then wordN r + 1 else 0 := by
  unfold wordN
  rw [List.takeWhile_cons]
  split <;> simp
theorem numN_cons (c : UInt8) (r : List UInt8) : numN (c :: r) = if isD c then numN r + 1 else 0 := by
  unfold numN
  rw [List.takeWhile_cons]
  split <;> simp

theorem tkz (w : World) : TBlk (w.alloc (.cells (tkC tk0) 32)) w.heap.size tk0 := TBlk.new w tk0
theorem below_alloc {w w9 : World} {o : Obj} (h : Turned w.heap.size (w.alloc o) w9) : Below w.heap.size w w9 := ((Below.refl _ w).alloc (Nat.le_refl _) _).trans (h.below (Nat.le_refl _))

/-- the name that stands at i -/
def wordR (l : List UInt8) : TR := if 64 < wordN l then .bad 0 111 else .tok 1 (l.take (wordN l)) 0 (wordN l)

set_option maxRecDepth 100000 in
set_option maxHeartbeats 2000000 in
theorem rword_any (w : World) (s : ByteArray) (i : Nat) (hi : i ≤ s.size) (hs : s.size ≤ 1048576) :
    Calls Tryd.prog 32 #[.string s, .int .i64 i] w (TokAt (wordR ((ls s).drop i)) i w) := by
  obtain ⟨X, hX⟩ : ∃ X, wordN ((ls s).drop i) = X := ⟨_, rfl⟩
  obtain ⟨R, hR⟩ : ∃ R, wordR ((ls s).drop i) = R := ⟨_, rfl⟩
  rw [hR]
  have HX := Lib.hid hX
  have HR := Lib.hid hR
  have hz := tkz w
  clear hX hR
  go_enter Tryd.func32, Tryd.ntmps32
  go_wp2
  go_loopw [7] (fun v wr => ∃ k : Nat, v = .int .i64 k ∧ i ≤ k ∧ k ≤ s.size ∧ Hid ((k - i) + wordN ((ls s).drop k) = X) ∧ w.alloc (.cells (tkC tk0) 32) = wr) (fun v _ => s.size - (intOf v).toNat)
  case atStart => exact ⟨i, rfl, Nat.le_refl _, hi, by unfold Hid; rw [HX.out]; omega, rfl⟩
  case round =>
    obtain ⟨k, rfl, hik, hk, HK, rfl⟩ := hrel
    by_cases hlt : k < s.size
    · have hltz : (k : Int) < (s.size : Int) := by omega
      obtain ⟨c, hc⟩ : ∃ c, s[k]'hlt = c := ⟨_, rfl⟩
      have hdr := drop_at s hlt
      rw [hc] at hdr
      have cl := fun W => rletter_any W c
      have cd := fun W => rdigit_any W c
      have hk2 := HK.out
      rw [hdr, wordN_cons] at hk2
      by_cases hW : isW c = true
      · rw [if_pos hW] at hk2
        have HK2 : Hid ((k + 1 - i) + wordN ((ls s).drop (k + 1)) = X) := by unfold Hid; omega
        clear hk2 hdr
        by_cases hL : isL c = true
        · simp only [hL] at cl
          clear hL hW
          go_wp2_with (first
            | (go_at_call 26; refine (cl _).mono ?_; rintro e w2 ⟨rfl, rfl⟩)
            | (go_at_call 27; refine (cd _).mono ?_; rintro e w2 ⟨rfl, rfl⟩))
          go_roundw
          case rel => exact ⟨k + 1, by go_num, by omega, by omega, HK2, trivial⟩
          case measure => simp [intOf]; omega
        · have hLf : isL c = false := by simpa using hL
          have hD : isD c = true := by unfold isW at hW; rw [hLf, Bool.false_or] at hW; exact hW
          simp only [hLf] at cl
          simp only [hD] at cd
          clear hL hLf hD hW
          go_wp2_with (first
            | (go_at_call 26; refine (cl _).mono ?_; rintro e w2 ⟨rfl, rfl⟩)
            | (go_at_call 27; refine (cd _).mono ?_; rintro e w2 ⟨rfl, rfl⟩))
          go_roundw
          case rel => exact ⟨k + 1, by go_num, by omega, by omega, HK2, trivial⟩
          case measure => simp [intOf]; omega
      · rw [if_neg hW] at hk2
        have hWf : isL c = false ∧ isD c = false := by unfold isW at hW; simpa using hW
        simp only [hWf.1] at cl
        simp only [hWf.2] at cd
        have HE : Hid (X = k - i) := by unfold Hid; omega
        clear hdr hW hWf hk2
        by_cases h64 : 64 < k - i
        · have hz64 : (64 : Int) < (k : Int) - (i : Int) := by omega
          have HRE : Hid (R = .bad 0 111) := by unfold Hid; rw [← HR.out]; unfold wordR; rw [HX.out, HE.out, if_pos h64]
          go_wp2_with (first
            | (go_at_call 26; refine (cl _).mono ?_; rintro e w2 ⟨rfl, rfl⟩)
            | (go_at_call 27; refine (cd _).mono ?_; rintro e w2 ⟨rfl, rfl⟩)
            | (refine wpList_store_tok rfl (.tmp 4) (.tmp 31) rfl w.heap.size tk0 tk0 rfl rfl hz ?_; intro w9 h9 t9))
          rw [HRE.out]
          exact bodyPost_ret (v := .tuple #[.agg (tkC tk0), .int .i64 ((i + 0 : Nat) : Int), .int .i64 ((111 : Nat) : Int)]) (results_tok rfl _ _ _ _ _ _ rfl rfl rfl h9) rfl ⟨below_alloc t9, rfl⟩
        · have hz64 : ¬ (64 : Int) < (k : Int) - (i : Int) := by omega
          have hle : (i : Int) ≤ (k : Int) := by omega
          have HRE : Hid (R = .tok 1 (ls (s.extract i k)) 0 (k - i)) := by
            unfold Hid
            rw [← HR.out]
            unfold wordR
            rw [HX.out, HE.out, if_neg h64, ls_extract]
          go_wp2_with (first
            | (go_at_call 26; refine (cl _).mono ?_; rintro e w2 ⟨rfl, rfl⟩)
            | (go_at_call 27; refine (cd _).mono ?_; rintro e w2 ⟨rfl, rfl⟩)
            | (refine wpList_store_tok rfl (.tmp 4) (.tmp 39) rfl w.heap.size tk0 ⟨1, ls (s.extract i k), 0, i, k⟩ rfl rfl hz ?_; intro w9 h9 t9))
          rw [HRE.out]
          refine bodyPost_ret (v := .tuple #[.agg (tkC ⟨1, ls (s.extract i k), 0, i, k⟩), .int .i64 0, .int .i64 0]) (results_tok rfl _ _ _ _ _ _ rfl rfl rfl h9) rfl ⟨below_alloc t9, ?_⟩
          show Ending.returned _ = Ending.returned _
          rw [show i + (k - i) = k by omega]
    · obtain rfl : k = s.size := by omega
      have hk2 := HK.out
      rw [drop_end s (Nat.le_refl _)] at hk2
      have HE : Hid (X = s.size - i) := hk2.symm
      clear hk2
      by_cases h64 : 64 < s.size - i
      · have hz64 : (64 : Int) < (s.size : Int) - (i : Int) := by omega
        have HRE : Hid (R = .bad 0 111) := by unfold Hid; rw [← HR.out]; unfold wordR; rw [HX.out, HE.out, if_pos h64]
        go_wp2_with (refine wpList_store_tok rfl (.tmp 4) (.tmp 31) rfl w.heap.size tk0 tk0 rfl rfl hz ?_; intro w9 h9 t9)
        rw [HRE.out]
        exact bodyPost_ret (v := .tuple #[.agg (tkC tk0), .int .i64 ((i + 0 : Nat) : Int), .int .i64 ((111 : Nat) : Int)]) (results_tok rfl _ _ _ _ _ _ rfl rfl rfl h9) rfl ⟨below_alloc t9, rfl⟩
      · have hz64 : ¬ (64 : Int) < (s.size : Int) - (i : Int) := by omega
        have hle : (i : Int) ≤ (s.size : Int) := by omega
        have HRE : Hid (R = .tok 1 (ls (s.extract i s.size)) 0 (s.size - i)) := by
          unfold Hid
          rw [← HR.out]
          unfold wordR
          rw [HX.out, HE.out, if_neg h64, ls_extract]
        go_wp2_with (refine wpList_store_tok rfl (.tmp 4) (.tmp 39) rfl w.heap.size tk0 ⟨1, ls (s.extract i s.size), 0, i, s.size⟩ rfl rfl hz ?_; intro w9 h9 t9)
        rw [HRE.out]
        refine bodyPost_ret (v := .tuple #[.agg (tkC ⟨1, ls (s.extract i s.size), 0, i, s.size⟩), .int .i64 0, .int .i64 0]) (results_tok rfl _ _ _ _ _ _ rfl rfl rfl h9) rfl ⟨below_alloc t9, ?_⟩
        show Ending.returned _ = Ending.returned _
        rw [show i + (s.size - i) = s.size by omega]
end Go.Proofs.YtggonhciakfabaaDoor
