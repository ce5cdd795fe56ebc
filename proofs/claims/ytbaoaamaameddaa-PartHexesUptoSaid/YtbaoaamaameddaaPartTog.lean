/- The walk of together: the texts one behind the other. -/
import Derived.Test.YtbaoaamaameddaaPartMem
namespace Go.Proofs.Ytbaoaamaameddaa
open Go.RowKit
open Go.Lib (byteCells)

set_option maxRecDepth 100000 in
set_option maxHeartbeats 2000000 in
theorem together_any {w : World} {A : Option Addr} (xs : List ByteArray) (c : Nat) (h : Strs w w.heap.size A xs) (hs : lens xs ≤ 281474976710656) (hn : xs.length ≤ 9223372036854775807) :
    Calls Try.prog 24 #[.slice A xs.length c] w fun e w' => e = .returned (.string (cat xs)) ∧ Below w.heap.size w w' := by
  have H := Lib.hid h
  clear h
  go_enter Try.func24, Try.ntmps24
  go_wp2
  go_loop [3, 11] (fun n i => ∃ k : Nat, k ≤ xs.length ∧ i = .int .i64 k ∧ n = .int .i64 (lens (xs.take k) : Nat)) (fun _ i => xs.length - (intOf i).toNat)
  case atStart => exact ⟨0, Nat.zero_le _, rfl, rfl⟩
  case round =>
    obtain ⟨k, hk, rfl, rfl⟩ := hrel
    by_cases hkn : k < xs.length
    · obtain ⟨b, o, rfl, hb, hc⟩ := H.out.at_ (by omega)
      have hck := hc k hkn
      have hstep := lens_take xs k hkn
      have hbound := lens_take_le xs (k + 1)
      obtain ⟨x, hx⟩ : ∃ x, xs[k] = x := ⟨_, rfl⟩
      obtain ⟨L0, hL0⟩ : ∃ L0, lens (xs.take k) = L0 := ⟨_, rfl⟩
      obtain ⟨L1, hL1⟩ : ∃ L1, lens (xs.take (k + 1)) = L1 := ⟨_, rfl⟩
      rw [hx] at hck hstep
      rw [hL0]
      rw [hL0, hL1] at hstep
      rw [hL1] at hbound
      have HL1 := Lib.hid hL1
      clear hx hL0 hL1 hc
      go_wp2
      exact ⟨⟨k + 1, by omega, by go_num, by rw [HL1.out]; refine congrArg _ ?_; omega⟩, by simp [intOf]; omega⟩
    · obtain rfl : k = xs.length := by omega
      rw [List.take_length]
      obtain ⟨N, hN⟩ : ∃ N, lens xs = N := ⟨_, rfl⟩
      rw [hN]
      rw [hN] at hs
      have HN := Lib.hid hN
      clear hN
      go_wp2_with (go_at_call 29; refine (bld_fresh (w := w) hs).mono ?_; rintro e w1 ⟨rfl, hbld, hBw⟩)
      obtain ⟨B, hB⟩ : ∃ B, w.heap.size = B := ⟨_, rfl⟩
      rw [hB] at hBw hbld ⊢
      have HB := Lib.hid hB
      clear hB
      go_wp2
      go_loopw [24] (fun i wr => ∃ k : Nat, k ≤ xs.length ∧ i = .int .i64 k ∧ Bld B B N (catL (xs.take k)) wr ∧ Below B w wr) (fun i _ => xs.length - (intOf i).toNat)
      case atStart => exact ⟨0, Nat.zero_le _, rfl, hbld, hBw⟩
      case round =>
        obtain ⟨k, hk, rfl, hI, hbw⟩ := hrel
        by_cases hkn : k < xs.length
        · obtain ⟨b, o, rfl, hb, hc⟩ := H.out.at_ (by omega)
          rw [HB.out] at hb
          have hck := (hbw.cell (p := ⟨b, o + k, none⟩) hb).trans (hc k hkn)
          have hstep := catL_take xs k hkn
          have hle := lens_take_le xs (k + 1)
          have hls := lens_take xs k hkn
          rw [HN.out] at hle
          obtain ⟨x, hx⟩ : ∃ x, xs[k] = x := ⟨_, rfl⟩
          obtain ⟨l0, hl0⟩ : ∃ l0, catL (xs.take k) = l0 := ⟨_, rfl⟩
          obtain ⟨l1, hl1⟩ : ∃ l1, catL (xs.take (k + 1)) = l1 := ⟨_, rfl⟩
          rw [hx] at hck hstep hls
          rw [hl0] at hI
          rw [hl0, hl1] at hstep
          have hlen : l0.length + x.size ≤ N := by
            unfold lens at hle hls
            rw [hl1] at hle hls
            rw [hl0] at hls
            omega
          have hsz : B ≤ wr.heap.size := by have := hbw.size; have := HB.out; omega
          have HS := Lib.hid hstep
          have HL := Lib.hid hl1
          clear hx hl0 hl1 hstep hc hle hls
          go_wp2_with (go_at_call 30; refine (hI.write x hlen hsz l1 HS.out).mono ?_; rintro e w2 ⟨rfl, h2, b2⟩)
          go_roundw
          case rel => exact ⟨k + 1, by omega, by go_num, by rw [HL.out]; exact h2, hbw.trans b2⟩
          case measure => simp [intOf]; omega
        · obtain rfl : k = xs.length := by omega
          rw [List.take_length] at hI
          have hsz : B ≤ wr.heap.size := by have := hbw.size; have := HB.out; omega
          go_wp2_with (go_at_call 31; refine (Try.Builder_String_any B B (catL xs) _ hI.1 hsz).mono ?_)
          rintro e w2 ⟨rfl, b2⟩
          go_wp2
          go_ret
          have hb := hbw.trans b2
          rw [← HB.out] at hb
          exact ⟨rfl, hb⟩
end Go.Proofs.Ytbaoaamaameddaa
