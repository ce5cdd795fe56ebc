/- The walk of VarintPuts. -/
import Derived.Test.YtbnlglcjamifpaaVarLives
import Derived.Test.YtbnlglcjamifpaaBytOpen
namespace Go.Proofs.Ytbnlglcjamifpaa
open Go.RowKit
open Go.Lib (byteCells uvarint)

set_option maxRecDepth 100000 in
set_option maxHeartbeats 2000000 in
theorem puts_any {w : World} {A B : Option Addr} {b : List UInt8} {l : List Nat} (c d : Nat) (hA : Byt w w.heap.size A b) (hB : U64s w w.heap.size B l) (hl : ∀ n ∈ l, n ≤ 18446744073709551615) (hm : b.length ≤ 140737488351232) (hm2 : l.length ≤ 140737488351232) :
    Calls Try.prog 3 #[.slice A b.length c, .slice B l.length d] w (Yes w) := by
  have HL := Lib.hid hl
  clear hl
  by_cases hbig : 1048576 < b.length
  · go_enter Try.func3, Try.ntmps3
    go_wp2_with fail
    refine (lives_any _).mono ?_
    rintro e w1 ⟨rfl, hB1⟩
    go_wp2_with fail
    go_ret
    exact ⟨rfl, hB1⟩
  · go_enter Try.func3, Try.ntmps3
    go_wp2_with fail
    refine (lives_any _).mono ?_
    rintro e w1 ⟨rfl, hB1⟩
    go_wp2_with fail
    go_loopw [5] (fun i wr => ∃ k : Nat, i = .int .i64 k ∧ k ≤ l.length ∧ Below w.heap.size w wr) (fun i _ => l.length - (intOf i).toNat)
    case atStart => exact ⟨0, rfl, Nat.zero_le _, hB1⟩
    case round =>
      obtain ⟨k, rfl, hk, hBr⟩ := hrel
      by_cases hlt : k < l.length
      · by_cases h64 : k < 64
        · obtain ⟨g, o, rfl, hg, hc⟩ := (hB.below hBr).at_ (by omega)
          have hck := hc k hlt
          have hx := HL.out l[k] (List.getElem_mem hlt)
          clear hc
          obtain ⟨x, hxe⟩ : ∃ x, x = l[k] := ⟨_, rfl⟩
          rw [← hxe] at hck hx
          clear hxe
          have hAr := hA.below hBr
          obtain ⟨z, hz⟩ : ∃ z, z = IntKind.i64.wrap (x : Int) := ⟨_, rfl⟩
          have hzb : -9223372036854775808 ≤ z ∧ z ≤ 9223372036854775807 := by
            rw [hz, IntKind.wrap_i64]; omega
          have hw : IntKind.i64.wrap (x : Int) = z := hz.symm
          obtain ⟨r, hr⟩ : ∃ r, r = b ++ uvarint x := ⟨_, rfl⟩
          have HR := Lib.hid hr
          clear hr
          have HX := Lib.hid hx
          have HZ := Lib.hid hzb
          clear hx hzb hz
          go_wp2_with fail
          refine (put_as c x r HR (hAr.more hBr.size) (by omega) HX.out).mono ?_
          rintro e w2 ⟨g2, cap2, rfl, hown2, hB2⟩
          have HO2 := Lib.hid hown2
          clear hown2
          go_wp2_with fail
          refine (rput_as c x r HR ((hAr.more hBr.size).then_ hB2) (by omega) HX.out).mono ?_
          rintro e w3 ⟨g3, cap3, rfl, hown3, hB3⟩
          have HO3 := Lib.hid hown3
          clear hown3
          go_wp2_with fail
          refine (alike_any _ _ ((NewRow.reads HO2.out).then_ hB3) (NewRow.reads HO3.out)).mono ?_
          rintro e w4 ⟨rfl, rfl⟩
          go_wp2_with (first
            | (go_at_call 13; refine (size_any _ _ HX.out).mono ?_; rintro e w5 ⟨rfl, rfl⟩)
            | (go_at_call 14; refine (rsize_any _ _ HX.out).mono ?_; rintro e w5 ⟨rfl, rfl⟩)
            | (go_at_call 15; refine (zig_any _ _ HZ.out.1 HZ.out.2).mono ?_; rintro e w5 ⟨rfl, rfl⟩)
            | (go_at_call 16; refine (rzig_any _ _ HZ.out.1 HZ.out.2).mono ?_; rintro e w5 ⟨rfl, rfl⟩)
            | (go_at_call 17; refine (zag_any _ _ HX.out).mono ?_; rintro e w5 ⟨rfl, rfl⟩)
            | (go_at_call 18; refine (rzag_any _ _ HX.out).mono ?_; rintro e w5 ⟨rfl, rfl⟩))
          go_roundw
          case rel => exact ⟨k + 1, by go_num, by omega, hBr.trans (Below.mono (Below.both hB2 hB3) hBr.size)⟩
          case measure => simp [intOf]; omega
        · go_wp2_with fail
          go_ret
          exact ⟨rfl, hBr⟩
      · go_wp2_with fail
        go_ret
        exact ⟨rfl, hBr⟩

end Go.Proofs.Ytbnlglcjamifpaa
