/- The walk of VarintZigs. -/
import Derived.Test.YtbnlglcjamifpaaVarLives
namespace Go.Proofs.Ytbnlglcjamifpaa
open Go.RowKit
open Go.Lib (byteCells uvarint)

theorem zag_int (x : Int) (w : World) (h0 : 0 ≤ x) (h1 : x ≤ 18446744073709551615) :
    Calls Try.prog 17 #[.int .u64 x] w fun e w' => e = .returned (.int .i64 (zag x)) ∧ w = w' := by
  obtain ⟨n, rfl⟩ := Int.eq_ofNat_of_zero_le h0
  exact zag_any n w (by omega)
theorem size_shift (x : Nat) (w : World) (h : 0 < x) (h1 : x < 144115188075855872) :
    Calls Try.prog 13 #[.int .u64 ((x : Int) * 128)] w fun e w' => e = .returned (.int .i64 ((vsz x : Int) + 1)) ∧ w = w' := by
  have := size_any (x * 128) w (by omega)
  rw [vsz_shift x h] at this
  exact this
theorem zig_zag (x : Nat) : zig (zag x) = x := by
  unfold zig zag
  by_cases h : (x : Int) % 2 = 1
  · rw [if_pos h, if_neg (by omega)]; omega
  · rw [if_neg h, if_pos (by omega)]; omega
theorem zag_zig (z : Int) : zag (zig z) = z := by
  unfold zig zag
  by_cases h : 0 ≤ z
  · rw [if_pos h, if_neg (by omega)]; omega
  · rw [if_neg h, if_pos (by omega)]; omega

theorem size_shift_int (X : Int) (x : Nat) (hX : X = x) (w : World) (h : 0 < X) (h1 : X < 144115188075855872) :
    Calls Try.prog 13 #[.int .u64 (X * 128)] w fun e w' => e = .returned (.int .i64 ((vsz x : Int) + 1)) ∧ w = w' := by
  subst hX
  exact size_shift x w (by omega) (by omega)

/-- what is asked of x and of its Zag -/
def ZagIs (X s : Int) : Prop := (X % 2 = 1 ∧ s < 0 ∧ s = -(X / 2) - 1) ∨ (X % 2 = 0 ∧ 0 ≤ s ∧ s = X / 2)

set_option maxRecDepth 100000 in
set_option maxHeartbeats 2000000 in
theorem zigs_walk (X Y s z q : Int) (x y : Nat) (w : World) (hX0 : 0 ≤ X) (hX : X ≤ 18446744073709551615) (hY0 : 0 ≤ Y) (hY : Y ≤ 18446744073709551615)
    (HX : Hid (X = x)) (HY : Hid (Y = y)) (hs0 : -9223372036854775808 ≤ s) (hs9 : s ≤ 9223372036854775807) (HS : Hid (ZagIs X s)) (hw : IntKind.i64.wrap Y = z) (hvx : vsz x ≤ 10) (_hvy : vsz y ≤ 10) (hL : (uvarint x).length = vsz x)
    (Zagx : Hid (∀ W, Calls Try.prog 17 #[.int .u64 X] W fun e w' => e = .returned (.int .i64 s) ∧ W = w'))
    (Zigs : Hid (∀ W, Calls Try.prog 15 #[.int .i64 s] W fun e w' => e = .returned (.int .u64 X) ∧ W = w'))
    (Zigz : Hid (∀ W, Calls Try.prog 15 #[.int .i64 z] W fun e w' => e = .returned (.int .u64 q) ∧ W = w'))
    (Zagz : Hid (∀ W, Calls Try.prog 17 #[.int .u64 q] W fun e w' => e = .returned (.int .i64 z) ∧ W = w'))
    (Sizx : Hid (∀ W, Calls Try.prog 13 #[.int .u64 X] W fun e w' => e = .returned (.int .i64 (vsz x)) ∧ W = w'))
    (Sizy : Hid (∀ W, Calls Try.prog 13 #[.int .u64 Y] W fun e w' => e = .returned (.int .i64 (vsz y)) ∧ W = w'))
    (Putx : Hid (∀ W, Calls Try.prog 11 #[.slice none 0 0, .int .u64 X] W (NewRow W (uvarint x)))) :
    Calls Try.prog 7 #[.int .u64 X, .int .u64 Y] w (Yes w) := by
  have hm : Y < X → vsz y ≤ vsz x := fun h => vsz_mono x y (by have := HX.out; have := HY.out; omega)
  have HM := Lib.hid hm
  clear hm
  rcases HS.out with ⟨ho, hs1, hs2⟩ | ⟨ho, hs1, hs2⟩
  · have b1 : (X % 2 == 1) = true := by simp; omega
    have b2 : (-(s + 1) != X / 2) = false := by simp; omega
    clear ho hs2
    by_cases hxy : Y < X
    · have hm := HM.out hxy
      go_enter Try.func7, Try.ntmps7
      go_wp2_with fail
      refine (lives_any _).mono ?_
      rintro e w1 ⟨rfl, hB1⟩
      go_wp2_with fail
      refine (Zagx.out _).mono ?_
      rintro e w2 ⟨rfl, rfl⟩
      go_wp2_with fail
      refine (Zigs.out _).mono ?_
      rintro e w2 ⟨rfl, rfl⟩
      go_wp2_with fail
      refine (Zigz.out _).mono ?_
      rintro e w2 ⟨rfl, rfl⟩
      go_wp2_with fail
      refine (Zagz.out _).mono ?_
      rintro e w2 ⟨rfl, rfl⟩
      go_wp2_with (first
        | (go_at_call 13; ((with_reducible refine (Sizx.out _).mono ?_); rintro e w2 ⟨rfl, rfl⟩))
        | (go_at_call 13; ((with_reducible refine (Sizy.out _).mono ?_); rintro e w2 ⟨rfl, rfl⟩))
        | (go_at_call 13; ((with_reducible refine (size_shift_int X x HX.out _ (by assumption) (by assumption)).mono ?_); rintro e w2 ⟨rfl, rfl⟩))
        | (go_at_call 11; ((with_reducible refine (Putx.out _).mono ?_); rintro e w3 ⟨g, cap, rfl, hown, hB2⟩)))
      all_goals
        go_ret
        exact ⟨rfl, Below.both hB1 hB2⟩
    · clear HM
      go_enter Try.func7, Try.ntmps7
      go_wp2_with fail
      refine (lives_any _).mono ?_
      rintro e w1 ⟨rfl, hB1⟩
      go_wp2_with fail
      refine (Zagx.out _).mono ?_
      rintro e w2 ⟨rfl, rfl⟩
      go_wp2_with fail
      refine (Zigs.out _).mono ?_
      rintro e w2 ⟨rfl, rfl⟩
      go_wp2_with fail
      refine (Zigz.out _).mono ?_
      rintro e w2 ⟨rfl, rfl⟩
      go_wp2_with fail
      refine (Zagz.out _).mono ?_
      rintro e w2 ⟨rfl, rfl⟩
      go_wp2_with (first
        | (go_at_call 13; ((with_reducible refine (Sizx.out _).mono ?_); rintro e w2 ⟨rfl, rfl⟩))
        | (go_at_call 13; ((with_reducible refine (Sizy.out _).mono ?_); rintro e w2 ⟨rfl, rfl⟩))
        | (go_at_call 13; ((with_reducible refine (size_shift_int X x HX.out _ (by assumption) (by assumption)).mono ?_); rintro e w2 ⟨rfl, rfl⟩))
        | (go_at_call 11; ((with_reducible refine (Putx.out _).mono ?_); rintro e w3 ⟨g, cap, rfl, hown, hB2⟩)))
      all_goals
        go_ret
        exact ⟨rfl, Below.both hB1 hB2⟩
  · have b1 : (X % 2 == 1) = false := by simp; omega
    have b2 : (s != X / 2) = false := by simp; omega
    clear ho hs2
    by_cases hxy : Y < X
    · have hm := HM.out hxy
      go_enter Try.func7, Try.ntmps7
      go_wp2_with fail
      refine (lives_any _).mono ?_
      rintro e w1 ⟨rfl, hB1⟩
      go_wp2_with fail
      refine (Zagx.out _).mono ?_
      rintro e w2 ⟨rfl, rfl⟩
      go_wp2_with fail
      refine (Zigs.out _).mono ?_
      rintro e w2 ⟨rfl, rfl⟩
      go_wp2_with fail
      refine (Zigz.out _).mono ?_
      rintro e w2 ⟨rfl, rfl⟩
      go_wp2_with fail
      refine (Zagz.out _).mono ?_
      rintro e w2 ⟨rfl, rfl⟩
      go_wp2_with (first
        | (go_at_call 13; ((with_reducible refine (Sizx.out _).mono ?_); rintro e w2 ⟨rfl, rfl⟩))
        | (go_at_call 13; ((with_reducible refine (Sizy.out _).mono ?_); rintro e w2 ⟨rfl, rfl⟩))
        | (go_at_call 13; ((with_reducible refine (size_shift_int X x HX.out _ (by assumption) (by assumption)).mono ?_); rintro e w2 ⟨rfl, rfl⟩))
        | (go_at_call 11; ((with_reducible refine (Putx.out _).mono ?_); rintro e w3 ⟨g, cap, rfl, hown, hB2⟩)))
      all_goals
        go_ret
        exact ⟨rfl, Below.both hB1 hB2⟩
    · clear HM
      go_enter Try.func7, Try.ntmps7
      go_wp2_with fail
      refine (lives_any _).mono ?_
      rintro e w1 ⟨rfl, hB1⟩
      go_wp2_with fail
      refine (Zagx.out _).mono ?_
      rintro e w2 ⟨rfl, rfl⟩
      go_wp2_with fail
      refine (Zigs.out _).mono ?_
      rintro e w2 ⟨rfl, rfl⟩
      go_wp2_with fail
      refine (Zigz.out _).mono ?_
      rintro e w2 ⟨rfl, rfl⟩
      go_wp2_with fail
      refine (Zagz.out _).mono ?_
      rintro e w2 ⟨rfl, rfl⟩
      go_wp2_with (first
        | (go_at_call 13; ((with_reducible refine (Sizx.out _).mono ?_); rintro e w2 ⟨rfl, rfl⟩))
        | (go_at_call 13; ((with_reducible refine (Sizy.out _).mono ?_); rintro e w2 ⟨rfl, rfl⟩))
        | (go_at_call 13; ((with_reducible refine (size_shift_int X x HX.out _ (by assumption) (by assumption)).mono ?_); rintro e w2 ⟨rfl, rfl⟩))
        | (go_at_call 11; ((with_reducible refine (Putx.out _).mono ?_); rintro e w3 ⟨g, cap, rfl, hown, hB2⟩)))
      all_goals
        go_ret
        exact ⟨rfl, Below.both hB1 hB2⟩

theorem zigs_any (x y : Nat) (w : World) (hx : x ≤ 18446744073709551615) (hy : y ≤ 18446744073709551615) :
    Calls Try.prog 7 #[.int .u64 x, .int .u64 y] w (Yes w) := by
  have hzb : -9223372036854775808 ≤ IntKind.i64.wrap (y : Int) ∧ IntKind.i64.wrap (y : Int) ≤ 9223372036854775807 := by
    rw [IntKind.wrap_i64]; omega
  have hzs := zig_zag x
  have hzz := zag_zig (IntKind.i64.wrap (y : Int))
  have hs : ZagIs x (zag x) := by
    unfold ZagIs zag
    by_cases h : (x : Int) % 2 = 1
    · left; rw [if_pos h]; omega
    · right; rw [if_neg h]; omega
  have hsb : -9223372036854775808 ≤ zag x ∧ zag x ≤ 9223372036854775807 := by
    rcases hs with h | h <;> omega
  refine zigs_walk x y (zag x) _ (zig (IntKind.i64.wrap (y : Int))) x y w (by omega) (by omega) (by omega) (by omega) rfl rfl hsb.1 hsb.2 hs rfl (vsz_le (by omega)) (vsz_le (by omega)) rfl
    (fun W => zag_any x W hx) (fun W => ?_) (fun W => zig_any _ W hzb.1 hzb.2) (fun W => ?_) (fun W => size_any x W hx) (fun W => size_any y W hy) (fun W => put_nil x W hx)
  · have := zig_any (zag x) W hsb.1 hsb.2
    rw [hzs] at this
    exact this
  · have := zag_int (zig (IntKind.i64.wrap (y : Int))) W (by unfold zig; split <;> omega) (by unfold zig; split <;> omega)
    rw [hzz] at this
    exact this
end Go.Proofs.Ytbnlglcjamifpaa
