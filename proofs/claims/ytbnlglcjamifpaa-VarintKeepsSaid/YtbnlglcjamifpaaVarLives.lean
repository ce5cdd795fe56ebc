/- The walk of the statements' first question. -/
import Derived.Test.YtbnlglcjamifpaaVarRPut
namespace Go.Proofs.Ytbnlglcjamifpaa
open Go.RowKit
open Go.Lib (byteCells uvarint)

theorem uv300 : uvarint 300 = [172, 2] := by
  rw [Go.Lib.uvarint_big (by decide), Go.Lib.uvarint_small (by decide)]; rfl

theorem put300 (w : World) : Calls Try.prog 11 #[.slice none 0 0, .int .u64 300] w (NewRow w [172, 2]) := by
  have h := put_any (w := w) (A := none) (l := []) 0 300 Byt.nil (by decide) (by decide)
  rw [uv300] at h
  exact h

theorem NewRow.reads {W w' : World} {l : List UInt8} {g cap : Nat} (h : w'.ownsRow W.heap.size 5 1 (.slice (some ⟨g, 0, none⟩) l.length cap) l.length (byteCells l)) : Byt w' w'.heap.size (some ⟨g, 0, none⟩) l := (Byt.own h).2

theorem st300 : stops 0 [172, 2] = (2, 0) := by decide
theorem take300 {w : World} {B : Nat} {A : Option Addr} (c : Nat) (h : Byt w B A [172, 2]) : Calls Try.prog 20 #[.slice A 2 c] w fun e w' => e = .returned (.tuple #[.int .u64 300, .int .i64 2, .int .i64 0]) ∧ w = w' :=
  take_any c h (by decide)

/-- a list of bytes that was just made -/
theorem Byt.made (w : World) (cs : Array Value) (l : List UInt8) (h : cs.toList = byteCells l) (T : TypeId) : Byt (w.alloc (.cells cs T)) (w.alloc (.cells cs T)).heap.size (some ⟨w.heap.size, 0, none⟩) l := by
  refine .inr ⟨w.heap.size, 0, rfl, by simp, fun j hj => ?_⟩
  rw [cell_of_row _ w.heap.size _ cs T (0, 0) (heap_alloc_new w _), Nat.zero_add]
  rw [← Array.getElem?_toList, h]
  exact byteCells_get l j hj

theorem put_nil (x : Nat) (w : World) (hx : x ≤ 18446744073709551615) : Calls Try.prog 11 #[.slice none 0 0, .int .u64 x] w (NewRow w (uvarint x)) :=
  put_any (w := w) (A := none) (l := []) 0 x Byt.nil (by decide) hx
def Yes (W : World) (e : Ending) (w' : World) : Prop := e = .returned (.bool true) ∧ Below W.heap.size W w'

theorem vsz300 : vsz 300 = 2 := by unfold vsz; rw [uv300]; rfl
theorem size300 (w : World) : Calls Try.prog 13 #[.int .u64 300] w fun e w' => e = .returned (.int .i64 2) ∧ w = w' := by
  have h := size_any 300 w (by decide)
  rw [vsz300] at h
  exact h
theorem zig1 (w : World) : Calls Try.prog 15 #[.int .i64 (-1)] w fun e w' => e = .returned (.int .u64 1) ∧ w = w' := zig_any (-1) w (by decide) (by decide)
theorem zag3 (w : World) : Calls Try.prog 17 #[.int .u64 3] w fun e w' => e = .returned (.int .i64 (-2)) ∧ w = w' := zag_any 3 w (by decide)

set_option maxRecDepth 100000 in
set_option maxHeartbeats 1000000 in
theorem lives_any (w : World) : Calls Try.prog 9 #[] w fun e w' => e = .returned (.bool true) ∧ Below w.heap.size w w' := by
  go_enter Try.func9, Try.ntmps9
  go_wp2_with (go_at_call 11; refine (put300 _).mono ?_; rintro e w1 ⟨g, cap, rfl, hown, hB⟩)
  go_wp2_with (go_at_call 20; refine (take300 _ (NewRow.reads hown)).mono ?_; rintro e w2 ⟨rfl, rfl⟩)
  refine (alike_any (a := [172, 2]) (b := [172, 2]) _ _ ((NewRow.reads hown).then_ ((Below.refl _ w1).alloc (Nat.le_refl _) _)) (Byt.made w1 #[.int .u8 172, .int .u8 2] [172, 2] rfl 5)).mono ?_
  rintro e w2 ⟨rfl, rfl⟩
  go_wp2_with (first
    | (go_at_call 13; refine (size300 _).mono ?_; rintro e w2 ⟨rfl, rfl⟩)
    | (go_at_call 15; refine (zig1 _).mono ?_; rintro e w2 ⟨rfl, rfl⟩)
    | (go_at_call 17; refine (zag3 _).mono ?_; rintro e w2 ⟨rfl, rfl⟩))
  go_ret
  exact ⟨rfl, hB.alloc hB.size _⟩
end Go.Proofs.Ytbnlglcjamifpaa
