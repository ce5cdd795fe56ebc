/- The library's builder, a text at a time. No walk here. -/
import Derived.Test.YtipcgmaobiobbaaGreatDoorParGc
namespace Go.Proofs.YtipcgmaobiobbaaGreatDoor
open Go.RowKit
open Go.Lib (byteCells)

/-- the numbers of the builder's own functions and types, for the library's laws -/
def bren2 : Go.Shelf.Ren := ⟨fun
  | 166 => 54 | 167 => 86 | 240 => 81 | 276 => 99 | n => n, fun
  | 70 => 66 | 3 => 3 | 0 => 0 | 4 => 4 | 9 => 9 | 20 => 20 | 72 => 69 | 37 => 67 | 164 => 144 | 5 => 5 | 75 => 108 | 80 => 81 | 71 => 68 | n => n, fun | n => n⟩
theorem blays : Go.Proofs.Lays.n166 Tryz.prog bren2 := {
  mixed := by kernel_rfl
  f166 := Tryz.func54.trans (congrArg some (by kernel_rfl))
  f240 := Tryz.func81.trans (congrArg some (by kernel_rfl))
  f276 := Tryz.func99.trans (congrArg some (by kernel_rfl))
  t0 := Tryz.underlying0
  a0 := Tryz.isAgg0
  z0 := Tryz.sizeOf0
  v0 := Tryz.zeroValue0
  t3 := Tryz.underlying3
  a3 := Tryz.isAgg3
  z3 := Tryz.sizeOf3
  v3 := Tryz.zeroValue3
  t4 := Tryz.underlying4
  a4 := Tryz.isAgg4
  z4 := Tryz.sizeOf4
  v4 := Tryz.zeroValue4
  t9 := Tryz.underlying9
  a9 := Tryz.isAgg9
  z9 := Tryz.sizeOf9
  v9 := Tryz.zeroValue9
  t20 := Tryz.underlying20
  a20 := Tryz.isAgg20
  z20 := Tryz.sizeOf20
  v20 := Tryz.zeroValue20
  t37 := Tryz.underlying67
  a37 := Tryz.isAgg67
  z37 := Tryz.sizeOf67
  v37 := Tryz.zeroValue67
  t70 := Tryz.underlying66
  a70 := Tryz.isAgg66
  z70 := Tryz.sizeOf66
  v70 := Tryz.zeroValue66
  t72 := Tryz.underlying69
  a72 := Tryz.isAgg69
  z72 := Tryz.sizeOf69
  v72 := Tryz.zeroValue69
  t75 := Tryz.underlying108
  a75 := Tryz.isAgg108
  z75 := Tryz.sizeOf108
  v75 := Tryz.zeroValue108
  t164 := Tryz.underlying144
  a164 := Tryz.isAgg144
  z164 := Tryz.sizeOf144
  v164 := Tryz.zeroValue144 }
theorem bxtra2 : Builder.Extra Tryz.prog bren2 := {
  sizeBuilder := by kernel_rfl
  liesBuilder := by kernel_rfl
  t5 := Tryz.underlying5
  a5 := Tryz.isAgg5
  z5 := Tryz.sizeOf5
  v5 := Tryz.zeroValue5
  infoByte := by kernel_rfl
  cellsByte := by kernel_rfl
  sizeByte := by kernel_rfl
  neB5 := by decide }


theorem Bld.text {B b : Nat} {l : List UInt8} {w : World} (h : Bld B b l w) (s : ByteArray) (hN : l.length + s.size ≤ 140737488355328) (hB : B ≤ w.heap.size) (r : List UInt8) (hr : r = l ++ ls s) :
    Calls Tryz.prog 54 #[.pointer (some ⟨b, 0, none⟩), .string s] w fun e w' => e = .returned (.tuple #[.int .i64 s.size, .nilIface]) ∧ Bld B b r w' ∧ Below B w w' := by
  refine (Any.Builder_WriteString (ρ := bren2) blays bxtra2 B b (byteCells l) s w h (by rw [Go.Lib.byteCells_length]; exact hN) hB).mono ?_
  rintro e w' ⟨rfl, h1, h2⟩
  rw [strCells_ls, ← Go.Lib.byteCells_append, ← hr] at h1
  exact ⟨rfl, .inr h1, h2⟩
end Go.Proofs.YtipcgmaobiobbaaGreatDoor
