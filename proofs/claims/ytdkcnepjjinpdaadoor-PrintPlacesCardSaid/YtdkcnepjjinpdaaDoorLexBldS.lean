/- The library's builder, a text at a time. No walk here. -/
import Derived.Test.YtdkcnepjjinpdaaDoorParGc
namespace Go.Proofs.YtdkcnepjjinpdaaDoor
open Go.RowKit
open Go.Lib (byteCells)

/-- the numbers of the builder's own functions and types, for the library's laws -/
def bren2 : Go.Shelf.Ren := ⟨fun
  | 166 => 63 | 167 => 33 | 240 => 62 | 276 => 87 | n => n, fun
  | 70 => 78 | 3 => 3 | 0 => 0 | 4 => 4 | 9 => 9 | 20 => 20 | 72 => 80 | 37 => 66 | 164 => 134 | 5 => 5 | 75 => 82 | 80 => 85 | 71 => 79 | n => n, fun | n => n⟩
theorem blays : Go.Proofs.Lays.n166 Tryd.prog bren2 := {
  mixed := by kernel_rfl
  f166 := Tryd.func63.trans (congrArg some (by kernel_rfl))
  f240 := Tryd.func62.trans (congrArg some (by kernel_rfl))
  f276 := Tryd.func87.trans (congrArg some (by kernel_rfl))
  t0 := Tryd.underlying0
  a0 := Tryd.isAgg0
  z0 := Tryd.sizeOf0
  v0 := Tryd.zeroValue0
  t3 := Tryd.underlying3
  a3 := Tryd.isAgg3
  z3 := Tryd.sizeOf3
  v3 := Tryd.zeroValue3
  t4 := Tryd.underlying4
  a4 := Tryd.isAgg4
  z4 := Tryd.sizeOf4
  v4 := Tryd.zeroValue4
  t9 := Tryd.underlying9
  a9 := Tryd.isAgg9
  z9 := Tryd.sizeOf9
  v9 := Tryd.zeroValue9
  t20 := Tryd.underlying20
  a20 := Tryd.isAgg20
  z20 := Tryd.sizeOf20
  v20 := Tryd.zeroValue20
  t37 := Tryd.underlying66
  a37 := Tryd.isAgg66
  z37 := Tryd.sizeOf66
  v37 := Tryd.zeroValue66
  t70 := Tryd.underlying78
  a70 := Tryd.isAgg78
  z70 := Tryd.sizeOf78
  v70 := Tryd.zeroValue78
  t72 := Tryd.underlying80
  a72 := Tryd.isAgg80
  z72 := Tryd.sizeOf80
  v72 := Tryd.zeroValue80
  t75 := Tryd.underlying82
  a75 := Tryd.isAgg82
  z75 := Tryd.sizeOf82
  v75 := Tryd.zeroValue82
  t164 := Tryd.underlying134
  a164 := Tryd.isAgg134
  z164 := Tryd.sizeOf134
  v164 := Tryd.zeroValue134 }
theorem bxtra2 : Builder.Extra Tryd.prog bren2 := {
  sizeBuilder := by kernel_rfl
  liesBuilder := by kernel_rfl
  t5 := Tryd.underlying5
  a5 := Tryd.isAgg5
  z5 := Tryd.sizeOf5
  v5 := Tryd.zeroValue5
  infoByte := by kernel_rfl
  cellsByte := by kernel_rfl
  sizeByte := by kernel_rfl
  neB5 := by decide }


theorem Bld.text {B b : Nat} {l : List UInt8} {w : World} (h : Bld B b l w) (s : ByteArray) (hN : l.length + s.size ≤ 140737488355328) (hB : B ≤ w.heap.size) (r : List UInt8) (hr : r = l ++ ls s) :
    Calls Tryd.prog 63 #[.pointer (some ⟨b, 0, none⟩), .string s] w fun e w' => e = .returned (.tuple #[.int .i64 s.size, .nilIface]) ∧ Bld B b r w' ∧ Below B w w' := by
  refine (Any.Builder_WriteString (ρ := bren2) blays bxtra2 B b (byteCells l) s w h (by rw [Go.Lib.byteCells_length]; exact hN) hB).mono ?_
  rintro e w' ⟨rfl, h1, h2⟩
  rw [strCells_ls, ← Go.Lib.byteCells_append, ← hr] at h1
  exact ⟨rfl, .inr h1, h2⟩
end Go.Proofs.YtdkcnepjjinpdaaDoor
