/- Words on memory for layer 7: texts in a row, the variable that the library's search reads, a builder with room. No walk here. -/
import Derived.Test.YtbaoaamaameddaaPartPure
import Derived.Test.YtbaoaamaameddaaShelf
import Derived.Room.Shelf.BuilderFits
namespace Go.Proofs.Ytbaoaamaameddaa
open Go.RowKit
open Go.Lib (byteCells)

/-- At the address A stand the texts l, below block B. -/
def Strs (w : World) (B : Nat) (A : Option Addr) (l : List ByteArray) : Prop :=
  l = [] ∨ ∃ b o, A = some ⟨b, o, none⟩ ∧ b < B ∧ ∀ j (h : j < l.length), w.cell? ⟨b, o + j, none⟩ = some (.string l[j])

section
variable {w w' : World} {B B' : Nat} {A : Option Addr} {l : List ByteArray}
theorem Strs.at_ (h : Strs w B A l) (hl : 0 < l.length) : ∃ b o, A = some ⟨b, o, none⟩ ∧ b < B ∧ ∀ j (h : j < l.length), w.cell? ⟨b, o + j, none⟩ = some (.string l[j]) := by
  rcases h with rfl | h
  · simp at hl
  · exact h
theorem Strs.below (h : Strs w B A l) (hb : Below B w w') : Strs w' B A l := by
  rcases h with rfl | ⟨b, o, rfl, hB, hc⟩
  · exact .inl rfl
  · exact .inr ⟨b, o, rfl, hB, fun j hj => (hb.cell (p := ⟨b, _, none⟩) hB).trans (hc j hj)⟩
end

/-- the library's variable holds some number -/
def ML (w : World) : Prop := ∃ m, w.cell? ⟨Try.lays143_ren.g 1, 0, none⟩ = some (.int .i64 m)
theorem ML.below {w w' : World} (h : ML w) (hb : Below w.heap.size w w') : ML w' := by
  obtain ⟨m, hm⟩ := h
  exact ⟨m, (hb.cell (p := ⟨_, 0, none⟩) (World.block_lt_of_cell? _ _ hm)).trans hm⟩
theorem ML.alloc {w : World} (h : ML w) (o : Obj) : ML (w.alloc o) := h.below ((Below.refl _ _).alloc (Nat.le_refl _) _)

/-- the numbers of the builder's own functions and types, for the library's laws -/
def bren : Go.Shelf.Ren := ⟨fun
  | 166 => 30 | 240 => 37 | 276 => 43 | n => n, fun
  | 70 => 47 | 3 => 3 | 0 => 0 | 4 => 4 | 9 => 9 | 20 => 20 | 72 => 49 | 37 => 39 | 164 => 67 | 5 => 5 | 75 => 52 | 80 => 55 | 71 => 48 | n => n, fun | n => n⟩
theorem blays : Go.Proofs.Lays.n166 Try.prog bren := {
  mixed := by kernel_rfl
  f166 := Try.func30.trans (congrArg some (by kernel_rfl))
  f240 := Try.func37.trans (congrArg some (by kernel_rfl))
  f276 := Try.func43.trans (congrArg some (by kernel_rfl))
  t0 := Try.underlying0
  a0 := Try.isAgg0
  z0 := Try.sizeOf0
  v0 := Try.zeroValue0
  t3 := Try.underlying3
  a3 := Try.isAgg3
  z3 := Try.sizeOf3
  v3 := Try.zeroValue3
  t4 := Try.underlying4
  a4 := Try.isAgg4
  z4 := Try.sizeOf4
  v4 := Try.zeroValue4
  t9 := Try.underlying9
  a9 := Try.isAgg9
  z9 := Try.sizeOf9
  v9 := Try.zeroValue9
  t20 := Try.underlying20
  a20 := Try.isAgg20
  z20 := Try.sizeOf20
  v20 := Try.zeroValue20
  t37 := Try.underlying39
  a37 := Try.isAgg39
  z37 := Try.sizeOf39
  v37 := Try.zeroValue39
  t70 := Try.underlying47
  a70 := Try.isAgg47
  z70 := Try.sizeOf47
  v70 := Try.zeroValue47
  t72 := Try.underlying49
  a72 := Try.isAgg49
  z72 := Try.sizeOf49
  v72 := Try.zeroValue49
  t75 := Try.underlying52
  a75 := Try.isAgg52
  z75 := Try.sizeOf52
  v75 := Try.zeroValue52
  t164 := Try.underlying67
  a164 := Try.isAgg67
  z164 := Try.sizeOf67
  v164 := Try.zeroValue67 }
theorem bxtra : Builder.Extra Try.prog bren := {
  sizeBuilder := by kernel_rfl
  liesBuilder := by kernel_rfl
  t5 := Try.underlying5
  a5 := Try.isAgg5
  z5 := Try.sizeOf5
  v5 := Try.zeroValue5
  infoByte := by kernel_rfl
  cellsByte := by kernel_rfl
  sizeByte := by kernel_rfl
  neB5 := by decide }

/-- the builder in block b, of the call's own from B on, holds these bytes, and there is room for N -/
def Bld (B b N : Nat) (l : List UInt8) (w : World) : Prop :=
  Lib.IsBuilder 49 5 B b (byteCells l) w ∧ (N = 0 ∨ Lib.BldRoom b l.length N w)

theorem bld_fresh {w : World} {N : Nat} (hN : N ≤ 281474976710656) :
    Calls Try.prog 29 #[.pointer (some ⟨w.heap.size, 0, none⟩), .int .i64 N] (w.alloc (.cells #[.pointer none, .slice none 0 0] 49)) fun e w' => e = .returned (.tuple #[]) ∧ Bld w.heap.size w.heap.size N [] w' ∧ Below w.heap.size w w' := by
  refine (Try.Builder_Grow_fresh_cap w.heap.size w.heap.size N _ (Nat.le_refl _) (heap_alloc_new w _) (by simp) hN).mono ?_
  rintro e w1 ⟨rfl, ⟨h1, hb1⟩, p, cap, hcell, hcap⟩
  exact ⟨rfl, ⟨.inr h1, .inr ⟨p, cap, hcell, hcap⟩⟩, ((Below.refl _ w).alloc (Nat.le_refl _) _).trans hb1⟩

theorem strCells_ls (s : ByteArray) : Lib.strCells s = byteCells (ls s) := rfl

theorem Bld.write {B b N : Nat} {l : List UInt8} {w : World} (h : Bld B b N l w) (s : ByteArray) (hN : l.length + s.size ≤ N) (hB : B ≤ w.heap.size) (r : List UInt8) (hr : r = l ++ ls s) :
    Calls Try.prog 30 #[.pointer (some ⟨b, 0, none⟩), .string s] w fun e w' => e = .returned (.tuple #[.int .i64 s.size, .nilIface]) ∧ Bld B b N r w' ∧ Below B w w' := by
  have hl := Go.Lib.byteCells_length l
  rcases h.2 with h0 | h0
  · refine (Any.Builder_WriteString (ρ := bren) blays bxtra B b (byteCells l) s w h.1 (by rw [hl]; omega) hB).mono ?_
    rintro e w' ⟨rfl, h1, h2⟩
    rw [strCells_ls, ← Go.Lib.byteCells_append, ← hr] at h1
    exact ⟨rfl, ⟨.inr h1, .inl h0⟩, h2⟩
  · rcases Nat.eq_zero_or_pos N with hz | hz
    · refine (Any.Builder_WriteString (ρ := bren) blays bxtra B b (byteCells l) s w h.1 (by rw [hl]; omega) hB).mono ?_
      rintro e w' ⟨rfl, h1, h2⟩
      rw [strCells_ls, ← Go.Lib.byteCells_append, ← hr] at h1
      exact ⟨rfl, ⟨.inr h1, .inl hz⟩, h2⟩
    · refine (Any.Builder_WriteString_fits (ρ := bren) blays bxtra B b N (byteCells l) s w h.1 (by rw [hl]; exact h0) hz (by rw [hl]; exact hN) hB).mono ?_
      rintro e w' ⟨rfl, ⟨h1, h2⟩, h3⟩
      rw [strCells_ls, ← Go.Lib.byteCells_append, ← hr] at h1
      rw [hl, ← ls_size, ← List.length_append, ← hr] at h3
      exact ⟨rfl, ⟨.inr h1, .inr h3⟩, h2⟩
end Go.Proofs.Ytbaoaamaameddaa
