/- Cuts of a slice of one-cell elements, as run equations to lay ahead of a walk. No walk here. -/
import Derived.Test.YthekbefbhjllnaaDoorBytMem
import Derived.Laws.Slices
namespace Go.Proofs.YthekbefbhjllnaaDoor
open Go.RowKit

theorem add_zero (a : Addr) : a.add 0 = a := by simp [Addr.add]
theorem map_add_zero (A : Option Addr) : A.map (·.add 0) = A := by
  cases A with
  | none => rfl
  | some a => simp [add_zero]

theorem run_size1 {P : Program} {e : TypeId} (hs : (P.info? e).map (·.size) = some 1) (W : World) : (sizeOf e).run P W = .ok 1 W := by
  cases hq : P.info? e with
  | none => simp [hq] at hs
  | some i =>
    have : i.size = 1 := by simpa [hq] using hs
    simp [sizeOf, typeInfo, hq, this]
theorem elem_of {P : Program} {T e : TypeId} (ht : P.underlying T = some (.slice e)) : P.elem T = e := by simp [Program.elem, ht]

theorem run_cut_l {P : Program} {T e : TypeId} (ht : P.underlying T = some (.slice e)) (hs : (P.info? e).map (·.size) = some 1) (A A' : Option Addr) (n c k : Nat) (hk : k ≤ n) (hA : A' = if c = k then A else A.map (·.add k)) (W : World) :
    (Instr.sliceAt T (.slice A n c) (some (.int .i64 (k : Int))) none none).run P W = .ok (.slice A' (n - k) (c - k)) W := by
  have hE := elem_of ht
  have ht' : P.underlying T = some (.slice (P.elem T)) := by rw [hE]; exact ht
  rw [run_sliceAt_slice _ _ _ _ _ _ ht', run_slice_l _ T A n c ht' .i64 k (by omega) (by omega), hE, run_size1 hs]
  simp only [Result.andThen, sliced, Int.toNat_natCast, Nat.mul_one]
  rw [← hA]

theorem run_cut_h {P : Program} {T e : TypeId} (ht : P.underlying T = some (.slice e)) (hs : (P.info? e).map (·.size) = some 1) (A : Option Addr) (n c k : Nat) (hk : k ≤ c) (W : World) :
    (Instr.sliceAt T (.slice A n c) none (some (.int .i64 (k : Int))) none).run P W = .ok (.slice A k c) W := by
  have hE := elem_of ht
  have ht' : P.underlying T = some (.slice (P.elem T)) := by rw [hE]; exact ht
  rw [run_sliceAt_slice _ _ _ _ _ _ ht', run_slice_h _ T A n c ht' .i64 k (by omega) (by omega), hE, run_size1 hs]
  simp only [Result.andThen, sliced, Int.toNat_natCast, Nat.zero_mul, Nat.sub_zero, map_add_zero]
  simp

theorem run_cut_lh {P : Program} {T e : TypeId} (ht : P.underlying T = some (.slice e)) (hs : (P.info? e).map (·.size) = some 1) (A A' : Option Addr) (n c k m : Nat) (hk : k ≤ m) (hm : m ≤ c) (hA : A' = if c = k then A else A.map (·.add k)) (W : World) :
    (Instr.sliceAt T (.slice A n c) (some (.int .i64 (k : Int))) (some (.int .i64 (m : Int))) none).run P W = .ok (.slice A' (m - k) (c - k)) W := by
  have hE := elem_of ht
  have ht' : P.underlying T = some (.slice (P.elem T)) := by rw [hE]; exact ht
  rw [run_sliceAt_slice _ _ _ _ _ _ ht', run_slice_lh _ T A n c ht' .i64 .i64 k m (by omega) (by omega) (by omega), hE, run_size1 hs]
  simp only [Result.andThen, sliced, Int.toNat_natCast, Nat.mul_one]
  rw [← hA]
end Go.Proofs.YthekbefbhjllnaaDoor
