/- Cuts of a slice of elements of any size, as run equations to lay ahead of a walk. No walk here. -/
import Derived.Test.YtnflbnchkcigiaaDoorTaGa
import Derived.Laws.Slices
namespace Go.Proofs.YtnflbnchkcigiaaDoor.CR
open Go.RowKit

theorem add_zero (a : Addr) : a.add 0 = a := by simp [Addr.add]
theorem map_add_zero (A : Option Addr) : A.map (·.add 0) = A := by
  cases A with
  | none => rfl
  | some a => simp [add_zero]
theorem run_size {P : Program} {e : TypeId} {s : Nat} (hs : (P.info? e).map (·.size) = some s) (W : World) : (sizeOf e).run P W = .ok s W := by
  cases hq : P.info? e with
  | none => simp [hq] at hs
  | some i =>
    have : i.size = s := by simpa [hq] using hs
    simp [sizeOf, typeInfo, hq, this]
theorem elem_of {P : Program} {T e : TypeId} (ht : P.underlying T = some (.slice e)) : P.elem T = e := by simp [Program.elem, ht]
theorem run_h {P : Program} {T e : TypeId} {s : Nat} (ht : P.underlying T = some (.slice e)) (hs : (P.info? e).map (·.size) = some s) (A : Option Addr) (n c k : Nat) (hk : k ≤ c) (W : World) :
    (Instr.sliceAt T (.slice A n c) none (some (.int .i64 (k : Int))) none).run P W = .ok (.slice A k c) W := by
  have hE := elem_of ht
  have ht' : P.underlying T = some (.slice (P.elem T)) := by rw [hE]; exact ht
  rw [run_sliceAt_slice _ _ _ _ _ _ ht', run_slice_h _ T A n c ht' .i64 k (by omega) (by omega), hE, run_size hs]
  simp only [Result.andThen, sliced, Int.toNat_natCast, Nat.zero_mul, Nat.sub_zero, map_add_zero]
  simp
theorem run_l {P : Program} {T e : TypeId} {s : Nat} (ht : P.underlying T = some (.slice e)) (hs : (P.info? e).map (·.size) = some s) (A A' : Option Addr) (n c k : Nat) (hk : k ≤ n) (hA : A' = if c = k then A else A.map (·.add (k * s))) (W : World) :
    (Instr.sliceAt T (.slice A n c) (some (.int .i64 (k : Int))) none none).run P W = .ok (.slice A' (n - k) (c - k)) W := by
  have hE := elem_of ht
  have ht' : P.underlying T = some (.slice (P.elem T)) := by rw [hE]; exact ht
  rw [run_sliceAt_slice _ _ _ _ _ _ ht', run_slice_l _ T A n c ht' .i64 k (by omega) (by omega), hE, run_size hs]
  simp only [Result.andThen, sliced, Int.toNat_natCast]
  rw [← hA]
end Go.Proofs.YtnflbnchkcigiaaDoor.CR
