/- ConvDigits answers true: its three ways put together. No walk here. -/
import Derived.Test.YtijgcfnjbfaelaaDoorConvDigLaw
import Derived.Test.YtijgcfnjbfaelaaDoorConvDigPos
namespace Go.Proofs.YtijgcfnjbfaelaaDoor
open Go.RowKit

theorem diglaw_any {w : World} (h : CSt w w) (n Z A : Int) (J : ByteArray) (hn : 0 ≤ n) (hn2 : n ≤ 18446744073709551615) (hJ : J.size ≤ 140737488355328) : Calls Tryd.prog 7 #[.int .u64 n, .int .i64 Z, .string J, .int .i64 A] w (Yes w) := by
  by_cases hz : Z < 0 ∨ 1048576 < Z ∨ 1048576 < J.size
  · exact dig_out h n Z A J hJ hz
  · obtain ⟨N, rfl⟩ : ∃ N : Nat, n = (N : Int) := ⟨n.toNat, by omega⟩
    obtain ⟨z, rfl⟩ : ∃ z : Nat, Z = (z : Int) := ⟨Z.toNat, by omega⟩
    by_cases neg : 9223372036854775808 ≤ N
    · exact dig_in h N z (by omega) A J (by omega) (by omega) neg
    · exact dig_pos h N z (by omega) A J (by omega) (by omega) (by omega)
end Go.Proofs.YtijgcfnjbfaelaaDoor
