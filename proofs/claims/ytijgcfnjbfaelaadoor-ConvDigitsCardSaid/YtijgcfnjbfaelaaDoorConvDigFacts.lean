/- What ConvDigits asks, in plain words. No walk here. -/
import Derived.Test.YtijgcfnjbfaelaaDoorConvFacts
namespace Go.Proofs.YtijgcfnjbfaelaaDoor
open Go.RowKit

theorem asc_zeros (z n : Nat) : ∀ b ∈ List.replicate z 48 ++ dg n, b.toNat < 128 := fun b hb => by
  refine allD_ascii (l := List.replicate z 48 ++ dg n) ?_ b hb
  rw [allD_app, allD_zeros, allD_dg]; rfl
/-- an int's text with zeros ahead of its digits is that int -/
theorem dig6 {N z : Nat} (hN : N < 18446744073709551616) {T : ByteArray} (hT : (9223372036854775808 ≤ N ∧ ls T = 45 :: (List.replicate z 48 ++ dg (18446744073709551616 - N))) ∨ (N < 9223372036854775808 ∧ ls T = List.replicate z 48 ++ dg N)) :
    capp 6 ⟨4, 0, T⟩ = (0, ⟨2, (N : Int), ⟨#[]⟩⟩) := by
  have q := read_int (z := z) hN
  have hok : okL (ls T) = true := by
    rcases hT with ⟨_, e⟩ | ⟨_, e⟩
    · rw [e]
      refine ok_ascii fun b hb => ?_
      rcases List.mem_cons.1 hb with rfl | hb
      · decide
      · exact asc_zeros _ _ b hb
    · rw [e]; exact ok_ascii (asc_zeros _ _)
  have r : riE (ls T) = 0 ∧ riN (ls T) = N := by
    rcases hT with ⟨h, e⟩ | ⟨h, e⟩
    · rw [e]; exact q.1 h
    · rw [e]; exact q.2 h
  have o4 : okV ⟨4, 0, T⟩ = true := ok_of4 hok
  rw [capp_yes ⟨by decide, by decide, o4, rfl⟩, cap6, if_pos (show riE (ls T) = 0 from r.1)]
  exact congrArg _ (v_of rfl (show ((riN (ls T) : Nat) : Int) = (N : Int) by rw [r.2]) rfl)
theorem dig5 {N z : Nat} (hN : N < 18446744073709551616) {T : ByteArray} (hT : ls T = List.replicate z 48 ++ dg N) : capp 5 ⟨4, 0, T⟩ = (0, ⟨1, (N : Int), ⟨#[]⟩⟩) := by
  have q := read_dg (n := N) (z := z) (most := 18446744073709551615) (by omega)
  have o4 : okV ⟨4, 0, T⟩ = true := ok_of4 (by rw [hT]; exact ok_ascii (asc_zeros _ _))
  rw [← hT] at q
  rw [capp_yes ⟨by decide, by decide, o4, rfl⟩, cap5, if_pos (show rdE 18446744073709551615 (ls T) = 0 from q.1)]
  exact congrArg _ (v_of rfl (show ((rdN 18446744073709551615 (ls T) : Nat) : Int) = (N : Int) by rw [q.2]) rfl)
theorem dig4 (N : Nat) : capp 4 ⟨2, (N : Int), ⟨#[]⟩⟩ = (0, ⟨4, 0, tx (ditx N)⟩) := by
  rw [capp_yes ⟨by decide, by decide, rfl, rfl⟩, cap4]; rfl
theorem dig3 (N : Nat) : capp 3 ⟨1, (N : Int), ⟨#[]⟩⟩ = (0, ⟨4, 0, tx (dg N)⟩) := by
  rw [capp_yes ⟨by decide, by decide, rfl, rfl⟩, cap3]; rfl
/-- what has junk in it is no number -/
theorem dig_junk {a j b : List UInt8} (h : oddL j = true) {T : ByteArray} (hT : ls T = a ++ j ++ b) : (okV ⟨4, 0, T⟩ = true → capp 5 ⟨4, 0, T⟩ = (61, v0) ∧ capp 6 ⟨4, 0, T⟩ = (61, v0)) := fun o4 => by
  have h5 : rdE 18446744073709551615 (ls T) = 61 := by rw [hT]; exact junk_num h _
  have h6 : riE (ls T) = 61 := by rw [hT]; exact junk_int h
  refine ⟨?_, ?_⟩
  · rw [capp_yes ⟨by decide, by decide, o4, rfl⟩, cap5, if_neg (show ¬ rdE 18446744073709551615 (ls T) = 0 by rw [h5]; decide)]
    exact congrArg (·, v0) h5
  · rw [capp_yes ⟨by decide, by decide, o4, rfl⟩, cap6, if_neg (show ¬ riE (ls T) = 0 by rw [h6]; decide)]
    exact congrArg (·, v0) h6
theorem odd_take {l : List UInt8} {k : Nat} {x : UInt8} (h : l[k]? = some x) : oddL (l.take (k + 1)) = (oddL (l.take k) || oddB x) := by
  rw [List.take_add_one, h]; unfold oddL; rw [List.any_append]; simp
end Go.Proofs.YtijgcfnjbfaelaaDoor
