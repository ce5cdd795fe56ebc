/- The walks of kind.Of and kind.Name. -/
import Derived.Test.YtijgcfnjbfaelaaDoorKindWalk
namespace Go.Proofs.YtijgcfnjbfaelaaDoor
open Go.RowKit

/-- the cells of the entry at place k -/
def entR (k : Nat) : Array Value := entriesC.extract (4 * k) (4 * k + 4)
def nameB (k : Nat) : ByteArray := ⟨(nameL (k + 1 : Nat)).toArray⟩
theorem entR_eq : entR 0 = #[.int .i64 1, .int .i64 1, .string ⟨#[117, 105, 110, 116]⟩, .int .i64 10] ∧ entR 1 = #[.int .i64 1, .int .i64 2, .string ⟨#[105, 110, 116]⟩, .int .i64 10] ∧
    entR 2 = #[.int .i64 1, .int .i64 3, .string ⟨#[98, 111, 111, 108]⟩, .int .i64 1] ∧ entR 3 = #[.int .i64 1, .int .i64 4, .string ⟨#[116, 101, 120, 116]⟩, .int .i64 0] ∧ entR 4 = #[.int .i64 1, .int .i64 5, .string ⟨#[98, 121, 116, 101, 115]⟩, .int .i64 0] := ⟨rfl, rfl, rfl, rfl, rfl⟩
theorem ent_index0 (w : World) : (Instr.index 73 (.agg entriesC) (.int .i64 0)).run Tryd.prog w = .ok (.agg #[.int .i64 1, .int .i64 1, .string ⟨#[117, 105, 110, 116]⟩, .int .i64 10]) w := by kernel_rfl
theorem ent_index1 (w : World) : (Instr.index 73 (.agg entriesC) (.int .i64 1)).run Tryd.prog w = .ok (.agg #[.int .i64 1, .int .i64 2, .string ⟨#[105, 110, 116]⟩, .int .i64 10]) w := by kernel_rfl
theorem ent_index2 (w : World) : (Instr.index 73 (.agg entriesC) (.int .i64 2)).run Tryd.prog w = .ok (.agg #[.int .i64 1, .int .i64 3, .string ⟨#[98, 111, 111, 108]⟩, .int .i64 1]) w := by kernel_rfl
theorem ent_index3 (w : World) : (Instr.index 73 (.agg entriesC) (.int .i64 3)).run Tryd.prog w = .ok (.agg #[.int .i64 1, .int .i64 4, .string ⟨#[116, 101, 120, 116]⟩, .int .i64 0]) w := by kernel_rfl
theorem ent_index4 (w : World) : (Instr.index 73 (.agg entriesC) (.int .i64 4)).run Tryd.prog w = .ok (.agg #[.int .i64 1, .int .i64 5, .string ⟨#[98, 121, 116, 101, 115]⟩, .int .i64 0]) w := by kernel_rfl

/-- none of the first k names is this -/
def NotIn (k : Nat) (l : List UInt8) : Prop := ∀ j : Nat, j < k → l ≠ nameL (j + 1 : Nat)
theorem NotIn.next {k : Nat} {s : ByteArray} {m : List UInt8} (h : NotIn k s.data.toList) (hm : nameL (k + 1 : Nat) = m) (hn : (m == s.toList) = false) : NotIn (k + 1) s.data.toList := by
  intro j hj
  rcases Nat.lt_or_ge j k with g | g
  · exact h j g
  · obtain rfl : j = k := by omega
    rw [hm]
    intro e
    rw [Lib.toList_data, e] at hn
    simp at hn
theorem of_hit {s : ByteArray} {m : List UInt8} {F k : Int} (hF : ofL s.data.toList = F) (hm : ofL m = k) (hn : (m == s.toList) = true) : F = k := by
  rw [Lib.toList_data] at hn
  have := eq_of_beq hn
  rw [← hF, ← this, hm]
theorem of_miss {l : List UInt8} {F : Int} (hF : ofL l = F) (h : NotIn 5 l) : F = 0 := by
  rw [← hF]
  rcases of_cases l with ⟨g, _⟩ | ⟨g, _⟩ | ⟨g, _⟩ | ⟨g, _⟩ | ⟨g, _⟩ | ⟨_, _, _, _, _, e⟩
  · exact absurd g (h 0 (by omega))
  · exact absurd g (h 1 (by omega))
  · exact absurd g (h 2 (by omega))
  · exact absurd g (h 3 (by omega))
  · exact absurd g (h 4 (by omega))
  · exact e

set_option maxRecDepth 100000 in
set_option maxHeartbeats 1000000 in
theorem of_any (w : World) (s : ByteArray) :
    Calls Tryd.prog 129 #[.string s] w fun e w' => e = .returned (.int .i64 (ofL s.data.toList)) ∧ Below w.heap.size w w' := by
  have i0 := ent_index0
  have i1 := ent_index1
  have i2 := ent_index2
  have i3 := ent_index3
  have i4 := ent_index4
  obtain ⟨F, hF⟩ : ∃ F, ofL s.data.toList = F := ⟨_, rfl⟩
  rw [hF]
  have HF := Lib.hid hF
  clear hF
  go_enter Tryd.func129, Tryd.ntmps129
  go_wp2_with (go_at_call 65; refine (entries_any _).mono ?_; rintro e w' ⟨rfl, hb⟩)
  go_loopw [6] (fun i wr => ∃ k : Nat, k ≤ 5 ∧ i = .int .i64 k ∧ Below w.heap.size w wr ∧ NotIn k s.data.toList) (fun i _ => 5 - (intOf i).toNat)
  case atStart => exact ⟨0, by omega, rfl, hb, fun j hj => by omega⟩
  case round =>
    obtain ⟨k, hk, rfl, hB, hN⟩ := hrel
    have HN := Lib.hid hN
    clear hN
    have hk4 : k = 0 ∨ k = 1 ∨ k = 2 ∨ k = 3 ∨ k = 4 ∨ k = 5 := by omega
    rcases hk4 with rfl | rfl | rfl | rfl | rfl | rfl
    rotate_right
    · go_wp2
      go_ret
      exact ⟨ret_int (of_miss HF.out HN.out).symm, hB⟩
    all_goals
      go_wp2
      · go_ret
        rename_i h1
        exact ⟨ret_int (of_hit HF.out (by decide) h1).symm, hB.alloc hB.size _⟩
      · rename_i h1
        go_roundw
        case rel => exact ⟨_, by decide, (by rfl), hB.alloc hB.size _, HN.out.next (by decide) h1⟩
        case measure => simp [intOf]

theorem name_hit {k m : Int} {F G : ByteArray} (hF : (⟨(nameL k).toArray⟩ : ByteArray) = F) (hk : (m == k) = true) (hm : (⟨(nameL m).toArray⟩ : ByteArray) = G) : F = G := by
  rw [← hF, ← eq_of_beq hk, hm]
theorem num_next {k n : Int} (h : n < 1 ∨ k < n) (hn : ((k + 1) == n) = false) : n < 1 ∨ k + 1 < n := by
  have : ¬ (k + 1 = n) := by simpa using hn
  omega

set_option maxRecDepth 100000 in
set_option maxHeartbeats 1000000 in
theorem name_any (w : World) (n : Int) :
    Calls Tryd.prog 41 #[.int .i64 n] w fun e w' => e = .returned (.string ⟨(nameL n).toArray⟩) ∧ Below w.heap.size w w' := by
  have i0 := ent_index0
  have i1 := ent_index1
  have i2 := ent_index2
  have i3 := ent_index3
  have i4 := ent_index4
  obtain ⟨F, hF⟩ : ∃ F, (⟨(nameL n).toArray⟩ : ByteArray) = F := ⟨_, rfl⟩
  rw [hF]
  have HF := Lib.hid hF
  clear hF
  go_enter Tryd.func41, Tryd.ntmps41
  go_wp2_with (go_at_call 65; refine (entries_any _).mono ?_; rintro e w' ⟨rfl, hb⟩)
  go_loopw [6] (fun i wr => ∃ k : Nat, k ≤ 5 ∧ i = .int .i64 k ∧ Below w.heap.size w wr ∧ (n < 1 ∨ (k : Int) < n)) (fun i _ => 5 - (intOf i).toNat)
  case atStart => exact ⟨0, by omega, rfl, hb, by omega⟩
  case round =>
    obtain ⟨k, hk, rfl, hB, hN⟩ := hrel
    have HN := Lib.hid hN
    clear hN
    have hk4 : k = 0 ∨ k = 1 ∨ k = 2 ∨ k = 3 ∨ k = 4 ∨ k = 5 := by omega
    rcases hk4 with rfl | rfl | rfl | rfl | rfl | rfl
    rotate_right
    · go_wp2
      go_ret
      refine ⟨?_, hB⟩
      have h1 := HN.out
      rw [← HF.out, (name_none n).2 (by omega)]
      rfl
    all_goals
      go_wp2
      · rename_i h1
        go_ret
        have e := name_hit HF.out h1 rfl
        subst e
        exact ⟨rfl, hB.alloc hB.size _⟩
      · rename_i h1
        go_roundw
        case rel => exact ⟨_, by decide, (by rfl), hB.alloc hB.size _, num_next HN.out h1⟩
        case measure => simp [intOf]
end Go.Proofs.YtijgcfnjbfaelaaDoor
