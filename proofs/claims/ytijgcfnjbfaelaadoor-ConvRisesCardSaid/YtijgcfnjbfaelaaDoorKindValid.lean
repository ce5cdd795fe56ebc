/- The walk of kind.Valid. -/
import Derived.Test.YtijgcfnjbfaelaaDoorKindPure
import Derived.Test.YtijgcfnjbfaelaaDoorKindMem
import Derived.Test.YtijgcfnjbfaelaaDoorUtfValid
import Derived.Test.YtijgcfnjbfaelaaDoorShelf
import Derived.WalkKit
import Derived.BigCall
namespace Go.Proofs.YtijgcfnjbfaelaaDoor
open Go.RowKit

/-- a value's parts as the machine holds them -/
def vv (v : Val) : Value := .agg #[.int .i64 v.k, .int .u64 v.n, .string v.s]
/-- a value's number is one of 64 bits -/
def Fits (v : Val) : Prop := 0 ≤ v.n ∧ v.n ≤ 18446744073709551615

theorem str_nil (s : ByteArray) : (s.toList = []) ↔ s.size = 0 := by
  rw [Lib.toList_data, Lib.size_eq]
  exact ⟨fun h => by rw [h]; rfl, fun h => List.eq_nil_of_length_eq_zero h⟩

set_option maxRecDepth 100000 in
set_option maxHeartbeats 1000000 in
theorem kvalid_any {w0 w : World} (hk : KSt w0 w) (v : Val) (ha : Fits v) (hs : v.s.size ≤ 140737488355328) :
    Calls Tryd.prog 23 #[vv v] w fun e w' => e = .returned (.bool (okV v)) ∧ KSt w0 w' := by
  obtain ⟨k, n, s⟩ := v
  unfold vv okV
  unfold Fits at ha
  dsimp only at hs ha ⊢
  obtain ⟨n0, _⟩ := ha
  have k2 := hk.new (.cells #[.int .i64 k, .int .u64 n, .string s] 24)
  have cv := fun (W : World) (g : KSt w0 W) => KSt.of g ((valid_any g.self.st s hs).mono fun _ _ ⟨he, hb⟩ => ⟨he, hb.below⟩)
  obtain ⟨o, ho⟩ : ∃ o, okL (ls s) = o := ⟨_, rfl⟩
  have ho' : okL s.data.toList = o := ho
  rw [ho']
  simp only [ho] at cv
  clear ho ho'
  obtain ⟨hu, hi, hb, ht, hy⟩ := hk.k
  have zu := World.block_lt_of_cell? w ⟨_, _, none⟩ hu
  have zi := World.block_lt_of_cell? w ⟨_, _, none⟩ hi
  have zb := World.block_lt_of_cell? w ⟨_, _, none⟩ hb
  have zt := World.block_lt_of_cell? w ⟨_, _, none⟩ ht
  have zy := World.block_lt_of_cell? w ⟨_, _, none⟩ hy
  have hS : s.toList.isEmpty = decide (s.size = 0) := by
    by_cases h : s.size = 0
    · simp [h, (str_nil s).2 h]
    · have : ¬ s.toList = [] := fun g => h ((str_nil s).1 g)
      rw [decide_eq_false h]
      simpa using this
  obtain ⟨E, hE⟩ : ∃ E, decide (s.size = 0) = E := ⟨_, rfl⟩
  rw [hE] at hS ⊢
  have HS := Lib.hid hS
  clear hS hE
  have HK := Lib.hid hk
  clear hk
  by_cases k1 : k = 1 ∨ k = 2
  · rw [if_pos k1]
    rcases k1 with rfl | rfl
    all_goals
      go_enter Tryd.func23, Tryd.ntmps23
      go_wp2
      go_ret
      exact ⟨ret_bool HS.out, k2⟩
  rw [if_neg k1]
  have q1 : (k == 1) = false := by simpa using fun h => k1 (.inl h)
  have q2 : (k == 2) = false := by simpa using fun h => k1 (.inr h)
  clear k1
  by_cases k3 : k = 3
  · rw [if_pos k3]
    subst k3
    by_cases hn : n ≤ 1
    · go_enter Tryd.func23, Tryd.ntmps23
      go_wp2
      go_ret
      exact ⟨ret_bool (by rw [HS.out]; try simp [hn]), k2⟩
    · go_enter Tryd.func23, Tryd.ntmps23
      go_wp2
      go_ret
      exact ⟨ret_bool (by have : ¬ n ≤ 1 := by omega
                          simp [this]), k2⟩
  rw [if_neg k3]
  have q3 : (k == 3) = false := by simpa using k3
  clear k3
  by_cases k4 : k = 4
  · rw [if_pos k4]
    subst k4
    by_cases hn : n = 0
    · subst hn
      go_enter Tryd.func23, Tryd.ntmps23
      go_wp2_with (go_at_call 36; refine (cv _ k2).mono ?_; rintro e w' ⟨rfl, hst⟩)
      go_ret
      exact ⟨ret_bool (by simp), hst⟩
    · have hnb : (n == 0) = false := by simpa using hn
      go_enter Tryd.func23, Tryd.ntmps23
      go_wp2
      go_ret
      exact ⟨ret_bool (by simp), k2⟩
  rw [if_neg k4]
  have q4 : (k == 4) = false := by simpa using k4
  clear k4
  by_cases k5 : k = 5
  · rw [if_pos k5]
    subst k5
    go_enter Tryd.func23, Tryd.ntmps23
    go_wp2
    go_ret
    exact ⟨ret_bool (by by_cases h : n = 0 <;> simp [h]), k2⟩
  rw [if_neg k5]
  have q5 : (k == 5) = false := by simpa using k5
  clear k5
  go_enter Tryd.func23, Tryd.ntmps23
  go_wp2
  go_ret
  exact ⟨rfl, k2⟩
end Go.Proofs.YtijgcfnjbfaelaaDoor
