/- The walk of the reference's Valid. -/
import Derived.Test.YtijgcfnjbfaelaaDoorKindValid
import Derived.Test.YtijgcfnjbfaelaaDoorUtfRValid
namespace Go.Proofs.YtijgcfnjbfaelaaDoor
open Go.RowKit

set_option maxRecDepth 100000 in
set_option maxHeartbeats 1000000 in
theorem rkvalid_any {w0 w : World} (hk : KSt w0 w) (v : Val) (ha : Fits v) (hs : v.s.size ≤ 140737488355328) :
    Calls Tryd.prog 32 #[vv v] w fun e w' => e = .returned (.bool (okV v)) ∧ KSt w0 w' := by
  obtain ⟨k, n, s⟩ := v
  unfold vv okV
  unfold Fits at ha
  dsimp only at hs ha ⊢
  obtain ⟨n0, _⟩ := ha
  have k2 := hk.new (.cells #[.int .i64 k, .int .u64 n, .string s] 24)
  have cv := fun (W : World) (g : KSt w0 W) => KSt.of g ((rvalid_any g.self.st s hs).mono fun _ _ ⟨he, hb⟩ => ⟨he, hb.below⟩)
  obtain ⟨o, ho⟩ : ∃ o, okL (ls s) = o := ⟨_, rfl⟩
  have ho' : okL s.data.toList = o := ho
  rw [ho']
  simp only [ho] at cv
  clear ho ho'
  have hS : s.toList.isEmpty = decide (s.size = 0) := by
    by_cases h : s.size = 0
    · simp [h, (str_nil s).2 h]
    · have : ¬ s.toList = [] := fun g => h ((str_nil s).1 g)
      rw [decide_eq_false h]
      simpa using this
  obtain ⟨E, hE⟩ : ∃ E, decide (s.size = 0) = E := ⟨_, rfl⟩
  rw [hE] at hS ⊢
  have HS := Lib.hid hS
  have hl : s.toList = [] ↔ E = true := by rw [← hE, str_nil]; simp
  clear hS hE
  have HK := Lib.hid hk
  clear hk
  by_cases k1 : k = 1 ∨ k = 2
  · have HL := Lib.hid hl
    clear hl
    rw [if_pos k1]
    rcases k1 with rfl | rfl
    all_goals
      go_enter Tryd.func32, Tryd.ntmps32
      go_wp2
      go_ret
      exact ⟨ret_bool HS.out, k2⟩
  rw [if_neg k1]
  have q1 : (k == 1) = false := by simpa using fun h => k1 (.inl h)
  have q2 : (k == 2) = false := by simpa using fun h => k1 (.inr h)
  clear k1
  by_cases k3 : k = 3
  · rw [if_pos k3]
    subst k3
    by_cases hn : E = true
    · have hl2 := hl.2 hn
      subst hn
      clear hl HS
      go_enter Tryd.func32, Tryd.ntmps32
      go_wp2
      go_ret
      exact ⟨ret_bool (by simp), k2⟩
    · have hl2 : ¬ s.toList = [] := fun g => hn (hl.1 g)
      have hl3 : s.toList.isEmpty = false := by simpa using hl2
      obtain rfl : E = false := by simpa using hn
      clear hl HS hn
      go_enter Tryd.func32, Tryd.ntmps32
      go_wp2
      go_ret
      exact ⟨ret_bool (by simp), k2⟩
  rw [if_neg k3]
  have q3 : (k == 3) = false := by simpa using k3
  clear k3
  have HL := Lib.hid hl
  clear hl
  by_cases k4 : k = 4
  · rw [if_pos k4]
    subst k4
    by_cases hn : n = 0
    · subst hn
      go_enter Tryd.func32, Tryd.ntmps32
      go_wp2_with (go_at_call 34; refine (cv _ k2).mono ?_; rintro e w' ⟨rfl, hst⟩)
      go_ret
      exact ⟨ret_bool (by simp), hst⟩
    · have hnb : (n == 0) = false := by simpa using hn
      go_enter Tryd.func32, Tryd.ntmps32
      go_wp2
      go_ret
      exact ⟨ret_bool (by simp [hn]), k2⟩
  rw [if_neg k4]
  have q4 : (k == 4) = false := by simpa using k4
  clear k4
  by_cases k5 : k = 5
  · rw [if_pos k5]
    subst k5
    go_enter Tryd.func32, Tryd.ntmps32
    go_wp2
    go_ret
    exact ⟨ret_bool (by by_cases h : n = 0 <;> simp [h]), k2⟩
  rw [if_neg k5]
  have q5 : (k == 5) = false := by simpa using k5
  clear k5
  go_enter Tryd.func32, Tryd.ntmps32
  go_wp2
  go_ret
  exact ⟨rfl, k2⟩

end Go.Proofs.YtijgcfnjbfaelaaDoor
