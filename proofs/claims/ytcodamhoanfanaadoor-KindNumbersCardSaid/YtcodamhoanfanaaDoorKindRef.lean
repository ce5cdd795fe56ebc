/- The walks of the reference's name, Name, Of, Valid. -/
import Derived.Test.YtcodamhoanfanaaDoorKindOrder
import Derived.Test.YtcodamhoanfanaaDoorKindNames
import Derived.Test.YtcodamhoanfanaaDoorUtfRValid
namespace Go.Proofs.YtcodamhoanfanaaDoor
open Go.RowKit

set_option maxRecDepth 100000 in
set_option maxHeartbeats 1000000 in
theorem rname_any (w : World) (k : Int) :
    Calls Tryd.prog 30 #[.int .i64 k] w fun e w' => e = .returned (.string ⟨(nameL k).toArray⟩) ∧ w' = w := by
  by_cases h : k = 1 ∨ k = 2 ∨ k = 3 ∨ k = 4 ∨ k = 5
  · rcases h with rfl | rfl | rfl | rfl | rfl
    all_goals
      go_enter Tryd.func30, Tryd.ntmps30
      go_wp2
      go_ret
      exact ⟨rfl, rfl⟩
  · have hn : (⟨(nameL k).toArray⟩ : ByteArray) = ⟨#[]⟩ := by rw [(name_none k).2 (by omega)]
    rw [hn]
    clear hn
    have q1 : (k == 1) = false := by simp; omega
    have q2 : (k == 2) = false := by simp; omega
    have q3 : (k == 3) = false := by simp; omega
    have q4 : (k == 4) = false := by simp; omega
    have q5 : (k == 5) = false := by simp; omega
    clear h
    go_enter Tryd.func30, Tryd.ntmps30
    go_wp2
    go_ret
    exact ⟨rfl, rfl⟩

set_option maxRecDepth 100000 in
set_option maxHeartbeats 1000000 in
theorem rName_any (w : World) (k : Int) :
    Calls Tryd.prog 13 #[.int .i64 k] w fun e w' => e = .returned (.string ⟨(nameL k).toArray⟩) ∧ w' = w := by
  have c := fun W => rname_any W k
  obtain ⟨F, hF⟩ : ∃ F, (⟨(nameL k).toArray⟩ : ByteArray) = F := ⟨_, rfl⟩
  simp only [hF] at c ⊢
  clear hF
  go_enter Tryd.func13, Tryd.ntmps13
  go_wp2_with (go_at_call 30; refine (c _).mono ?_; rintro e w' ⟨rfl, rfl⟩)
  go_ret
  exact ⟨rfl, rfl⟩

theorem rof_hit {s F : ByteArray} {m k : Int} (hF : (⟨(nameL k).toArray⟩ : ByteArray) = F) (h1 : 1 ≤ k) (h5 : k ≤ 5) (hn : (F.toList == s.toList) = true) (hm : ofL s.data.toList = m) : m = k := by
  have e : s.data.toList = nameL k := by
    have := eq_of_beq hn
    rw [Lib.toList_data, Lib.toList_data, ← hF] at this
    exact this.symm
  rw [← hm, e, of_name k (fun g => by have := (name_none k).1 g; omega)]
theorem rof_next {s F : ByteArray} {k : Nat} (hF : (⟨(nameL (k + 1 : Nat)).toArray⟩ : ByteArray) = F) (hn : (F.toList == s.toList) = false) (h : NotIn k s.data.toList) : NotIn (k + 1) s.data.toList := by
  refine h.next rfl ?_
  rw [Lib.toList_data, ← hF] at hn
  exact hn

set_option maxRecDepth 100000 in
set_option maxHeartbeats 1000000 in
theorem rOf_any (w : World) (s : ByteArray) :
    Calls Tryd.prog 11 #[.string s] w fun e w' => e = .returned (.int .i64 (ofL s.data.toList)) ∧ w' = w := by
  obtain ⟨F, hF⟩ : ∃ F, ofL s.data.toList = F := ⟨_, rfl⟩
  rw [hF]
  have HF := Lib.hid hF
  clear hF
  go_enter Tryd.func11, Tryd.ntmps11
  go_wp2
  go_loop [3] (fun i => ∃ k : Nat, k ≤ 5 ∧ i = .int .i64 (k + 1 : Nat) ∧ NotIn k s.data.toList) (fun i => 6 - (intOf i).toNat)
  case atStart => exact ⟨0, by omega, rfl, fun j hj => by omega⟩
  case round =>
    obtain ⟨k, hk, rfl, hN⟩ := hrel
    have HN := Lib.hid hN
    clear hN
    by_cases h5 : k = 5
    · subst h5
      go_wp2
      go_ret
      exact ⟨ret_int (of_miss HF.out HN.out).symm, rfl⟩
    · have hk4 : ((k + 1 : Nat) : Int) ≤ 5 := by omega
      have c := fun W => rname_any W (k + 1 : Nat)
      obtain ⟨T, hT⟩ : ∃ T, (⟨(nameL (k + 1 : Nat)).toArray⟩ : ByteArray) = T := ⟨_, rfl⟩
      simp only [hT] at c
      have HT := Lib.hid hT
      clear hT
      obtain ⟨m, hm⟩ : ∃ m : Int, ((k + 1 : Nat) : Int) = m := ⟨_, rfl⟩
      rw [hm] at hk4 c ⊢
      have hm1 : 1 ≤ m := by omega
      have HM := Lib.hid hm
      clear hm
      go_wp2_with (go_at_call 30; refine (c _).mono ?_; rintro e w' ⟨rfl, rfl⟩)
      · rename_i h1
        go_ret
        exact ⟨ret_int (rof_hit (by rw [← HM.out]; exact HT.out) hm1 hk4 h1 HF.out).symm, rfl⟩
      · rename_i h1
        go_round
        case rel => exact ⟨k + 1, by omega, by rw [← HM.out]; rfl, rof_next HT.out h1 HN.out⟩
        case measure => simp [intOf]; omega
end Go.Proofs.YtcodamhoanfanaaDoor
