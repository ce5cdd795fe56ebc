/- The walk of KindNames. -/
import Derived.Test.YtcodamhoanfanaaDoorKindLives
namespace Go.Proofs.YtcodamhoanfanaaDoor
open Go.RowKit

set_option maxRecDepth 100000 in
set_option maxHeartbeats 1000000 in
theorem names_any {w : World} (h : KAll w w) (s : ByteArray) (k : Int) : Calls Tryd.prog 3 #[.string s, .int .i64 k] w (Yes w) := by
  have c1 := fun {w1 : World} (g : KAll w w1) => g.of (of_any w1 s)
  have c2 := fun {w1 : World} (g : KAll w w1) => g.ofS (rOf_any w1 s)
  have c3 := fun {w1 : World} (g : KAll w w1) => g.of (name_any w1 k)
  have c4 := fun {w1 : World} (g : KAll w w1) => g.ofS (rName_any w1 k)
  have hr := of_range s.data.toList
  have hb := name_of s.data.toList
  obtain ⟨F, hF⟩ : ∃ F, ofL s.data.toList = F := ⟨_, rfl⟩
  simp only [hF] at c1 c2 hr hb
  have c5 := fun {w1 : World} (g : KAll w w1) => g.of (name_any w1 F)
  have hn := name_none k
  have ho := of_name k
  have c6 := fun {w1 : World} (g : KAll w w1) => g.of (of_any w1 ⟨(nameL k).toArray⟩)
  have hoT : ofL (⟨(nameL k).toArray⟩ : ByteArray).data.toList = ofL (nameL k) := rfl

  obtain ⟨T, hT⟩ : ∃ T : ByteArray, ⟨(nameL k).toArray⟩ = T := ⟨_, rfl⟩
  simp only [hT] at c3 c4 c6
  have htl : T.toList = nameL k := by rw [Lib.toList_data, ← hT]
  have HA := Lib.hid h
  by_cases hF0 : F = 0
  · subst hF0
    clear c5 hb hF hr
    by_cases hk : k < 1 ∨ 5 < k
    · have hTe : T = ⟨#[]⟩ := by rw [← hT, hn.2 hk]
      subst hTe
      clear hn ho c6 hoT hT htl
      rcases hk with hk | hk
      · go_enter Tryd.func3, Tryd.ntmps3
        go_wp2_with (first
          | (go_at_call 9; refine (awake_any h).mono ?_; rintro e w' ⟨rfl, hst⟩)
          | (go_at_call 10; with_reducible refine (c1 (by assumption)).mono ?_; rintro e w' ⟨rfl, hst⟩)
          | (go_at_call 11; refine (c2 (by assumption)).mono ?_; rintro e w' ⟨rfl, hst⟩)
          | (go_at_call 12; with_reducible refine (c3 (by assumption)).mono ?_; rintro e w' ⟨rfl, hst⟩)
          | (go_at_call 13; refine (c4 (by assumption)).mono ?_; rintro e w' ⟨rfl, hst⟩))
        go_ret
        exact ⟨rfl, KAll.below (by assumption)⟩
      · have hk1 : ¬ k < 1 := by omega
        go_enter Tryd.func3, Tryd.ntmps3
        go_wp2_with (first
          | (go_at_call 9; refine (awake_any h).mono ?_; rintro e w' ⟨rfl, hst⟩)
          | (go_at_call 10; with_reducible refine (c1 (by assumption)).mono ?_; rintro e w' ⟨rfl, hst⟩)
          | (go_at_call 11; refine (c2 (by assumption)).mono ?_; rintro e w' ⟨rfl, hst⟩)
          | (go_at_call 12; with_reducible refine (c3 (by assumption)).mono ?_; rintro e w' ⟨rfl, hst⟩)
          | (go_at_call 13; refine (c4 (by assumption)).mono ?_; rintro e w' ⟨rfl, hst⟩))
        go_ret
        exact ⟨rfl, KAll.below (by assumption)⟩
    · have hkN : nameL k ≠ [] := fun g => hk (hn.1 g)
      have ho2 := ho hkN
      simp only [ho2] at c6
      have hT1 : ¬ T.toList = [] := by rw [htl]; exact hkN
      have hT2 : T.toList.isEmpty = false := by simpa using hT1
      have hT3 : (T.toList == []) = false := by simpa using hT1
      have hk1 : ¬ k < 1 := by omega
      have hk2 : ¬ 5 < k := by omega
      clear hn ho hoT hT htl hkN ho2 hk
      go_enter Tryd.func3, Tryd.ntmps3
      go_wp2_with (first
        | (go_at_call 9; refine (awake_any h).mono ?_; rintro e w' ⟨rfl, hst⟩)
        | (go_at_call 10; with_reducible refine (c1 (by assumption)).mono ?_; rintro e w' ⟨rfl, hst⟩)
        | (go_at_call 11; refine (c2 (by assumption)).mono ?_; rintro e w' ⟨rfl, hst⟩)
        | (go_at_call 12; with_reducible refine (c3 (by assumption)).mono ?_; rintro e w' ⟨rfl, hst⟩)
        | (go_at_call 13; refine (c4 (by assumption)).mono ?_; rintro e w' ⟨rfl, hst⟩)
        | (go_at_call 10; with_reducible refine (c6 (by assumption)).mono ?_; rintro e w' ⟨rfl, hst⟩))
      go_ret
      exact ⟨ret_bool (by simp; omega), KAll.below (by assumption)⟩
  · have hs : (⟨(nameL F).toArray⟩ : ByteArray) = s := by
      rw [hb hF0]
    simp only [hs] at c5
    have hFb : (F == 0) = false := by simpa using hF0
    clear hs hb hF hr hF0
    by_cases hk : k < 1 ∨ 5 < k
    · have hTe : T = ⟨#[]⟩ := by rw [← hT, hn.2 hk]
      subst hTe
      clear hn ho c6 hoT hT htl
      rcases hk with hk | hk
      · go_enter Tryd.func3, Tryd.ntmps3
        go_wp2_with (first
          | (go_at_call 9; refine (awake_any h).mono ?_; rintro e w' ⟨rfl, hst⟩)
          | (go_at_call 10; with_reducible refine (c1 (by assumption)).mono ?_; rintro e w' ⟨rfl, hst⟩)
          | (go_at_call 11; refine (c2 (by assumption)).mono ?_; rintro e w' ⟨rfl, hst⟩)
          | (go_at_call 12; with_reducible refine (c3 (by assumption)).mono ?_; rintro e w' ⟨rfl, hst⟩)
          | (go_at_call 13; refine (c4 (by assumption)).mono ?_; rintro e w' ⟨rfl, hst⟩)
          | (go_at_call 12; with_reducible refine (c5 (by assumption)).mono ?_; rintro e w' ⟨rfl, hst⟩))
        go_ret
        exact ⟨rfl, KAll.below (by assumption)⟩
      · have hk1 : ¬ k < 1 := by omega
        go_enter Tryd.func3, Tryd.ntmps3
        go_wp2_with (first
          | (go_at_call 9; refine (awake_any h).mono ?_; rintro e w' ⟨rfl, hst⟩)
          | (go_at_call 10; with_reducible refine (c1 (by assumption)).mono ?_; rintro e w' ⟨rfl, hst⟩)
          | (go_at_call 11; refine (c2 (by assumption)).mono ?_; rintro e w' ⟨rfl, hst⟩)
          | (go_at_call 12; with_reducible refine (c3 (by assumption)).mono ?_; rintro e w' ⟨rfl, hst⟩)
          | (go_at_call 13; refine (c4 (by assumption)).mono ?_; rintro e w' ⟨rfl, hst⟩)
          | (go_at_call 12; with_reducible refine (c5 (by assumption)).mono ?_; rintro e w' ⟨rfl, hst⟩))
        go_ret
        exact ⟨rfl, KAll.below (by assumption)⟩
    · have hkN : nameL k ≠ [] := fun g => hk (hn.1 g)
      have ho2 := ho hkN
      simp only [ho2] at c6
      have hT1 : ¬ T.toList = [] := by rw [htl]; exact hkN
      have hT2 : T.toList.isEmpty = false := by simpa using hT1
      have hT3 : (T.toList == []) = false := by simpa using hT1
      have hk1 : ¬ k < 1 := by omega
      have hk2 : ¬ 5 < k := by omega
      clear hn ho hoT hT htl hkN ho2 hk
      go_enter Tryd.func3, Tryd.ntmps3
      go_wp2_with (first
        | (go_at_call 9; refine (awake_any h).mono ?_; rintro e w' ⟨rfl, hst⟩)
        | (go_at_call 10; with_reducible refine (c1 (by assumption)).mono ?_; rintro e w' ⟨rfl, hst⟩)
        | (go_at_call 11; refine (c2 (by assumption)).mono ?_; rintro e w' ⟨rfl, hst⟩)
        | (go_at_call 12; with_reducible refine (c3 (by assumption)).mono ?_; rintro e w' ⟨rfl, hst⟩)
        | (go_at_call 13; refine (c4 (by assumption)).mono ?_; rintro e w' ⟨rfl, hst⟩)
        | (go_at_call 12; with_reducible refine (c5 (by assumption)).mono ?_; rintro e w' ⟨rfl, hst⟩)
        | (go_at_call 10; with_reducible refine (c6 (by assumption)).mono ?_; rintro e w' ⟨rfl, hst⟩))
      go_ret
      exact ⟨ret_bool (by simp; omega), KAll.below (by assumption)⟩
end Go.Proofs.YtcodamhoanfanaaDoor
