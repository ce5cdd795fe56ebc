/- The walk of KindValid. -/
import Derived.Test.YtcodamhoanfanaaDoorKindLives
namespace Go.Proofs.YtcodamhoanfanaaDoor
open Go.RowKit

/-- what is valid of each kind, by whether there is no text, no number, a small number -/
structure Vals (n : Int) (s : ByteArray) (E Z B O : Bool) : Prop where
  v1 : okV ⟨1, n, s⟩ = E
  v2 : okV ⟨2, n, s⟩ = E
  v3 : okV ⟨3, n, s⟩ = (B && E)
  v4 : okV ⟨4, n, s⟩ = (Z && O)
  v5 : okV ⟨5, n, s⟩ = Z
theorem vals (n : Int) (s : ByteArray) : Vals n s (decide (s.size = 0)) (decide (n = 0)) (decide (n ≤ 1)) (okL (ls s)) := ⟨rfl, rfl, rfl, rfl, rfl⟩
theorem ok_none {k n : Int} {s : ByteArray} (h : nameL k = []) : okV ⟨k, n, s⟩ = false := by
  have := (name_none k).1 h
  unfold okV
  dsimp only
  rw [if_neg (by omega), if_neg (by omega), if_neg (by omega), if_neg (by omega)]

set_option maxRecDepth 100000 in
set_option maxHeartbeats 4000000 in
theorem vallaw_any {w : World} (h : KAll w w) (k n : Int) (s : ByteArray) (n0 : 0 ≤ n) (n1 : n ≤ 18446744073709551615) (hs : s.size ≤ 140737488355328) :
    Calls Tryd.prog 6 #[.int .i64 k, .int .u64 n, .string s] w (Yes w) := by
  have V := vals n s
  have d1 := fun {w0 w1 : World} (g : KAll w0 w1) => g.ofS (uint_any g.st.k)
  have d2 := fun {w0 w1 : World} (g : KAll w0 w1) => g.ofS (int_any g.st.k)
  have d3 := fun {w0 w1 : World} (g : KAll w0 w1) => g.ofS (bool_any g.st.k)
  have d4 := fun {w0 w1 : World} (g : KAll w0 w1) => g.ofS (text_any g.st.k)
  have d5 := fun {w0 w1 : World} (g : KAll w0 w1) => g.ofS (bytes_any g.st.k)
  have c1 := fun {w0 w1 : World} (g : KAll w0 w1) => g.ofK (fun q => kvalid_any q ⟨1, n, s⟩ ⟨n0, n1⟩ hs)
  have c2 := fun {w0 w1 : World} (g : KAll w0 w1) => g.ofK (fun q => kvalid_any q ⟨2, n, s⟩ ⟨n0, n1⟩ hs)
  have c3 := fun {w0 w1 : World} (g : KAll w0 w1) => g.ofK (fun q => kvalid_any q ⟨3, n, s⟩ ⟨n0, n1⟩ hs)
  have c4 := fun {w0 w1 : World} (g : KAll w0 w1) => g.ofK (fun q => kvalid_any q ⟨4, n, s⟩ ⟨n0, n1⟩ hs)
  have c5 := fun {w0 w1 : World} (g : KAll w0 w1) => g.ofK (fun q => kvalid_any q ⟨5, n, s⟩ ⟨n0, n1⟩ hs)
  have c6 := fun {w0 w1 : World} (g : KAll w0 w1) => g.ofK (fun q => kvalid_any q ⟨k, n, s⟩ ⟨n0, n1⟩ hs)
  have cn := fun {w0 w1 : World} (g : KAll w0 w1) => g.of (name_any w1 k)
  have cu := fun {w0 w1 : World} (g : KAll w0 w1) => g.of ((valid_any g.st.self.st s hs).mono fun _ _ ⟨he, hb⟩ => ⟨he, hb.below⟩)
  have hv : nameL k = [] → okV ⟨k, n, s⟩ = false := ok_none
  have hTl : (⟨(nameL k).toArray⟩ : ByteArray).toList = nameL k := Lib.toList_data _
  have hE : s.toList = [] ↔ decide (s.size = 0) = true := by rw [str_nil]; simp
  have hE2 : s.toList.isEmpty = decide (s.size = 0) := by
    by_cases g : s.size = 0
    · simp [g, (str_nil s).2 g]
    · have : ¬ s.toList = [] := fun q => g ((str_nil s).1 q)
      rw [decide_eq_false g]
      simpa using this
  obtain ⟨E, qE⟩ : ∃ E, decide (s.size = 0) = E := ⟨_, rfl⟩
  obtain ⟨O, qO⟩ : ∃ O, okL (ls s) = O := ⟨_, rfl⟩
  obtain ⟨W, qW⟩ : ∃ W, okV ⟨k, n, s⟩ = W := ⟨_, rfl⟩
  obtain ⟨T, qT⟩ : ∃ T : ByteArray, ⟨(nameL k).toArray⟩ = T := ⟨_, rfl⟩
  rw [qE, qO] at V
  simp only [qO] at cu
  simp only [qW] at c6 hv
  simp only [qT] at cn hTl
  simp only [V.v1, vv] at c1
  simp only [V.v2, vv] at c2
  simp only [V.v3, vv] at c3
  simp only [V.v4, vv] at c4
  simp only [V.v5, vv] at c5
  simp only [vv] at c6
  rw [qE] at hE hE2
  have hTW : T.toList = [] → W = false := fun g => hv (by rw [← hTl]; exact g)
  have HTW := Lib.hid hTW
  clear hTW hv hTl qT qW qO qE V hs n1
  have hz : ∀ b, decide (n = 0) = b → n = 0 ∨ n ≠ 0 := fun _ _ => Decidable.em _
  clear hz
  have hn3 : n = 0 ∨ n = 1 ∨ 2 ≤ n := by omega
  cases hEc : E
  · subst hEc
    have hl : ¬ s.toList = [] := fun g => by have := hE.1 g; simp at this
    clear hE
    rcases hn3 with rfl | rfl | hn
    · have z1 : decide ((0 : Int) = 0) = true := rfl
      have z2 : decide ((0 : Int) ≤ 1) = true := rfl
      simp only [z2, Bool.and_false] at c3 c4 c5
      go_enter Tryd.func6, Tryd.ntmps6
      go_wp2_with (first
        | (go_at_call 9; refine (awake_any h).mono ?_; rintro e w' ⟨rfl, hst⟩)
        | (go_at_call 23; refine (d1 (by assumption)).mono ?_; rintro e w' ⟨rfl, hst⟩)
        | (go_at_call 24; refine (d2 (by assumption)).mono ?_; rintro e w' ⟨rfl, hst⟩)
        | (go_at_call 25; refine (d3 (by assumption)).mono ?_; rintro e w' ⟨rfl, hst⟩)
        | (go_at_call 26; refine (d4 (by assumption)).mono ?_; rintro e w' ⟨rfl, hst⟩)
        | (go_at_call 27; refine (d5 (by assumption)).mono ?_; rintro e w' ⟨rfl, hst⟩)
        | (go_at_call 28; refine (cu (by assumption)).mono ?_; rintro e w' ⟨rfl, hst⟩)
        | (go_at_call 12; refine (cn (by assumption)).mono ?_; rintro e w' ⟨rfl, hst⟩)
        | (go_at_call 14; with_reducible refine (c1 (by assumption)).mono ?_; rintro e w' ⟨rfl, hst⟩)
        | (go_at_call 14; with_reducible refine (c2 (by assumption)).mono ?_; rintro e w' ⟨rfl, hst⟩)
        | (go_at_call 14; with_reducible refine (c3 (by assumption)).mono ?_; rintro e w' ⟨rfl, hst⟩)
        | (go_at_call 14; with_reducible refine (c4 (by assumption)).mono ?_; rintro e w' ⟨rfl, hst⟩)
        | (go_at_call 14; with_reducible refine (c5 (by assumption)).mono ?_; rintro e w' ⟨rfl, hst⟩)
        | (go_at_call 14; with_reducible refine (c6 (by assumption)).mono ?_; rintro e w' ⟨rfl, hst⟩))
      all_goals first
        | (go_ret; exact ⟨rfl, KAll.below (by assumption)⟩)
        | (go_ret; refine ⟨ret_bool ?_, KAll.below (by assumption)⟩; rw [HTW.out (by assumption)]; rfl)
    · have z1 : decide ((1 : Int) = 0) = false := rfl
      have z2 : decide ((1 : Int) ≤ 1) = true := rfl
      simp only [z1, z2, Bool.and_false, Bool.false_and] at c3 c4 c5
      clear z1 z2
      go_enter Tryd.func6, Tryd.ntmps6
      go_wp2_with (first
        | (go_at_call 9; refine (awake_any h).mono ?_; rintro e w' ⟨rfl, hst⟩)
        | (go_at_call 23; refine (d1 (by assumption)).mono ?_; rintro e w' ⟨rfl, hst⟩)
        | (go_at_call 24; refine (d2 (by assumption)).mono ?_; rintro e w' ⟨rfl, hst⟩)
        | (go_at_call 25; refine (d3 (by assumption)).mono ?_; rintro e w' ⟨rfl, hst⟩)
        | (go_at_call 26; refine (d4 (by assumption)).mono ?_; rintro e w' ⟨rfl, hst⟩)
        | (go_at_call 27; refine (d5 (by assumption)).mono ?_; rintro e w' ⟨rfl, hst⟩)
        | (go_at_call 28; refine (cu (by assumption)).mono ?_; rintro e w' ⟨rfl, hst⟩)
        | (go_at_call 12; refine (cn (by assumption)).mono ?_; rintro e w' ⟨rfl, hst⟩)
        | (go_at_call 14; with_reducible refine (c1 (by assumption)).mono ?_; rintro e w' ⟨rfl, hst⟩)
        | (go_at_call 14; with_reducible refine (c2 (by assumption)).mono ?_; rintro e w' ⟨rfl, hst⟩)
        | (go_at_call 14; with_reducible refine (c3 (by assumption)).mono ?_; rintro e w' ⟨rfl, hst⟩)
        | (go_at_call 14; with_reducible refine (c4 (by assumption)).mono ?_; rintro e w' ⟨rfl, hst⟩)
        | (go_at_call 14; with_reducible refine (c5 (by assumption)).mono ?_; rintro e w' ⟨rfl, hst⟩)
        | (go_at_call 14; with_reducible refine (c6 (by assumption)).mono ?_; rintro e w' ⟨rfl, hst⟩))
      all_goals first
        | (go_ret; exact ⟨rfl, KAll.below (by assumption)⟩)
        | (go_ret; refine ⟨ret_bool ?_, KAll.below (by assumption)⟩; rw [HTW.out (by assumption)]; rfl)
    · have z1 : decide (n = 0) = false := decide_eq_false (by omega)
      have z2 : decide (n ≤ 1) = false := decide_eq_false (by omega)
      simp only [z1, z2, Bool.and_false, Bool.false_and] at c3 c4 c5
      clear z1 z2
      have z0 : (n == 0) = false := by simp; omega
      have z3 : ¬ n < 2 := by omega
      go_enter Tryd.func6, Tryd.ntmps6
      go_wp2_with (first
        | (go_at_call 9; refine (awake_any h).mono ?_; rintro e w' ⟨rfl, hst⟩)
        | (go_at_call 23; refine (d1 (by assumption)).mono ?_; rintro e w' ⟨rfl, hst⟩)
        | (go_at_call 24; refine (d2 (by assumption)).mono ?_; rintro e w' ⟨rfl, hst⟩)
        | (go_at_call 25; refine (d3 (by assumption)).mono ?_; rintro e w' ⟨rfl, hst⟩)
        | (go_at_call 26; refine (d4 (by assumption)).mono ?_; rintro e w' ⟨rfl, hst⟩)
        | (go_at_call 27; refine (d5 (by assumption)).mono ?_; rintro e w' ⟨rfl, hst⟩)
        | (go_at_call 28; refine (cu (by assumption)).mono ?_; rintro e w' ⟨rfl, hst⟩)
        | (go_at_call 12; refine (cn (by assumption)).mono ?_; rintro e w' ⟨rfl, hst⟩)
        | (go_at_call 14; with_reducible refine (c1 (by assumption)).mono ?_; rintro e w' ⟨rfl, hst⟩)
        | (go_at_call 14; with_reducible refine (c2 (by assumption)).mono ?_; rintro e w' ⟨rfl, hst⟩)
        | (go_at_call 14; with_reducible refine (c3 (by assumption)).mono ?_; rintro e w' ⟨rfl, hst⟩)
        | (go_at_call 14; with_reducible refine (c4 (by assumption)).mono ?_; rintro e w' ⟨rfl, hst⟩)
        | (go_at_call 14; with_reducible refine (c5 (by assumption)).mono ?_; rintro e w' ⟨rfl, hst⟩)
        | (go_at_call 14; with_reducible refine (c6 (by assumption)).mono ?_; rintro e w' ⟨rfl, hst⟩))
      all_goals first
        | (go_ret; exact ⟨rfl, KAll.below (by assumption)⟩)
        | (go_ret; refine ⟨ret_bool ?_, KAll.below (by assumption)⟩; rw [HTW.out (by assumption)]; rfl)
  · subst hEc
    have hl : s.toList = [] := hE.2 rfl
    clear hE
    rcases hn3 with rfl | rfl | hn
    · have z1 : decide ((0 : Int) = 0) = true := rfl
      have z2 : decide ((0 : Int) ≤ 1) = true := rfl
      simp only [z2, Bool.and_true] at c3 c4 c5
      go_enter Tryd.func6, Tryd.ntmps6
      go_wp2_with (first
        | (go_at_call 9; refine (awake_any h).mono ?_; rintro e w' ⟨rfl, hst⟩)
        | (go_at_call 23; refine (d1 (by assumption)).mono ?_; rintro e w' ⟨rfl, hst⟩)
        | (go_at_call 24; refine (d2 (by assumption)).mono ?_; rintro e w' ⟨rfl, hst⟩)
        | (go_at_call 25; refine (d3 (by assumption)).mono ?_; rintro e w' ⟨rfl, hst⟩)
        | (go_at_call 26; refine (d4 (by assumption)).mono ?_; rintro e w' ⟨rfl, hst⟩)
        | (go_at_call 27; refine (d5 (by assumption)).mono ?_; rintro e w' ⟨rfl, hst⟩)
        | (go_at_call 28; refine (cu (by assumption)).mono ?_; rintro e w' ⟨rfl, hst⟩)
        | (go_at_call 12; refine (cn (by assumption)).mono ?_; rintro e w' ⟨rfl, hst⟩)
        | (go_at_call 14; with_reducible refine (c1 (by assumption)).mono ?_; rintro e w' ⟨rfl, hst⟩)
        | (go_at_call 14; with_reducible refine (c2 (by assumption)).mono ?_; rintro e w' ⟨rfl, hst⟩)
        | (go_at_call 14; with_reducible refine (c3 (by assumption)).mono ?_; rintro e w' ⟨rfl, hst⟩)
        | (go_at_call 14; with_reducible refine (c4 (by assumption)).mono ?_; rintro e w' ⟨rfl, hst⟩)
        | (go_at_call 14; with_reducible refine (c5 (by assumption)).mono ?_; rintro e w' ⟨rfl, hst⟩)
        | (go_at_call 14; with_reducible refine (c6 (by assumption)).mono ?_; rintro e w' ⟨rfl, hst⟩))
      all_goals first
        | (go_ret; exact ⟨rfl, KAll.below (by assumption)⟩)
        | (go_ret; refine ⟨ret_bool ?_, KAll.below (by assumption)⟩; rw [HTW.out (by assumption)]; rfl)
    · have z1 : decide ((1 : Int) = 0) = false := rfl
      have z2 : decide ((1 : Int) ≤ 1) = true := rfl
      simp only [z1, z2, Bool.and_true, Bool.false_and] at c3 c4 c5
      clear z1 z2
      go_enter Tryd.func6, Tryd.ntmps6
      go_wp2_with (first
        | (go_at_call 9; refine (awake_any h).mono ?_; rintro e w' ⟨rfl, hst⟩)
        | (go_at_call 23; refine (d1 (by assumption)).mono ?_; rintro e w' ⟨rfl, hst⟩)
        | (go_at_call 24; refine (d2 (by assumption)).mono ?_; rintro e w' ⟨rfl, hst⟩)
        | (go_at_call 25; refine (d3 (by assumption)).mono ?_; rintro e w' ⟨rfl, hst⟩)
        | (go_at_call 26; refine (d4 (by assumption)).mono ?_; rintro e w' ⟨rfl, hst⟩)
        | (go_at_call 27; refine (d5 (by assumption)).mono ?_; rintro e w' ⟨rfl, hst⟩)
        | (go_at_call 28; refine (cu (by assumption)).mono ?_; rintro e w' ⟨rfl, hst⟩)
        | (go_at_call 12; refine (cn (by assumption)).mono ?_; rintro e w' ⟨rfl, hst⟩)
        | (go_at_call 14; with_reducible refine (c1 (by assumption)).mono ?_; rintro e w' ⟨rfl, hst⟩)
        | (go_at_call 14; with_reducible refine (c2 (by assumption)).mono ?_; rintro e w' ⟨rfl, hst⟩)
        | (go_at_call 14; with_reducible refine (c3 (by assumption)).mono ?_; rintro e w' ⟨rfl, hst⟩)
        | (go_at_call 14; with_reducible refine (c4 (by assumption)).mono ?_; rintro e w' ⟨rfl, hst⟩)
        | (go_at_call 14; with_reducible refine (c5 (by assumption)).mono ?_; rintro e w' ⟨rfl, hst⟩)
        | (go_at_call 14; with_reducible refine (c6 (by assumption)).mono ?_; rintro e w' ⟨rfl, hst⟩))
      all_goals first
        | (go_ret; exact ⟨rfl, KAll.below (by assumption)⟩)
        | (go_ret; refine ⟨ret_bool ?_, KAll.below (by assumption)⟩; rw [HTW.out (by assumption)]; rfl)
    · have z1 : decide (n = 0) = false := decide_eq_false (by omega)
      have z2 : decide (n ≤ 1) = false := decide_eq_false (by omega)
      simp only [z1, z2, Bool.and_true, Bool.false_and] at c3 c4 c5
      clear z1 z2
      have z0 : (n == 0) = false := by simp; omega
      have z3 : ¬ n < 2 := by omega
      go_enter Tryd.func6, Tryd.ntmps6
      go_wp2_with (first
        | (go_at_call 9; refine (awake_any h).mono ?_; rintro e w' ⟨rfl, hst⟩)
        | (go_at_call 23; refine (d1 (by assumption)).mono ?_; rintro e w' ⟨rfl, hst⟩)
        | (go_at_call 24; refine (d2 (by assumption)).mono ?_; rintro e w' ⟨rfl, hst⟩)
        | (go_at_call 25; refine (d3 (by assumption)).mono ?_; rintro e w' ⟨rfl, hst⟩)
        | (go_at_call 26; refine (d4 (by assumption)).mono ?_; rintro e w' ⟨rfl, hst⟩)
        | (go_at_call 27; refine (d5 (by assumption)).mono ?_; rintro e w' ⟨rfl, hst⟩)
        | (go_at_call 28; refine (cu (by assumption)).mono ?_; rintro e w' ⟨rfl, hst⟩)
        | (go_at_call 12; refine (cn (by assumption)).mono ?_; rintro e w' ⟨rfl, hst⟩)
        | (go_at_call 14; with_reducible refine (c1 (by assumption)).mono ?_; rintro e w' ⟨rfl, hst⟩)
        | (go_at_call 14; with_reducible refine (c2 (by assumption)).mono ?_; rintro e w' ⟨rfl, hst⟩)
        | (go_at_call 14; with_reducible refine (c3 (by assumption)).mono ?_; rintro e w' ⟨rfl, hst⟩)
        | (go_at_call 14; with_reducible refine (c4 (by assumption)).mono ?_; rintro e w' ⟨rfl, hst⟩)
        | (go_at_call 14; with_reducible refine (c5 (by assumption)).mono ?_; rintro e w' ⟨rfl, hst⟩)
        | (go_at_call 14; with_reducible refine (c6 (by assumption)).mono ?_; rintro e w' ⟨rfl, hst⟩))
      all_goals first
        | (go_ret; exact ⟨rfl, KAll.below (by assumption)⟩)
        | (go_ret; refine ⟨ret_bool ?_, KAll.below (by assumption)⟩; rw [HTW.out (by assumption)]; rfl)
end Go.Proofs.YtcodamhoanfanaaDoor
