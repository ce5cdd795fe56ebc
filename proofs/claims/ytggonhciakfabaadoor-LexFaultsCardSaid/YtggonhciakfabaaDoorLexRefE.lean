/- The walks of the reference: a digit of base 16, an escape. -/
import Derived.Test.YtggonhciakfabaaDoorLexRefW
import Derived.Deep.RegionHeld3
namespace Go.Proofs.YtggonhciakfabaaDoor
open Go.RowKit

/-- what a digit of base 16 is worth; -1: it is none -/
def hxI (c : UInt8) : Int := if dv c.toNat = 16 then -1 else (dv c.toNat : Nat)

theorem dv_num {c : Nat} (h : 48 ≤ c ∧ c ≤ 57) : dv c = c - 48 := if_pos h
theorem dv_low {c : Nat} (h : 97 ≤ c ∧ c ≤ 102) : dv c = c - 87 := by unfold dv; rw [if_neg (by omega), if_pos h]
theorem dv_upp {c : Nat} (h : 65 ≤ c ∧ c ≤ 70) : dv c = c - 55 := by unfold dv; rw [if_neg (by omega), if_neg (by omega), if_pos h]
theorem dv_no {c : Nat} (h1 : ¬ (48 ≤ c ∧ c ≤ 57)) (h2 : ¬ (97 ≤ c ∧ c ≤ 102)) (h3 : ¬ (65 ≤ c ∧ c ≤ 70)) : dv c = 16 := by unfold dv; rw [if_neg h1, if_neg h2, if_neg h3]

set_option maxRecDepth 100000 in
set_option maxHeartbeats 1000000 in
theorem rhex_any (w : World) (c : UInt8) : Calls Tryd.prog 51 #[.int .u8 (c.toNat : Nat)] w fun e w' => e = .returned (.int .i64 (hxI c)) ∧ w = w' := by
  have cd := fun W => rdigit_any W c
  have hc := c.toNat_lt
  obtain ⟨V, hV⟩ : ∃ V, hxI c = V := ⟨_, rfl⟩
  rw [hV]
  unfold hxI at hV
  by_cases h1 : 48 ≤ c.toNat ∧ c.toNat ≤ 57
  · have hD : isD c = true := decide_eq_true h1
    simp only [hD] at cd
    rw [dv_num h1, if_neg (by omega)] at hV
    obtain ⟨n, hn⟩ : ∃ n, c.toNat = n := ⟨_, rfl⟩
    rw [hn] at h1 hV hc
    simp only [hn] at cd
    rw [hn]
    have HV := Lib.hid hV
    obtain ⟨a, b⟩ := h1
    clear hV hD hn
    go_enter Tryd.func51, Tryd.ntmps51
    go_wp2_with (go_at_call 27; refine (cd _).mono ?_; rintro e w2 ⟨rfl, rfl⟩)
    go_ret
    exact ⟨ret_int (by rw [← HV.out]; omega), rfl⟩
  · have hD : isD c = false := decide_eq_false h1
    simp only [hD] at cd
    by_cases h2 : 97 ≤ c.toNat ∧ c.toNat ≤ 102
    · rw [dv_low h2, if_neg (by omega)] at hV
      obtain ⟨n, hn⟩ : ∃ n, c.toNat = n := ⟨_, rfl⟩
      rw [hn] at h2 hV hc
      simp only [hn] at cd
      rw [hn]
      have HV := Lib.hid hV
      obtain ⟨a, b⟩ := h2
      clear hV hD hn h1
      go_enter Tryd.func51, Tryd.ntmps51
      go_wp2_with (go_at_call 27; refine (cd _).mono ?_; rintro e w2 ⟨rfl, rfl⟩)
      go_ret
      exact ⟨ret_int (by rw [← HV.out]; omega), rfl⟩
    · by_cases h3 : 65 ≤ c.toNat ∧ c.toNat ≤ 70
      · rw [dv_upp h3, if_neg (by omega)] at hV
        obtain ⟨n, hn⟩ : ∃ n, c.toNat = n := ⟨_, rfl⟩
        rw [hn] at h3 hV hc
        simp only [hn] at cd
        rw [hn]
        have HV := Lib.hid hV
        obtain ⟨a, b⟩ := h3
        have n2 : ¬ (97 : Int) ≤ n := by omega
        clear hV hD hn h1 h2
        go_enter Tryd.func51, Tryd.ntmps51
        go_wp2_with (go_at_call 27; refine (cd _).mono ?_; rintro e w2 ⟨rfl, rfl⟩)
        go_ret
        exact ⟨ret_int (by rw [← HV.out]; omega), rfl⟩
      · rw [dv_no h1 h2 h3, if_pos rfl] at hV
        obtain ⟨n, hn⟩ : ∃ n, c.toNat = n := ⟨_, rfl⟩
        rw [hn] at h1 h2 h3 hc
        simp only [hn] at cd
        rw [hn]
        subst hV
        clear hD hn h1
        go_enter Tryd.func51, Tryd.ntmps51
        go_wp2_with (go_at_call 27; refine (cd _).mono ?_; rintro e w2 ⟨rfl, rfl⟩)
        all_goals first
          | (go_ret; exact ⟨rfl, rfl⟩)
          | (exfalso; omega)

/-- what an escape stands for, and how many bytes it has; 0: it is none -/
def esN : Option (UInt8 × Nat) → Nat × Nat
  | none => (0, 0)
  | some (x, k) => (x.toNat, k + 1)

theorem hx_bad {c : UInt8} (h : dv c.toNat = 16) : hxI c = -1 := if_pos h
theorem hx_ok {c : UInt8} (h : dv c.toNat ≠ 16) : hxI c = (dv c.toNat : Nat) := if_neg h

set_option maxRecDepth 100000 in
set_option maxHeartbeats 4000000 in
theorem rescape_any (w : World) (s : ByteArray) (i : Nat) (hi : i < s.size) (hs : s.size ≤ 1048576) :
    Calls Tryd.prog 45 #[.string s, .int .i64 i] w fun e w' => e = .returned (.tuple #[.int .u8 ((esN (escX ((ls s).drop (i + 1)))).1 : Nat), .int .i64 ((esN (escX ((ls s).drop (i + 1)))).2 : Nat)]) ∧ Below w.heap.size w w' := by
  obtain ⟨E, hE⟩ : ∃ E, escX ((ls s).drop (i + 1)) = E := ⟨_, rfl⟩
  rw [hE]
  by_cases h1 : i + 1 < s.size
  · have hz1 : (i : Int) + 1 < (s.size : Int) := by omega
    obtain ⟨d, hd⟩ : ∃ d, s[i + 1]'h1 = d := ⟨_, rfl⟩
    have hdr := drop_at s h1
    rw [hd] at hdr
    rw [hdr] at hE
    change escD d _ = E at hE
    unfold escD at hE
    have hd8 := d.toNat_lt
    by_cases q1 : d.toNat = 92 ∨ d.toNat = 34
    · rw [if_pos q1] at hE
      subst hE
      clear hdr
      rcases q1 with q | q
      · have qz : ((d.toNat : Int) == 92) = true := by rw [q]; rfl
        clear q
        go_enter Tryd.func45, Tryd.ntmps45
        go_wp2
        go_ret2
        exact ⟨rfl, Below.refl _ _⟩
      · have qz : ((d.toNat : Int) == 34) = true := by rw [q]; rfl
        have qn : ((d.toNat : Int) == 92) = false := by rw [q]; rfl
        clear q
        go_enter Tryd.func45, Tryd.ntmps45
        go_wp2
        go_ret2
        exact ⟨rfl, Below.refl _ _⟩
    · rw [if_neg q1] at hE
      have n1 : ((d.toNat : Int) == 92) = false := beq_eq_false_iff_ne.2 (by omega)
      have n2 : ((d.toNat : Int) == 34) = false := beq_eq_false_iff_ne.2 (by omega)
      by_cases q2 : d.toNat = 110
      · rw [if_pos q2] at hE
        subst hE
        have qz : ((d.toNat : Int) == 110) = true := by rw [q2]; rfl
        clear hdr q1 q2
        go_enter Tryd.func45, Tryd.ntmps45
        go_wp2
        go_ret2
        exact ⟨rfl, Below.refl _ _⟩
      · rw [if_neg q2] at hE
        have n3 : ((d.toNat : Int) == 110) = false := beq_eq_false_iff_ne.2 (by omega)
        by_cases q3 : d.toNat = 116
        · rw [if_pos q3] at hE
          subst hE
          have qz : ((d.toNat : Int) == 116) = true := by rw [q3]; rfl
          clear hdr q1 q2 q3
          go_enter Tryd.func45, Tryd.ntmps45
          go_wp2
          go_ret2
          exact ⟨rfl, Below.refl _ _⟩
        · rw [if_neg q3] at hE
          have n4 : ((d.toNat : Int) == 116) = false := beq_eq_false_iff_ne.2 (by omega)
          by_cases q4 : d.toNat = 120
          · rw [if_pos q4] at hE
            have qz : ((d.toNat : Int) == 120) = true := by rw [q4]; rfl
            clear hdr q1 q2 q3 q4
            by_cases h3 : i + 3 < s.size
            · have hz3 : (i : Int) + 3 < (s.size : Int) := by omega
              have hz2 : (i : Int) + 2 < (s.size : Int) := by omega
              have h2 : i + 2 < s.size := by omega
              obtain ⟨a, ha⟩ : ∃ a, s[i + 2]'h2 = a := ⟨_, rfl⟩
              obtain ⟨b, hb⟩ : ∃ b, s[i + 3]'h3 = b := ⟨_, rfl⟩
              have hdr2 := drop_at s h2
              have hdr3 := drop_at s h3
              rw [ha] at hdr2
              rw [hb] at hdr3
              rw [show i + 1 + 1 = i + 2 by omega, hdr2, show i + 2 + 1 = i + 3 by omega, hdr3] at hE
              dsimp only at hE
              have ca := fun W => rhex_any W a
              have cb := fun W => rhex_any W b
              clear hdr2 hdr3
              by_cases g1 : dv a.toNat = 16
              · rw [if_pos (.inl g1)] at hE
                subst hE
                simp only [hx_bad g1] at ca
                clear g1
                go_enter Tryd.func45, Tryd.ntmps45
                go_wp2_with (first
                  | (go_at_call 51; (with_reducible refine (ca _).mono ?_); rintro e w2 ⟨rfl, rfl⟩)
                  | (go_at_call 51; (with_reducible refine (cb _).mono ?_); rintro e w2 ⟨rfl, rfl⟩))
                go_ret2
                exact ⟨rfl, Below.refl _ _⟩
              · by_cases g2 : dv b.toNat = 16
                · rw [if_pos (.inr g2)] at hE
                  subst hE
                  simp only [hx_ok g1] at ca
                  simp only [hx_bad g2] at cb
                  clear g1 g2
                  go_enter Tryd.func45, Tryd.ntmps45
                  go_wp2_with (first
                    | (go_at_call 51; (with_reducible refine (ca _).mono ?_); rintro e w2 ⟨rfl, rfl⟩)
                    | (go_at_call 51; (with_reducible refine (cb _).mono ?_); rintro e w2 ⟨rfl, rfl⟩))
                  go_ret2
                  exact ⟨rfl, Below.refl _ _⟩
                · rw [if_neg (by omega)] at hE
                  subst hE
                  simp only [hx_ok g1] at ca
                  simp only [hx_ok g2] at cb
                  have hp := dv_le a.toNat
                  have hq := dv_le b.toNat
                  obtain ⟨p, hp'⟩ : ∃ p, dv a.toNat = p := ⟨_, rfl⟩
                  obtain ⟨q, hq'⟩ : ∃ q, dv b.toNat = q := ⟨_, rfl⟩
                  rw [hp'] at hp g1 ⊢
                  rw [hq'] at hq g2 ⊢
                  simp only [hp'] at ca
                  simp only [hq'] at cb
                  have hp15 : p < 16 := by omega
                  have hq15 : q < 16 := by omega
                  have e1 : (UInt8.ofNat (16 * p + q)).toNat = 16 * p + q := by simp; omega
                  have hw1 : IntKind.i64.wrap (16 * (p : Int)) = 16 * (p : Int) := by rw [IntKind.wrap_i64]; omega
                  have hw2 : IntKind.i64.wrap (16 * (p : Int) + (q : Int)) = 16 * (p : Int) + (q : Int) := by rw [IntKind.wrap_i64]; omega
                  have hw3 : IntKind.i64.wrap ((i : Int) + 2) = (i : Int) + 2 := by rw [IntKind.wrap_i64]; omega
                  have hw4 : IntKind.i64.wrap ((i : Int) + 3) = (i : Int) + 3 := by rw [IntKind.wrap_i64]; omega
                  have hz20 : (0 : Int) ≤ (i : Int) + 2 := by omega
                  have hz30 : (0 : Int) ≤ (i : Int) + 3 := by omega
                  have hw5 : IntKind.u8.wrap (16 * (p : Int) + (q : Int)) = ((16 * p + q : Nat) : Int) := by
                    have h : IntKind.u8.wrap (16 * (p : Int) + (q : Int)) = (16 * (p : Int) + (q : Int)) % 256 := rfl
                    rw [h]; omega
                  have he : ((esN (some (UInt8.ofNat (16 * p + q), 3))).1 : Int) = ((16 * p + q : Nat) : Int) := congrArg _ e1
                  obtain ⟨Z, hZ⟩ : ∃ Z : Int, ((16 * p + q : Nat) : Int) = Z := ⟨_, rfl⟩
                  rw [hZ] at hw5 he
                  rw [he]
                  clear hZ he e1
                  have ha2 : s[((i : Int) + 2).toNat]'(by omega) = a := ha
                  have hb2 : s[((i : Int) + 3).toNat]'(by omega) = b := hb
                  clear g1 g2 hp hq hp' hq'
                  go_enter Tryd.func45, Tryd.ntmps45
                  go_wp2_with (first
                    | (go_at_call 51; (with_reducible refine (ca _).mono ?_); rintro e w2 ⟨rfl, rfl⟩)
                    | (go_at_call 51; (with_reducible refine (cb _).mono ?_); rintro e w2 ⟨rfl, rfl⟩))
                  go_region_held3 (fun _ => True) (exact trivial) (first
                    | (go_at_call 51; (with_reducible refine (ca _).mono ?_); rintro e w2 ⟨rfl, rfl⟩)
                    | (go_at_call 51; (with_reducible refine (cb _).mono ?_); rintro e w2 ⟨rfl, rfl⟩))
                  all_goals
                    go_wp2
                    go_ret2
                    exact ⟨rfl, Below.thenN (Below.refl _ _) 1⟩
            · have hz3 : ¬ (i : Int) + 3 < (s.size : Int) := by omega
              have hEn : E = none := by
                have hl : ((ls s).drop (i + 1 + 1)).length = s.size - (i + 2) := by rw [List.length_drop, ls_size]
                rw [← hE]
                split
                · rename_i a b r hr
                  rw [hr] at hl
                  simp only [List.length_cons] at hl
                  omega
                · rfl
              clear hE
              subst hEn
              go_enter Tryd.func45, Tryd.ntmps45
              go_wp2
              go_ret2
              exact ⟨rfl, Below.refl _ _⟩
          · rw [if_neg q4] at hE
            subst hE
            have n5 : ((d.toNat : Int) == 120) = false := beq_eq_false_iff_ne.2 (by omega)
            clear hdr q1 q2 q3 q4
            go_enter Tryd.func45, Tryd.ntmps45
            go_wp2
            go_ret2
            exact ⟨rfl, Below.refl _ _⟩
  · have hz1 : (s.size : Int) ≤ (i : Int) + 1 := by omega
    rw [drop_end s (by omega)] at hE
    have hEn : E = none := hE.symm
    subst hEn
    clear hE
    go_enter Tryd.func45, Tryd.ntmps45
    go_wp2
    go_ret2
    exact ⟨rfl, Below.refl _ _⟩
end Go.Proofs.YtggonhciakfabaaDoor
