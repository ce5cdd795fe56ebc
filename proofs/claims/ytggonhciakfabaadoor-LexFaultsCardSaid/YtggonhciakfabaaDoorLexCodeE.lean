/- The walks of the code: an escape. -/
import Derived.Test.YtggonhciakfabaaDoorLexCodeD
import Derived.Test.YtggonhciakfabaaDoorLexRefT
namespace Go.Proofs.YtggonhciakfabaaDoor
open Go.RowKit

/-- what the two digits stand for that stand behind a backslash and an x -/
def hexX (r : List UInt8) : Option (UInt8 × Nat) := match r with
  | a :: b :: _ => if dv a.toNat = 16 ∨ dv b.toNat = 16 then none else some (UInt8.ofNat (16 * dv a.toNat + dv b.toNat), 3)
  | _ => none
theorem escD_x {d : UInt8} {r : List UInt8} (h : d.toNat = 120) : escD d r = hexX r := by
  unfold escD hexX
  rw [if_neg (by omega), if_neg (by omega), if_neg (by omega), if_pos h]
  rfl
/-- how escN reads it -/
theorem hexF_two (a b : UInt8) (r : List UInt8) : (hexF 0 [a, b] = none ∧ hexX (a :: b :: r) = none) ∨ ∃ n, hexF 0 [a, b] = some n ∧ n ≤ 255 ∧ hexX (a :: b :: r) = some (UInt8.ofNat n, 3) := by
  have ha := dv_le a.toNat
  have hb := dv_le b.toNat
  unfold hexF hexF hexF hexX
  dsimp only
  by_cases h1 : dv a.toNat = 16
  · rw [if_pos h1, if_pos (.inl h1)]
    exact .inl ⟨rfl, rfl⟩
  · rw [if_neg h1]
    by_cases h2 : dv b.toNat = 16
    · rw [if_pos h2, if_pos (.inr h2)]
      exact .inl ⟨rfl, rfl⟩
    · rw [if_neg h2, if_neg (by omega)]
      refine .inr ⟨_, rfl, by omega, ?_⟩
      rw [show 0 * 16 + dv a.toNat = dv a.toNat by omega, Nat.mul_comm]

set_option maxRecDepth 100000 in
set_option maxHeartbeats 4000000 in
theorem hexEsc_any (w : World) (t : ByteArray) (hs : t.size ≤ 1048576) (hE : EV w) :
    Calls Tryd.prog 55 #[.string t] w fun e w' => e = .returned (.tuple #[.int .u8 ((esN (hexX ((ls t).drop 2))).1 : Nat), .int .i64 ((esN (hexX ((ls t).drop 2))).2 : Nat)]) ∧ Below w.heap.size w w' := by
  by_cases h4 : t.size < 4
  · have hz : (t.size : Int) < 4 := by omega
    have hn : hexX ((ls t).drop 2) = none := by
      have hl : ((ls t).drop 2).length = t.size - 2 := by rw [List.length_drop, ls_size]
      unfold hexX
      split
      · rename_i a b r hr
        rw [hr] at hl
        simp only [List.length_cons] at hl
        omega
      · rfl
    rw [hn]
    clear hn
    go_enter Tryd.func55, Tryd.ntmps55
    go_wp2
    go_ret2
    exact ⟨rfl, Below.refl _ _⟩
  · have hz : ¬ (t.size : Int) < 4 := by omega
    have hz4 : (4 : Int) ≤ (t.size : Int) := by omega
    have d2 := drop_at t (show 2 < t.size by omega)
    have d3 := drop_at t (show 3 < t.size by omega)
    rw [d3] at d2
    have hls : ls (t.extract 2 4) = [t[2]'(by omega), t[3]'(by omega)] := by rw [ls_extract, d2]; rfl
    have h2 : (t.extract 2 4).size = 2 := by rw [← ls_size, hls]; rfl
    have cp := parse16_any w (t.extract 2 4) h2 hE
    rw [hls] at cp
    rw [d2]
    rcases hexF_two (t[2]'(by omega)) (t[3]'(by omega)) ((ls t).drop 4) with ⟨e1, e2⟩ | ⟨n, e1, hn, e2⟩
    · rw [e1] at cp
      rw [e2]
      change Calls _ _ _ _ (fun e w' => _ ∧ ∃ T p, e = .returned (.tuple #[.int .u64 0, .iface T p])) at cp
      clear e1 e2 hls h2 d2 d3
      go_enter Tryd.func55, Tryd.ntmps55
      go_wp2_with (go_at_call 47; refine cp.mono ?_; rintro e w2 ⟨hb2, T, p, rfl⟩)
      go_ret2
      exact ⟨rfl, hb2⟩
    · rw [e1] at cp
      rw [e2]
      change Calls _ _ _ _ (fun e w' => _ ∧ e = .returned (.tuple #[.int .u64 (n : Nat), .nilIface])) at cp
      have en : (UInt8.ofNat n).toNat = n := by simp; omega
      have hw : IntKind.u8.wrap (n : Int) = (n : Int) := by
        have h : IntKind.u8.wrap (n : Int) = (n : Int) % 256 := rfl
        rw [h]; omega
      have he : ((esN (some (UInt8.ofNat n, 3))).1 : Int) = (n : Int) := congrArg _ en
      rw [he]
      clear e1 e2 hls h2 d2 d3 he en
      go_enter Tryd.func55, Tryd.ntmps55
      go_wp2_with (go_at_call 47; refine cp.mono ?_; rintro e w2 ⟨hb2, rfl⟩)
      go_ret2
      exact ⟨rfl, hb2⟩

set_option maxRecDepth 100000 in
set_option maxHeartbeats 4000000 in
theorem escape_any (w : World) (t : ByteArray) (h0 : 1 ≤ t.size) (hs : t.size ≤ 1048576) (hE0 : EV w) :
    Calls Tryd.prog 48 #[.string t] w fun e w' => e = .returned (.tuple #[.int .u8 ((esN (escX ((ls t).drop 1))).1 : Nat), .int .i64 ((esN (escX ((ls t).drop 1))).2 : Nat)]) ∧ Below w.heap.size w w' := by
  obtain ⟨E, hE⟩ : ∃ E, escX ((ls t).drop 1) = E := ⟨_, rfl⟩
  rw [hE]
  by_cases h1 : 1 < t.size
  · have hz1 : ¬ (t.size : Int) < 2 := by omega
    have hz0 : (1 : Int) < (t.size : Int) := by omega
    obtain ⟨d, hd⟩ : ∃ d, t[1]'h1 = d := ⟨_, rfl⟩
    have hdr := drop_at t h1
    rw [hd] at hdr
    rw [hdr] at hE
    change escD d ((ls t).drop 2) = E at hE
    by_cases q1 : d.toNat = 92 ∨ d.toNat = 34
    · unfold escD at hE
      rw [if_pos q1] at hE
      subst hE
      clear hdr
      rcases q1 with q | q
      · have qz : ((d.toNat : Int) == 92) = true := by rw [q]; rfl
        clear q
        go_enter Tryd.func48, Tryd.ntmps48
        go_wp2
        go_ret2
        exact ⟨rfl, Below.refl _ _⟩
      · have qz : ((d.toNat : Int) == 34) = true := by rw [q]; rfl
        have qn : ((d.toNat : Int) == 92) = false := by rw [q]; rfl
        clear q
        go_enter Tryd.func48, Tryd.ntmps48
        go_wp2
        go_ret2
        exact ⟨rfl, Below.refl _ _⟩
    · have n1 : ((d.toNat : Int) == 92) = false := beq_eq_false_iff_ne.2 (by omega)
      have n2 : ((d.toNat : Int) == 34) = false := beq_eq_false_iff_ne.2 (by omega)
      by_cases q2 : d.toNat = 110
      · unfold escD at hE
        rw [if_neg q1, if_pos q2] at hE
        subst hE
        have qz : ((d.toNat : Int) == 110) = true := by rw [q2]; rfl
        clear hdr q1 q2
        go_enter Tryd.func48, Tryd.ntmps48
        go_wp2
        go_ret2
        exact ⟨rfl, Below.refl _ _⟩
      · have n3 : ((d.toNat : Int) == 110) = false := beq_eq_false_iff_ne.2 (by omega)
        by_cases q3 : d.toNat = 116
        · unfold escD at hE
          rw [if_neg q1, if_neg q2, if_pos q3] at hE
          subst hE
          have qz : ((d.toNat : Int) == 116) = true := by rw [q3]; rfl
          clear hdr q1 q2 q3
          go_enter Tryd.func48, Tryd.ntmps48
          go_wp2
          go_ret2
          exact ⟨rfl, Below.refl _ _⟩
        · have n4 : ((d.toNat : Int) == 116) = false := beq_eq_false_iff_ne.2 (by omega)
          by_cases q4 : d.toNat = 120
          · rw [escD_x q4] at hE
            have qz : ((d.toNat : Int) == 120) = true := by rw [q4]; rfl
            have ch := hexEsc_any w t hs hE0
            rw [hE] at ch
            clear hdr q1 q2 q3 q4 hE
            go_enter Tryd.func48, Tryd.ntmps48
            go_wp2_with (go_at_call 55; refine ch.mono ?_; rintro e w2 ⟨rfl, hb2⟩)
            go_ret2
            exact ⟨rfl, hb2⟩
          · have n5 : ((d.toNat : Int) == 120) = false := beq_eq_false_iff_ne.2 (by omega)
            unfold escD at hE
            rw [if_neg q1, if_neg q2, if_neg q3, if_neg q4] at hE
            subst hE
            clear hdr q1 q2 q3 q4
            go_enter Tryd.func48, Tryd.ntmps48
            go_wp2
            go_ret2
            exact ⟨rfl, Below.refl _ _⟩
  · have hz1 : (t.size : Int) < 2 := by omega
    rw [drop_end t (by omega)] at hE
    have hEn : E = none := hE.symm
    subst hEn
    clear hE
    go_enter Tryd.func48, Tryd.ntmps48
    go_wp2
    go_ret2
    exact ⟨rfl, Below.refl _ _⟩
end Go.Proofs.YtggonhciakfabaaDoor
