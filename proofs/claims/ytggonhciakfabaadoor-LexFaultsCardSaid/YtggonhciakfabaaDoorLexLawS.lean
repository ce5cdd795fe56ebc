/- The walks of the law's small helpers: the same tokens twice, nothing but blanks and remarks, a piece of them. -/
import Derived.Test.YtggonhciakfabaaDoorLexRefS
import Derived.Test.YtggonhciakfabaaDoorLexMem
import Derived.Deep.QuietTactic
import Derived.BigQuiet
namespace Go.Proofs.YtggonhciakfabaaDoor
open Go.RowKit

set_option maxRecDepth 100000 in
set_option maxHeartbeats 2000000 in
theorem lsame_any (w : World) (B B' : Nat) (A A' : Option Addr) (c c' : Nat) (l : List Tk) (h1 : TRow w B A l) (h2 : TRow w B' A' l) (hl : l.length ≤ 140737488355328) :
    Calls Tryd.prog 13 #[.slice A l.length c, .slice A' l.length c'] w fun e w' => e = .returned (.bool true) ∧ Below w.heap.size w w' := by
  have H1 := Lib.hid h1
  have H2 := Lib.hid h2
  clear h1 h2
  go_enter Tryd.func13, Tryd.ntmps13
  go_wp2
  go_loopw [5] (fun i wr => ∃ k : Nat, i = .int .i64 k ∧ k ≤ l.length ∧ ∃ d, wr = w.drewN d) (fun i _ => l.length - (intOf i).toNat)
  case atStart => exact ⟨0, rfl, Nat.zero_le _, 0, rfl⟩
  case round =>
    obtain ⟨k, rfl, hk, d, rfl⟩ := hrel
    by_cases hlt : k < l.length
    · have hltz : (k : Int) < (l.length : Int) := by omega
      have k0 : (0 : Int) ≤ (k : Int) := by omega
      obtain ⟨e, he⟩ : ∃ e, l[k]? = some e := ⟨l[k], List.getElem?_eq_getElem hlt⟩
      obtain ⟨g, o, rfl, _, a0, a1, a2, a3, a4⟩ := H1.out.at_ he
      obtain ⟨g', o', rfl, _, b0, b1, b2, b3, b4⟩ := H2.out.at_ he
      have a0' : (w.drewN d).cell? ⟨g, o + k * 5, none⟩ = some (.int .i64 (e.k : Nat)) := a0
      have a1' : (w.drewN d).cell? ⟨g, o + k * 5 + 1, none⟩ = some (.string (str e.t)) := a1
      have a2' : (w.drewN d).cell? ⟨g, o + k * 5 + 2, none⟩ = some (.int .u64 (e.n : Nat)) := a2
      have a3' : (w.drewN d).cell? ⟨g, o + k * 5 + 3, none⟩ = some (.int .i64 (e.a : Nat)) := a3
      have a4' : (w.drewN d).cell? ⟨g, o + k * 5 + 4, none⟩ = some (.int .i64 (e.e : Nat)) := a4
      have b0' : (w.drewN d).cell? ⟨g', o' + k * 5, none⟩ = some (.int .i64 (e.k : Nat)) := b0
      have b1' : (w.drewN d).cell? ⟨g', o' + k * 5 + 1, none⟩ = some (.string (str e.t)) := b1
      have b2' : (w.drewN d).cell? ⟨g', o' + k * 5 + 2, none⟩ = some (.int .u64 (e.n : Nat)) := b2
      have b3' : (w.drewN d).cell? ⟨g', o' + k * 5 + 3, none⟩ = some (.int .i64 (e.a : Nat)) := b3
      have b4' : (w.drewN d).cell? ⟨g', o' + k * 5 + 4, none⟩ = some (.int .i64 (e.e : Nat)) := b4
      obtain ⟨q, t, n, a, z⟩ := e
      dsimp only at *
      clear he
      go_wp2
      go_quiet (fail)
      go_wp2
      go_roundw
      case rel => exact ⟨k + 1, by go_num, by omega, _, rfl⟩
      case measure => simp [intOf]; omega
    · go_wp2
      go_ret
      exact ⟨rfl, Below.newN w d⟩

set_option maxRecDepth 100000 in
set_option maxHeartbeats 2000000 in
theorem lgap_any (w : World) (s : ByteArray) (hs : s.size ≤ 140737488355328) :
    Calls Tryd.prog 18 #[.string s] w fun e w' => e = .returned (.bool (decide (skipS false (ls s) = s.size))) ∧ w = w' := by
  obtain ⟨b, hb⟩ : ∃ b, decide (skipS false (ls s) = s.size) = b := ⟨_, rfl⟩
  rw [hb]
  have HB : Hid (b = decide (0 + skipS false ((ls s).drop 0) = s.size)) := by unfold Hid; rw [List.drop_zero, Nat.zero_add, hb]
  clear hb
  go_enter Tryd.func18, Tryd.ntmps18
  go_wp2
  go_loopw [3, 4] (fun m v wr => ∃ (k : Nat) (x : Bool), m = .bool x ∧ v = .int .i64 k ∧ k ≤ s.size ∧ Hid (b = decide (k + skipS x ((ls s).drop k) = s.size)) ∧ w = wr) (fun _ v _ => s.size - (intOf v).toNat)
  case atStart => exact ⟨0, false, rfl, rfl, Nat.zero_le _, HB, rfl⟩
  case round =>
    obtain ⟨k, x, rfl, rfl, hk, HK, rfl⟩ := hrel
    by_cases hlt : k < s.size
    · have hltz : (k : Int) < (s.size : Int) := by omega
      obtain ⟨c, hc⟩ : ∃ c, s[k]'hlt = c := ⟨_, rfl⟩
      have hdr := drop_at s hlt
      rw [hc] at hdr
      have hk2 := HK.out
      rw [hdr, skip_cons] at hk2
      have nx : ∀ y, k + (skipS y ((ls s).drop (k + 1)) + 1) = k + 1 + skipS y ((ls s).drop (k + 1)) := fun y => by omega
      cases x with
      | true =>
        by_cases q10 : c.toNat = 10
        · rw [if_neg (fun h => h.2 q10), if_pos (by unfold isBl; rw [q10]; rfl), nx] at hk2
          have HK2 := Lib.hid hk2
          have z10 : ((c.toNat : Int) != 10) = false := by simp [q10]
          clear hk2 hdr q10 nx
          go_wp2
          go_roundw
          case rel => exact ⟨k + 1, false, rfl, by go_num, by omega, HK2, trivial⟩
          case measure => simp [intOf]; omega
        · rw [if_pos ⟨rfl, q10⟩, nx] at hk2
          have HK2 := Lib.hid hk2
          have z10 : ((c.toNat : Int) != 10) = true := by simp; omega
          clear hk2 hdr q10 nx
          go_wp2
          go_roundw
          case rel => exact ⟨k + 1, true, rfl, by go_num, by omega, HK2, trivial⟩
          case measure => simp [intOf]; omega
      | false =>
        rw [if_neg (fun h => Bool.noConfusion h.1)] at hk2
        by_cases q35 : c.toNat = 35
        · rw [if_neg (by unfold isBl; simp [q35]), if_pos q35, nx] at hk2
          have HK2 := Lib.hid hk2
          have z35 : ((c.toNat : Int) == 35) = true := by rw [q35]; rfl
          clear hk2 hdr q35 nx
          go_wp2
          go_roundw
          case rel => exact ⟨k + 1, true, rfl, by go_num, by omega, HK2, trivial⟩
          case measure => simp [intOf]; omega
        · have z35 : ((c.toNat : Int) == 35) = false := beq_eq_false_iff_ne.2 (by omega)
          by_cases qb : isBl c = true
          · rw [if_pos qb, nx] at hk2
            have HK2 := Lib.hid hk2
            unfold isBl at qb
            have qb := of_decide_eq_true qb
            have qz : (((c.toNat : Int) != 32) = false) ∨ (((c.toNat : Int) != 32) = true ∧ ((c.toNat : Int) != 9) = false) ∨ (((c.toNat : Int) != 32) = true ∧ ((c.toNat : Int) != 9) = true ∧ ((c.toNat : Int) != 10) = false) ∨ (((c.toNat : Int) != 32) = true ∧ ((c.toNat : Int) != 9) = true ∧ ((c.toNat : Int) != 10) = true ∧ ((c.toNat : Int) != 13) = false) := by
              rcases qb with q | q | q | q <;> simp [q]
            clear hk2 hdr q35 nx qb
            rcases qz with y1 | ⟨y1, y2⟩ | ⟨y1, y2, y3⟩ | ⟨y1, y2, y3, y4⟩
            all_goals
              go_wp2
              go_roundw
              case rel => exact ⟨k + 1, false, rfl, by go_num, by omega, HK2, trivial⟩
              case measure => simp [intOf]; omega
          · rw [if_neg qb, if_neg q35, Nat.add_zero] at hk2
            obtain rfl : b = false := by rw [hk2]; exact decide_eq_false (by omega)
            unfold isBl at qb
            have qb : ¬ (c.toNat = 32 ∨ c.toNat = 9 ∨ c.toNat = 10 ∨ c.toNat = 13) := fun h => qb (decide_eq_true h)
            have y1 : ((c.toNat : Int) != 32) = true := by simp; omega
            have y2 : ((c.toNat : Int) != 9) = true := by simp; omega
            have y3 : ((c.toNat : Int) != 10) = true := by simp; omega
            have y4 : ((c.toNat : Int) != 13) = true := by simp; omega
            clear hk2 hdr q35 nx qb HK HB
            go_wp2
            go_ret
            exact ⟨rfl, rfl⟩
    · have hltz : ¬ (k : Int) < (s.size : Int) := by omega
      have hk2 := HK.out
      rw [drop_end s (by omega)] at hk2
      obtain rfl : b = true := by rw [hk2]; exact decide_eq_true (by show k + 0 = _; omega)
      clear hk2 HK HB
      go_wp2
      go_ret
      exact ⟨rfl, rfl⟩
end Go.Proofs.YtggonhciakfabaaDoor
