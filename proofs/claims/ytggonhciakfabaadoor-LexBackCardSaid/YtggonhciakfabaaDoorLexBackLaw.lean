/- The walk of LexBack. -/
import Derived.Test.YtggonhciakfabaaDoorLexSide
namespace Go.Proofs.YtggonhciakfabaaDoor
open Go.RowKit

def backT (l : List UInt8) (n : Nat) : List Tk := [⟨3, l, 0, 0, n⟩, ⟨0, [], 0, n, n⟩]

set_option maxRecDepth 100000 in
set_option maxHeartbeats 2000000 in
theorem back_any (C : LexSide) (w : World) (hEV : EV w) (s : ByteArray) : Calls Tryd.prog 5 #[.string s] w (YesX w) := by
  have cv := fun W h => llives_any C W h
  by_cases hs : 4194304 < s.size
  · have hz : (4194304 : Int) < (s.size : Int) := by omega
    clear C
    go_enter Tryd.func5, Tryd.ntmps5
    go_wp2_with (go_at_call 10; refine (cv _ hEV).mono ?_; rintro e w1 ⟨rfl, hb1⟩)
    go_ret
    exact ⟨rfl, hb1⟩
  · have hz : ¬ (4194304 : Int) < (s.size : Int) := by omega
    have cq := fun W => C.quote W s (by omega)
    obtain ⟨q, hq⟩ : ∃ q, str (quoteL (ls s)) = q := ⟨_, rfl⟩
    have hlq : ls q = quoteL (ls s) := by rw [← hq, ls_str]
    have hsz : q.size = (qbs (ls s)).length + 2 := by rw [← ls_size, hlq, quote_len]
    have hle := qbs_len (ls s)
    rw [ls_size] at hle
    have hpl : ∀ (k : Nat) (h : k < q.size), 32 ≤ (q[k]'h).toNat ∧ (q[k]'h).toNat ≤ 126 := fun k h => quote_plain (ls s) _ (by rw [← hlq]; exact List.getElem_mem (l := ls q) (n := k) (by rw [ls_size]; exact h))
    have cl := fun W hW => (C.lex W q hW).mono fun e w' h => LexAt.row h
    have hlex : lexS q = if 1048576 < q.size then .bad 0 2 else .ok (backT (ls s) q.size) := by
      unfold lexS
      rw [hlq, lex_quote, ← hlq, ls_size]
      rfl
    have hge : ¬ (q.size : Int) < (s.size : Int) + 2 := by omega
    have hq7 : q.size ≤ 16777218 := by omega
    simp only [hq] at cq
    clear C hq hlq hsz hle
    by_cases hb : 1048576 < q.size
    · have hzb : (1048576 : Int) < (q.size : Int) := by omega
      rw [hlex, if_pos hb] at cl
      have cl' : ∀ W : World, EV W → Calls Tryd.prog 12 #[.string q] W fun e w' => Below W.heap.size W w' ∧ ∃ A c, e = .returned (.tuple #[.slice A 0 c, .int .i64 0, .int .i64 2]) := fun W hW => (cl W hW).mono fun e w' ⟨hb, A, c, h, _⟩ => ⟨hb, A, c, h⟩
      clear cl hlex
      go_enter Tryd.func5, Tryd.ntmps5
      go_wp2_with (first
        | (go_at_call 10; refine (cv _ hEV).mono ?_; rintro e w1 ⟨rfl, hb1⟩)
        | (go_at_call 16; refine (cq _).mono ?_; rintro e w2 ⟨rfl, hb2⟩))
      go_loopw [4] (fun v wr => ∃ k : Nat, v = .int .i64 k ∧ k ≤ q.size ∧ w2 = wr) (fun v _ => q.size - (intOf v).toNat)
      case atStart => exact ⟨0, rfl, Nat.zero_le _, rfl⟩
      case round =>
        obtain ⟨k, rfl, hk, rfl⟩ := hrel
        by_cases hlt : k < q.size
        · have hltz : (k : Int) < (q.size : Int) := by omega
          obtain ⟨c, hc⟩ : ∃ c, q[k]'hlt = c := ⟨_, rfl⟩
          have hp := hpl k hlt
          rw [hc] at hp
          have z1 : ¬ (c.toNat : Int) < 32 := by omega
          have z2 : ¬ (126 : Int) < (c.toNat : Int) := by omega
          clear hp
          go_wp2
          go_roundw
          case rel => exact ⟨k + 1, by go_num, by omega, trivial⟩
          case measure => simp [intOf]; omega
        · have hltz : ¬ (k : Int) < (q.size : Int) := by omega
          go_wp2_with (go_at_call 12; refine (cl' _ ((hEV.below hb1).below hb2)).mono ?_; rintro e w3 ⟨hb3, A, c, rfl⟩)
          go_ret
          exact ⟨rfl, Below.both (Below.both hb1 hb2) hb3⟩
    · have hzb : ¬ (1048576 : Int) < (q.size : Int) := by omega
      rw [hlex, if_neg hb] at cl
      have cl' : ∀ W : World, EV W → Calls Tryd.prog 12 #[.string q] W fun e w' => Below W.heap.size W w' ∧ ∃ A c, e = .returned (.tuple #[.slice A 2 c, .int .i64 0, .int .i64 0]) ∧ TRow w' w'.heap.size A (backT (ls s) q.size) := cl
      clear cl hlex
      go_enter Tryd.func5, Tryd.ntmps5
      go_wp2_with (first
        | (go_at_call 10; refine (cv _ hEV).mono ?_; rintro e w1 ⟨rfl, hb1⟩)
        | (go_at_call 16; refine (cq _).mono ?_; rintro e w2 ⟨rfl, hb2⟩))
      go_loopw [4] (fun v wr => ∃ k : Nat, v = .int .i64 k ∧ k ≤ q.size ∧ w2 = wr) (fun v _ => q.size - (intOf v).toNat)
      case atStart => exact ⟨0, rfl, Nat.zero_le _, rfl⟩
      case round =>
        obtain ⟨k, rfl, hk, rfl⟩ := hrel
        by_cases hlt : k < q.size
        · have hltz : (k : Int) < (q.size : Int) := by omega
          obtain ⟨c, hc⟩ : ∃ c, q[k]'hlt = c := ⟨_, rfl⟩
          have hp := hpl k hlt
          rw [hc] at hp
          have z1 : ¬ (c.toNat : Int) < 32 := by omega
          have z2 : ¬ (126 : Int) < (c.toNat : Int) := by omega
          clear hp
          go_wp2
          go_roundw
          case rel => exact ⟨k + 1, by go_num, by omega, trivial⟩
          case measure => simp [intOf]; omega
        · have hltz : ¬ (k : Int) < (q.size : Int) := by omega
          go_wp2_with (first
            | (go_at_call 12; refine (cl' _ ((hEV.below hb1).below hb2)).mono ?_; rintro e w3 ⟨hb3, A, c, rfl, ht⟩)
            | (go_at_call 13; refine (lsame_any _ _ _ _ _ _ _ (backT (ls s) q.size) (ht.then_ ((Below.refl _ _).alloc (Nat.le_refl _) _)) (trow_new w3 _ (backT (ls s) q.size) _ rfl) (by show 2 ≤ _; omega)).mono ?_; rintro e w4 ⟨rfl, hb4⟩))
          go_ret
          have hb4' : Below w3.heap.size w3 w4 := ((Below.refl _ _).alloc (Nat.le_refl _) _).trans (hb4.mono (by simp))
          exact ⟨rfl, Below.both (Below.both (Below.both hb1 hb2) hb3) hb4'⟩
end Go.Proofs.YtggonhciakfabaaDoor
