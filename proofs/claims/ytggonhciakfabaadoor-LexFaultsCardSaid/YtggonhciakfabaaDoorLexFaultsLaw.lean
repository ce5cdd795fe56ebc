/- The walk of LexFaults. -/
import Derived.Test.YtggonhciakfabaaDoorLexSide
namespace Go.Proofs.YtggonhciakfabaaDoor
open Go.RowKit

set_option maxRecDepth 100000 in
set_option maxHeartbeats 2000000 in
theorem faults_any (C : LexSide) (w : World) (hEV : EV w) (s t : ByteArray) (hs0 : s.size ≤ 140737488351232) (ht0 : t.size ≤ 140737488351232) : Calls Tryd.prog 9 #[.string s, .string t] w (YesX w) := by
  have cv := fun W h => llives_any C W h
  have cs : (1048576 : Int) < (s.size : Int) ∨ (¬ (1048576 : Int) < (s.size : Int) ∧ (1048576 : Int) < (t.size : Int)) ∨ (¬ (1048576 : Int) < (s.size : Int) ∧ ¬ (1048576 : Int) < (t.size : Int) ∧ (1048576 : Int) < (s.size : Int) + 1 + (t.size : Int)) ∨
      (¬ (1048576 : Int) < (s.size : Int) ∧ ¬ (1048576 : Int) < (t.size : Int) ∧ ¬ (1048576 : Int) < (s.size : Int) + 1 + (t.size : Int)) := by omega
  rcases cs with z1 | ⟨z1, z2⟩ | ⟨z1, z2, z3⟩ | ⟨z1, z2, z3⟩
  · clear C
    go_enter Tryd.func9, Tryd.ntmps9
    go_wp2_with (go_at_call 10; refine (cv _ hEV).mono ?_; rintro e w1 ⟨rfl, hb1⟩)
    go_ret
    exact ⟨rfl, hb1⟩
  · clear C
    go_enter Tryd.func9, Tryd.ntmps9
    go_wp2_with (go_at_call 10; refine (cv _ hEV).mono ?_; rintro e w1 ⟨rfl, hb1⟩)
    go_ret
    exact ⟨rfl, hb1⟩
  · clear C
    go_enter Tryd.func9, Tryd.ntmps9
    go_wp2_with (go_at_call 10; refine (cv _ hEV).mono ?_; rintro e w1 ⟨rfl, hb1⟩)
    go_ret
    exact ⟨rfl, hb1⟩
  · have hs : s.size ≤ 1048576 := by omega
    cases hR : lexS s with
    | ok l =>
      have cl' : ∀ W : World, EV W → Calls Tryd.prog 12 #[.string s] W fun e w' => Below W.heap.size W w' ∧ ∃ A c, e = .returned (.tuple #[.slice A l.length c, .int .i64 0, .int .i64 0]) := fun W hW => (C.lex W s hW).mono fun e w' h => by
        rw [hR] at h
        obtain ⟨hb, A, c, h, _⟩ := h
        exact ⟨hb, A, c, h⟩
      clear C hR
      go_enter Tryd.func9, Tryd.ntmps9
      go_wp2_with (first
        | (go_at_call 10; refine (cv _ hEV).mono ?_; rintro e w1 ⟨rfl, hb1⟩)
        | (go_at_call 12; refine (cl' _ (hEV.below hb1)).mono ?_; rintro e w2 ⟨hb2, A, c, rfl⟩))
      go_ret
      exact ⟨rfl, Below.both hb1 hb2⟩
    | bad a x =>
      have hL : lexL (ls s) 0 = .bad a x := by
        unfold lexS at hR
        rwa [if_neg (by omega)] at hR
      obtain ⟨hx0, _, hal, _⟩ := lex_err _ _ _ (Nat.le_refl _) hL
      obtain ⟨_, _, f82, fno⟩ := lex_bad_front _ _ _ (Nat.le_refl _) hL
      rw [ls_size] at hal
      have hLm := lex_bad_more (ls t) (n := 10) rfl _ _ _ (Nat.le_refl _) hL
      have hRm : lexS ((s ++ ⟨#[10]⟩) ++ t) = .bad a x := by
        unfold lexS
        rw [if_neg (by rw [← ls_size, ls_append, ls_append, List.length_append, List.length_append, ls_size, ls_size]; show ¬ 1048576 < s.size + 1 + t.size; omega), ls_append, ls_append, List.append_assoc]
        exact hLm
      have c1 : ∀ W : World, EV W → Calls Tryd.prog 12 #[.string s] W fun e w' => Below W.heap.size W w' ∧ e = .returned (.tuple #[.slice none 0 0, .int .i64 (a : Nat), .int .i64 (x : Nat)]) := fun W hW => (C.lex W s hW).mono fun e w' h => by
        rw [hR] at h
        exact h
      have c2 : ∀ W : World, EV W → Calls Tryd.prog 12 #[.string ((s ++ ⟨#[10]⟩) ++ t)] W fun e w' => Below W.heap.size W w' ∧ e = .returned (.tuple #[.slice none 0 0, .int .i64 (a : Nat), .int .i64 (x : Nat)]) := fun W hW => (C.lex W _ hW).mono fun e w' h => by
        rw [hRm] at h
        exact h
      have hse : lexS (s.extract 0 a) = lexL ((ls s).take a) 0 := by
        unfold lexS
        rw [ls_extract, List.drop_zero, Nat.sub_zero, if_neg]
        rw [← ls_size, ls_extract, List.length_take]
        omega
      have zx : ((x : Int) == 0) = false := beq_eq_false_iff_ne.2 (by omega)
      have ha0 : (0 : Int) ≤ (a : Int) := by omega
      have has : (a : Int) ≤ (s.size : Int) := by omega
      rw [Nat.sub_zero] at f82 fno
      by_cases q82 : x = 82
      · obtain ⟨j, hj, hLj⟩ := f82 q82
        have c3 : ∀ W : World, EV W → Calls Tryd.prog 12 #[.string (s.extract 0 a)] W fun e w' => Below W.heap.size W w' ∧ e = .returned (.tuple #[.slice none 0 0, .int .i64 (j : Nat), .int .i64 81]) := fun W hW => (C.lex W _ hW).mono fun e w' h => by
          rw [hse, hLj] at h
          exact h
        have z82 : ((x : Int) == 82) = true := by rw [q82]; rfl
        have hjz : (j : Int) < (a : Int) := by omega
        clear C hR hL hLm hRm f82 fno hse hLj q82 hx0
        go_enter Tryd.func9, Tryd.ntmps9
        go_wp2_with (first
          | (go_at_call 10; refine (cv _ hEV).mono ?_; rintro e w1 ⟨rfl, hb1⟩)
          | (go_at_call 12; (with_reducible refine (c1 _ (hEV.below hb1)).mono ?_); rintro e w2 ⟨hb2, rfl⟩)
          | (go_at_call 12; (with_reducible refine (c2 _ ((hEV.below hb1).below hb2)).mono ?_); rintro e w3 ⟨hb3, rfl⟩)
          | (go_at_call 12; (with_reducible refine (c3 _ (((hEV.below hb1).below hb2).below hb3)).mono ?_); rintro e w4 ⟨hb4, rfl⟩))
        go_ret
        exact ⟨rfl, Below.both (Below.both (Below.both hb1 hb2) hb3) hb4⟩
      · obtain ⟨ts, hLt⟩ := fno q82
        have c3 : ∀ W : World, EV W → Calls Tryd.prog 12 #[.string (s.extract 0 a)] W fun e w' => Below W.heap.size W w' ∧ ∃ A c, e = .returned (.tuple #[.slice A ts.length c, .int .i64 0, .int .i64 0]) := fun W hW => (C.lex W _ hW).mono fun e w' h => by
          rw [hse, hLt] at h
          obtain ⟨hb, A, c, h, _⟩ := h
          exact ⟨hb, A, c, h⟩
        have z82 : ((x : Int) == 82) = false := beq_eq_false_iff_ne.2 (by omega)
        clear C hR hL hLm hRm f82 fno hse hLt q82 hx0
        go_enter Tryd.func9, Tryd.ntmps9
        go_wp2_with (first
          | (go_at_call 10; refine (cv _ hEV).mono ?_; rintro e w1 ⟨rfl, hb1⟩)
          | (go_at_call 12; (with_reducible refine (c1 _ (hEV.below hb1)).mono ?_); rintro e w2 ⟨hb2, rfl⟩)
          | (go_at_call 12; (with_reducible refine (c2 _ ((hEV.below hb1).below hb2)).mono ?_); rintro e w3 ⟨hb3, rfl⟩)
          | (go_at_call 12; (with_reducible refine (c3 _ (((hEV.below hb1).below hb2).below hb3)).mono ?_); rintro e w4 ⟨hb4, A, c, rfl⟩))
        go_ret
        exact ⟨rfl, Below.both (Below.both (Below.both hb1 hb2) hb3) hb4⟩
end Go.Proofs.YtggonhciakfabaaDoor
