/- The walk of the code: how many kids a node has. -/
import Derived.Test.YtmbiompmhaiehaaDoorPoRow
import Derived.BigQuiet
namespace Go.Proofs.YtmbiompmhaiehaaDoor
open Go.RowKit

def KidsAt (x : Rn) (w : World) (e : Ending) (w' : World) : Prop := ∃ (k : Int) (b : Bool), e = .returned (.tuple #[.int .i64 k, .bool b]) ∧ Below w.heap.size w w' ∧ (b = true → ∃ n : Nat, k = n ∧ arity x = some n) ∧ (b = false → arity x = none)
set_option maxRecDepth 100000 in
set_option maxHeartbeats 4000000 in
theorem kids1_any (w : World) (n : Int) (num : Nat) (t : List UInt8) (a : Int) : Calls Tryd.prog 42 #[.agg #[.int .i64 1, .int .i64 n, .int .u64 (num : Nat), .string (str t), .int .i64 a]] w (KidsAt ⟨1, n, num, t, a⟩ w) := by
  obtain ⟨S, hS⟩ : ∃ S, str t = S := ⟨_, rfl⟩
  rw [hS]
  obtain ⟨w1, hw1⟩ : ∃ w1, w.alloc (.cells #[.int .i64 1, .int .i64 n, .int .u64 (num : Nat), .string S, .int .i64 a] 27) = w1 := ⟨_, rfl⟩
  have b1 : Below w.heap.size w w1 := by rw [← hw1]; exact (Below.refl _ w).alloc (Nat.le_refl _) _
  have k1 : CB w1 w.heap.size 27 #[.int .i64 1, .int .i64 n, .int .u64 (num : Nat), .string S, .int .i64 a] := by rw [← hw1]; exact CB.new w _ _
  have s1 : w1.heap.size = w.heap.size + 1 := by rw [← hw1]; simp
  have c0 : w1.cell? ⟨w.heap.size, 0, none⟩ = some (.int .i64 1) := k1.at_ 0
  have c1 : w1.cell? ⟨w.heap.size, 1, none⟩ = some (.int .i64 n) := k1.at_ 1
  have c2 : w1.cell? ⟨w.heap.size, 2, none⟩ = some (.int .u64 (num : Nat)) := k1.at_ 2
  have c3 : w1.cell? ⟨w.heap.size, 3, none⟩ = some (.string S) := k1.at_ 3
  have c4 : w1.cell? ⟨w.heap.size, 4, none⟩ = some (.int .i64 a) := k1.at_ 4
  obtain ⟨w2, hw2⟩ : ∃ w2, w1.alloc (.cells #[.int .i64 1, .int .i64 0, .int .u64 (num : Nat), .string ⟨#[]⟩, .int .i64 a] 27) = w2 := ⟨_, rfl⟩
  have b2 : Below w.heap.size w w2 := by rw [← hw2]; exact b1.trans ((Below.refl _ w1).alloc (by omega) _)
  have k2 : CB w2 w.heap.size 27 #[.int .i64 1, .int .i64 n, .int .u64 (num : Nat), .string S, .int .i64 a] := by rw [← hw2]; exact k1.below ((Below.refl _ w1).alloc (Nat.le_refl _) _)
  have u2 : CB w2 (w.heap.size + 1) 27 #[.int .i64 1, .int .i64 0, .int .u64 (num : Nat), .string ⟨#[]⟩, .int .i64 a] := by rw [← s1, ← hw2]; exact CB.new w1 _ _
  have d0 : w2.cell? ⟨w.heap.size, 0, none⟩ = some (.int .i64 1) := k2.at_ 0
  have d1 : w2.cell? ⟨w.heap.size, 1, none⟩ = some (.int .i64 n) := k2.at_ 1
  have d2 : w2.cell? ⟨w.heap.size, 2, none⟩ = some (.int .u64 (num : Nat)) := k2.at_ 2
  have d3 : w2.cell? ⟨w.heap.size, 3, none⟩ = some (.string S) := k2.at_ 3
  have d4 : w2.cell? ⟨w.heap.size, 4, none⟩ = some (.int .i64 a) := k2.at_ 4
  have g0 : w2.cell? ⟨w.heap.size + 1, 0, none⟩ = some (.int .i64 1) := u2.at_ 0
  have g1 : w2.cell? ⟨w.heap.size + 1, 1, none⟩ = some (.int .i64 0) := u2.at_ 1
  have g2 : w2.cell? ⟨w.heap.size + 1, 2, none⟩ = some (.int .u64 (num : Nat)) := u2.at_ 2
  have g3 : w2.cell? ⟨w.heap.size + 1, 3, none⟩ = some (.string ⟨#[]⟩) := u2.at_ 3
  have g4 : w2.cell? ⟨w.heap.size + 1, 4, none⟩ = some (.int .i64 a) := u2.at_ 4
  clear k1 k2 u2 b1
  go_enter Tryd.func42, Tryd.ntmps42
  go_wp2
  by_cases hn : n = 0
  · subst hn
    by_cases ht : t = []
    · subst ht
      obtain rfl : S = ⟨#[]⟩ := hS.symm
      go_quiet (fail)
      go_wp2
      refine bodyPost_ret (v := .tuple #[.int .i64 0, .bool true]) (results_2 rfl _ _ _ _ rfl rfl) rfl ⟨0, true, rfl, Below.thenN b2 _, ?_, ?_⟩
      · exact fun _ => ⟨0, rfl, rfl⟩
      · exact nofun
    · have zl : (S.toList == ([] : List UInt8)) = false := by rw [← hS, ByteArray.toList_eq]; exact beq_eq_false_iff_ne.2 (by simpa [str] using ht)
      go_quiet (fail)
      go_wp2
      refine bodyPost_ret (v := .tuple #[.int .i64 0, .bool false]) (results_2 rfl _ _ _ _ rfl rfl) rfl ⟨0, false, rfl, Below.thenN b2 _, ?_, ?_⟩
      · exact nofun
      · intro _; unfold arity; dsimp only; rw [if_pos rfl, if_neg ?_]; simp only [not_and]; intros; first | contradiction | omega | simp_all
  · have zn : (n == 0) = false := beq_eq_false_iff_ne.2 hn
    go_quiet (fail)
    go_wp2
    refine bodyPost_ret (v := .tuple #[.int .i64 0, .bool false]) (results_2 rfl _ _ _ _ rfl rfl) rfl ⟨0, false, rfl, Below.thenN b2 _, ?_, ?_⟩
    · exact nofun
    · intro _; unfold arity; dsimp only; rw [if_pos rfl, if_neg ?_]; simp only [not_and]; intros; first | contradiction | omega | simp_all

set_option maxRecDepth 100000 in
set_option maxHeartbeats 4000000 in
theorem kids2_any (w : World) (n : Int) (num : Nat) (t : List UInt8) (a : Int) : Calls Tryd.prog 42 #[.agg #[.int .i64 2, .int .i64 n, .int .u64 (num : Nat), .string (str t), .int .i64 a]] w (KidsAt ⟨2, n, num, t, a⟩ w) := by
  obtain ⟨S, hS⟩ : ∃ S, str t = S := ⟨_, rfl⟩
  rw [hS]
  obtain ⟨w1, hw1⟩ : ∃ w1, w.alloc (.cells #[.int .i64 2, .int .i64 n, .int .u64 (num : Nat), .string S, .int .i64 a] 27) = w1 := ⟨_, rfl⟩
  have b1 : Below w.heap.size w w1 := by rw [← hw1]; exact (Below.refl _ w).alloc (Nat.le_refl _) _
  have k1 : CB w1 w.heap.size 27 #[.int .i64 2, .int .i64 n, .int .u64 (num : Nat), .string S, .int .i64 a] := by rw [← hw1]; exact CB.new w _ _
  have s1 : w1.heap.size = w.heap.size + 1 := by rw [← hw1]; simp
  have c0 : w1.cell? ⟨w.heap.size, 0, none⟩ = some (.int .i64 2) := k1.at_ 0
  have c1 : w1.cell? ⟨w.heap.size, 1, none⟩ = some (.int .i64 n) := k1.at_ 1
  have c2 : w1.cell? ⟨w.heap.size, 2, none⟩ = some (.int .u64 (num : Nat)) := k1.at_ 2
  have c3 : w1.cell? ⟨w.heap.size, 3, none⟩ = some (.string S) := k1.at_ 3
  have c4 : w1.cell? ⟨w.heap.size, 4, none⟩ = some (.int .i64 a) := k1.at_ 4
  obtain ⟨w2, hw2⟩ : ∃ w2, w1.alloc (.cells #[.int .i64 2, .int .i64 0, .int .u64 0, .string S, .int .i64 a] 27) = w2 := ⟨_, rfl⟩
  have b2 : Below w.heap.size w w2 := by rw [← hw2]; exact b1.trans ((Below.refl _ w1).alloc (by omega) _)
  have k2 : CB w2 w.heap.size 27 #[.int .i64 2, .int .i64 n, .int .u64 (num : Nat), .string S, .int .i64 a] := by rw [← hw2]; exact k1.below ((Below.refl _ w1).alloc (Nat.le_refl _) _)
  have u2 : CB w2 (w.heap.size + 1) 27 #[.int .i64 2, .int .i64 0, .int .u64 0, .string S, .int .i64 a] := by rw [← s1, ← hw2]; exact CB.new w1 _ _
  have d0 : w2.cell? ⟨w.heap.size, 0, none⟩ = some (.int .i64 2) := k2.at_ 0
  have d1 : w2.cell? ⟨w.heap.size, 1, none⟩ = some (.int .i64 n) := k2.at_ 1
  have d2 : w2.cell? ⟨w.heap.size, 2, none⟩ = some (.int .u64 (num : Nat)) := k2.at_ 2
  have d3 : w2.cell? ⟨w.heap.size, 3, none⟩ = some (.string S) := k2.at_ 3
  have d4 : w2.cell? ⟨w.heap.size, 4, none⟩ = some (.int .i64 a) := k2.at_ 4
  have g0 : w2.cell? ⟨w.heap.size + 1, 0, none⟩ = some (.int .i64 2) := u2.at_ 0
  have g1 : w2.cell? ⟨w.heap.size + 1, 1, none⟩ = some (.int .i64 0) := u2.at_ 1
  have g2 : w2.cell? ⟨w.heap.size + 1, 2, none⟩ = some (.int .u64 0) := u2.at_ 2
  have g3 : w2.cell? ⟨w.heap.size + 1, 3, none⟩ = some (.string S) := u2.at_ 3
  have g4 : w2.cell? ⟨w.heap.size + 1, 4, none⟩ = some (.int .i64 a) := u2.at_ 4
  clear k1 k2 u2 b1
  go_enter Tryd.func42, Tryd.ntmps42
  go_wp2
  by_cases hn : n = 0
  · subst hn
    by_cases hnum : num = 0
    · subst hnum
      go_quiet (fail)
      go_wp2
      refine bodyPost_ret (v := .tuple #[.int .i64 0, .bool true]) (results_2 rfl _ _ _ _ rfl rfl) rfl ⟨0, true, rfl, Below.thenN b2 _, ?_, ?_⟩
      · exact fun _ => ⟨0, rfl, rfl⟩
      · exact nofun
    · have znum : ((num : Int) == 0) = false := beq_eq_false_iff_ne.2 (by omega)
      go_quiet (fail)
      go_wp2
      refine bodyPost_ret (v := .tuple #[.int .i64 0, .bool false]) (results_2 rfl _ _ _ _ rfl rfl) rfl ⟨0, false, rfl, Below.thenN b2 _, ?_, ?_⟩
      · exact nofun
      · intro _; unfold arity; dsimp only; rw [if_neg (by decide), if_pos rfl, if_neg ?_]; simp only [not_and]; intros; first | contradiction | omega | simp_all
  · have zn : (n == 0) = false := beq_eq_false_iff_ne.2 hn
    go_quiet (fail)
    go_wp2
    refine bodyPost_ret (v := .tuple #[.int .i64 0, .bool false]) (results_2 rfl _ _ _ _ rfl rfl) rfl ⟨0, false, rfl, Below.thenN b2 _, ?_, ?_⟩
    · exact nofun
    · intro _; unfold arity; dsimp only; rw [if_neg (by decide), if_pos rfl, if_neg ?_]; simp only [not_and]; intros; first | contradiction | omega | simp_all

set_option maxRecDepth 100000 in
set_option maxHeartbeats 4000000 in
theorem kids3_any (w : World) (n : Int) (num : Nat) (t : List UInt8) (a : Int) : Calls Tryd.prog 42 #[.agg #[.int .i64 3, .int .i64 n, .int .u64 (num : Nat), .string (str t), .int .i64 a]] w (KidsAt ⟨3, n, num, t, a⟩ w) := by
  obtain ⟨S, hS⟩ : ∃ S, str t = S := ⟨_, rfl⟩
  rw [hS]
  obtain ⟨w1, hw1⟩ : ∃ w1, w.alloc (.cells #[.int .i64 3, .int .i64 n, .int .u64 (num : Nat), .string S, .int .i64 a] 27) = w1 := ⟨_, rfl⟩
  have b1 : Below w.heap.size w w1 := by rw [← hw1]; exact (Below.refl _ w).alloc (Nat.le_refl _) _
  have k1 : CB w1 w.heap.size 27 #[.int .i64 3, .int .i64 n, .int .u64 (num : Nat), .string S, .int .i64 a] := by rw [← hw1]; exact CB.new w _ _
  have s1 : w1.heap.size = w.heap.size + 1 := by rw [← hw1]; simp
  have c0 : w1.cell? ⟨w.heap.size, 0, none⟩ = some (.int .i64 3) := k1.at_ 0
  have c1 : w1.cell? ⟨w.heap.size, 1, none⟩ = some (.int .i64 n) := k1.at_ 1
  have c2 : w1.cell? ⟨w.heap.size, 2, none⟩ = some (.int .u64 (num : Nat)) := k1.at_ 2
  have c3 : w1.cell? ⟨w.heap.size, 3, none⟩ = some (.string S) := k1.at_ 3
  have c4 : w1.cell? ⟨w.heap.size, 4, none⟩ = some (.int .i64 a) := k1.at_ 4
  obtain ⟨w2, hw2⟩ : ∃ w2, w1.alloc (.cells #[.int .i64 3, .int .i64 0, .int .u64 0, .string ⟨#[]⟩, .int .i64 a] 27) = w2 := ⟨_, rfl⟩
  have b2 : Below w.heap.size w w2 := by rw [← hw2]; exact b1.trans ((Below.refl _ w1).alloc (by omega) _)
  have k2 : CB w2 w.heap.size 27 #[.int .i64 3, .int .i64 n, .int .u64 (num : Nat), .string S, .int .i64 a] := by rw [← hw2]; exact k1.below ((Below.refl _ w1).alloc (Nat.le_refl _) _)
  have u2 : CB w2 (w.heap.size + 1) 27 #[.int .i64 3, .int .i64 0, .int .u64 0, .string ⟨#[]⟩, .int .i64 a] := by rw [← s1, ← hw2]; exact CB.new w1 _ _
  have d0 : w2.cell? ⟨w.heap.size, 0, none⟩ = some (.int .i64 3) := k2.at_ 0
  have d1 : w2.cell? ⟨w.heap.size, 1, none⟩ = some (.int .i64 n) := k2.at_ 1
  have d2 : w2.cell? ⟨w.heap.size, 2, none⟩ = some (.int .u64 (num : Nat)) := k2.at_ 2
  have d3 : w2.cell? ⟨w.heap.size, 3, none⟩ = some (.string S) := k2.at_ 3
  have d4 : w2.cell? ⟨w.heap.size, 4, none⟩ = some (.int .i64 a) := k2.at_ 4
  have g0 : w2.cell? ⟨w.heap.size + 1, 0, none⟩ = some (.int .i64 3) := u2.at_ 0
  have g1 : w2.cell? ⟨w.heap.size + 1, 1, none⟩ = some (.int .i64 0) := u2.at_ 1
  have g2 : w2.cell? ⟨w.heap.size + 1, 2, none⟩ = some (.int .u64 0) := u2.at_ 2
  have g3 : w2.cell? ⟨w.heap.size + 1, 3, none⟩ = some (.string ⟨#[]⟩) := u2.at_ 3
  have g4 : w2.cell? ⟨w.heap.size + 1, 4, none⟩ = some (.int .i64 a) := u2.at_ 4
  clear k1 k2 u2 b1
  go_enter Tryd.func42, Tryd.ntmps42
  go_wp2
  by_cases hn : n = 0
  · subst hn
    by_cases hnum : num = 0
    · subst hnum
      by_cases ht : t = []
      · subst ht
        obtain rfl : S = ⟨#[]⟩ := hS.symm
        go_quiet (fail)
        go_wp2
        refine bodyPost_ret (v := .tuple #[.int .i64 0, .bool true]) (results_2 rfl _ _ _ _ rfl rfl) rfl ⟨0, true, rfl, Below.thenN b2 _, ?_, ?_⟩
        · exact fun _ => ⟨0, rfl, rfl⟩
        · exact nofun
      · have zl : (S.toList == ([] : List UInt8)) = false := by rw [← hS, ByteArray.toList_eq]; exact beq_eq_false_iff_ne.2 (by simpa [str] using ht)
        go_quiet (fail)
        go_wp2
        refine bodyPost_ret (v := .tuple #[.int .i64 0, .bool false]) (results_2 rfl _ _ _ _ rfl rfl) rfl ⟨0, false, rfl, Below.thenN b2 _, ?_, ?_⟩
        · exact nofun
        · intro _; unfold arity; dsimp only; rw [if_neg (by decide), if_neg (by decide), if_neg (by decide), if_neg ?_]; simp only [not_and]; intros; first | contradiction | omega | simp_all
    · have znum : ((num : Int) == 0) = false := beq_eq_false_iff_ne.2 (by omega)
      go_quiet (fail)
      go_wp2
      refine bodyPost_ret (v := .tuple #[.int .i64 0, .bool false]) (results_2 rfl _ _ _ _ rfl rfl) rfl ⟨0, false, rfl, Below.thenN b2 _, ?_, ?_⟩
      · exact nofun
      · intro _; unfold arity; dsimp only; rw [if_neg (by decide), if_neg (by decide), if_neg (by decide), if_neg ?_]; simp only [not_and]; intros; first | contradiction | omega | simp_all
  · have zn : (n == 0) = false := beq_eq_false_iff_ne.2 hn
    go_quiet (fail)
    go_wp2
    refine bodyPost_ret (v := .tuple #[.int .i64 0, .bool false]) (results_2 rfl _ _ _ _ rfl rfl) rfl ⟨0, false, rfl, Below.thenN b2 _, ?_, ?_⟩
    · exact nofun
    · intro _; unfold arity; dsimp only; rw [if_neg (by decide), if_neg (by decide), if_neg (by decide), if_neg ?_]; simp only [not_and]; intros; first | contradiction | omega | simp_all

set_option maxRecDepth 100000 in
set_option maxHeartbeats 4000000 in
theorem kids4_any (w : World) (n : Int) (num : Nat) (t : List UInt8) (a : Int) : Calls Tryd.prog 42 #[.agg #[.int .i64 4, .int .i64 n, .int .u64 (num : Nat), .string (str t), .int .i64 a]] w (KidsAt ⟨4, n, num, t, a⟩ w) := by
  obtain ⟨S, hS⟩ : ∃ S, str t = S := ⟨_, rfl⟩
  rw [hS]
  obtain ⟨w1, hw1⟩ : ∃ w1, w.alloc (.cells #[.int .i64 4, .int .i64 n, .int .u64 (num : Nat), .string S, .int .i64 a] 27) = w1 := ⟨_, rfl⟩
  have b1 : Below w.heap.size w w1 := by rw [← hw1]; exact (Below.refl _ w).alloc (Nat.le_refl _) _
  have k1 : CB w1 w.heap.size 27 #[.int .i64 4, .int .i64 n, .int .u64 (num : Nat), .string S, .int .i64 a] := by rw [← hw1]; exact CB.new w _ _
  have s1 : w1.heap.size = w.heap.size + 1 := by rw [← hw1]; simp
  have c0 : w1.cell? ⟨w.heap.size, 0, none⟩ = some (.int .i64 4) := k1.at_ 0
  have c1 : w1.cell? ⟨w.heap.size, 1, none⟩ = some (.int .i64 n) := k1.at_ 1
  have c2 : w1.cell? ⟨w.heap.size, 2, none⟩ = some (.int .u64 (num : Nat)) := k1.at_ 2
  have c3 : w1.cell? ⟨w.heap.size, 3, none⟩ = some (.string S) := k1.at_ 3
  have c4 : w1.cell? ⟨w.heap.size, 4, none⟩ = some (.int .i64 a) := k1.at_ 4
  obtain ⟨w2, hw2⟩ : ∃ w2, w1.alloc (.cells #[.int .i64 4, .int .i64 0, .int .u64 0, .string ⟨#[]⟩, .int .i64 a] 27) = w2 := ⟨_, rfl⟩
  have b2 : Below w.heap.size w w2 := by rw [← hw2]; exact b1.trans ((Below.refl _ w1).alloc (by omega) _)
  have k2 : CB w2 w.heap.size 27 #[.int .i64 4, .int .i64 n, .int .u64 (num : Nat), .string S, .int .i64 a] := by rw [← hw2]; exact k1.below ((Below.refl _ w1).alloc (Nat.le_refl _) _)
  have u2 : CB w2 (w.heap.size + 1) 27 #[.int .i64 4, .int .i64 0, .int .u64 0, .string ⟨#[]⟩, .int .i64 a] := by rw [← s1, ← hw2]; exact CB.new w1 _ _
  have d0 : w2.cell? ⟨w.heap.size, 0, none⟩ = some (.int .i64 4) := k2.at_ 0
  have d1 : w2.cell? ⟨w.heap.size, 1, none⟩ = some (.int .i64 n) := k2.at_ 1
  have d2 : w2.cell? ⟨w.heap.size, 2, none⟩ = some (.int .u64 (num : Nat)) := k2.at_ 2
  have d3 : w2.cell? ⟨w.heap.size, 3, none⟩ = some (.string S) := k2.at_ 3
  have d4 : w2.cell? ⟨w.heap.size, 4, none⟩ = some (.int .i64 a) := k2.at_ 4
  have g0 : w2.cell? ⟨w.heap.size + 1, 0, none⟩ = some (.int .i64 4) := u2.at_ 0
  have g1 : w2.cell? ⟨w.heap.size + 1, 1, none⟩ = some (.int .i64 0) := u2.at_ 1
  have g2 : w2.cell? ⟨w.heap.size + 1, 2, none⟩ = some (.int .u64 0) := u2.at_ 2
  have g3 : w2.cell? ⟨w.heap.size + 1, 3, none⟩ = some (.string ⟨#[]⟩) := u2.at_ 3
  have g4 : w2.cell? ⟨w.heap.size + 1, 4, none⟩ = some (.int .i64 a) := u2.at_ 4
  clear k1 k2 u2 b1
  go_enter Tryd.func42, Tryd.ntmps42
  go_wp2
  by_cases hn : n = 0
  · subst hn
    by_cases hnum : num = 0
    · subst hnum
      by_cases ht : t = []
      · subst ht
        obtain rfl : S = ⟨#[]⟩ := hS.symm
        go_quiet (fail)
        go_wp2
        refine bodyPost_ret (v := .tuple #[.int .i64 0, .bool true]) (results_2 rfl _ _ _ _ rfl rfl) rfl ⟨0, true, rfl, Below.thenN b2 _, ?_, ?_⟩
        · exact fun _ => ⟨0, rfl, rfl⟩
        · exact nofun
      · have zl : (S.toList == ([] : List UInt8)) = false := by rw [← hS, ByteArray.toList_eq]; exact beq_eq_false_iff_ne.2 (by simpa [str] using ht)
        go_quiet (fail)
        go_wp2
        refine bodyPost_ret (v := .tuple #[.int .i64 0, .bool false]) (results_2 rfl _ _ _ _ rfl rfl) rfl ⟨0, false, rfl, Below.thenN b2 _, ?_, ?_⟩
        · exact nofun
        · intro _; unfold arity; dsimp only; rw [if_neg (by decide), if_neg (by decide), if_neg (by decide), if_neg ?_]; simp only [not_and]; intros; first | contradiction | omega | simp_all
    · have znum : ((num : Int) == 0) = false := beq_eq_false_iff_ne.2 (by omega)
      go_quiet (fail)
      go_wp2
      refine bodyPost_ret (v := .tuple #[.int .i64 0, .bool false]) (results_2 rfl _ _ _ _ rfl rfl) rfl ⟨0, false, rfl, Below.thenN b2 _, ?_, ?_⟩
      · exact nofun
      · intro _; unfold arity; dsimp only; rw [if_neg (by decide), if_neg (by decide), if_neg (by decide), if_neg ?_]; simp only [not_and]; intros; first | contradiction | omega | simp_all
  · have zn : (n == 0) = false := beq_eq_false_iff_ne.2 hn
    go_quiet (fail)
    go_wp2
    refine bodyPost_ret (v := .tuple #[.int .i64 0, .bool false]) (results_2 rfl _ _ _ _ rfl rfl) rfl ⟨0, false, rfl, Below.thenN b2 _, ?_, ?_⟩
    · exact nofun
    · intro _; unfold arity; dsimp only; rw [if_neg (by decide), if_neg (by decide), if_neg (by decide), if_neg ?_]; simp only [not_and]; intros; first | contradiction | omega | simp_all

set_option maxRecDepth 100000 in
set_option maxHeartbeats 4000000 in
theorem kids5_any (w : World) (n : Int) (num : Nat) (t : List UInt8) (a : Int) : Calls Tryd.prog 42 #[.agg #[.int .i64 5, .int .i64 n, .int .u64 (num : Nat), .string (str t), .int .i64 a]] w (KidsAt ⟨5, n, num, t, a⟩ w) := by
  obtain ⟨S, hS⟩ : ∃ S, str t = S := ⟨_, rfl⟩
  rw [hS]
  obtain ⟨w1, hw1⟩ : ∃ w1, w.alloc (.cells #[.int .i64 5, .int .i64 n, .int .u64 (num : Nat), .string S, .int .i64 a] 27) = w1 := ⟨_, rfl⟩
  have b1 : Below w.heap.size w w1 := by rw [← hw1]; exact (Below.refl _ w).alloc (Nat.le_refl _) _
  have k1 : CB w1 w.heap.size 27 #[.int .i64 5, .int .i64 n, .int .u64 (num : Nat), .string S, .int .i64 a] := by rw [← hw1]; exact CB.new w _ _
  have s1 : w1.heap.size = w.heap.size + 1 := by rw [← hw1]; simp
  have c0 : w1.cell? ⟨w.heap.size, 0, none⟩ = some (.int .i64 5) := k1.at_ 0
  have c1 : w1.cell? ⟨w.heap.size, 1, none⟩ = some (.int .i64 n) := k1.at_ 1
  have c2 : w1.cell? ⟨w.heap.size, 2, none⟩ = some (.int .u64 (num : Nat)) := k1.at_ 2
  have c3 : w1.cell? ⟨w.heap.size, 3, none⟩ = some (.string S) := k1.at_ 3
  have c4 : w1.cell? ⟨w.heap.size, 4, none⟩ = some (.int .i64 a) := k1.at_ 4
  obtain ⟨w2, hw2⟩ : ∃ w2, w1.alloc (.cells #[.int .i64 5, .int .i64 0, .int .u64 0, .string ⟨#[]⟩, .int .i64 a] 27) = w2 := ⟨_, rfl⟩
  have b2 : Below w.heap.size w w2 := by rw [← hw2]; exact b1.trans ((Below.refl _ w1).alloc (by omega) _)
  have k2 : CB w2 w.heap.size 27 #[.int .i64 5, .int .i64 n, .int .u64 (num : Nat), .string S, .int .i64 a] := by rw [← hw2]; exact k1.below ((Below.refl _ w1).alloc (Nat.le_refl _) _)
  have u2 : CB w2 (w.heap.size + 1) 27 #[.int .i64 5, .int .i64 0, .int .u64 0, .string ⟨#[]⟩, .int .i64 a] := by rw [← s1, ← hw2]; exact CB.new w1 _ _
  have d0 : w2.cell? ⟨w.heap.size, 0, none⟩ = some (.int .i64 5) := k2.at_ 0
  have d1 : w2.cell? ⟨w.heap.size, 1, none⟩ = some (.int .i64 n) := k2.at_ 1
  have d2 : w2.cell? ⟨w.heap.size, 2, none⟩ = some (.int .u64 (num : Nat)) := k2.at_ 2
  have d3 : w2.cell? ⟨w.heap.size, 3, none⟩ = some (.string S) := k2.at_ 3
  have d4 : w2.cell? ⟨w.heap.size, 4, none⟩ = some (.int .i64 a) := k2.at_ 4
  have g0 : w2.cell? ⟨w.heap.size + 1, 0, none⟩ = some (.int .i64 5) := u2.at_ 0
  have g1 : w2.cell? ⟨w.heap.size + 1, 1, none⟩ = some (.int .i64 0) := u2.at_ 1
  have g2 : w2.cell? ⟨w.heap.size + 1, 2, none⟩ = some (.int .u64 0) := u2.at_ 2
  have g3 : w2.cell? ⟨w.heap.size + 1, 3, none⟩ = some (.string ⟨#[]⟩) := u2.at_ 3
  have g4 : w2.cell? ⟨w.heap.size + 1, 4, none⟩ = some (.int .i64 a) := u2.at_ 4
  clear k1 k2 u2 b1
  go_enter Tryd.func42, Tryd.ntmps42
  go_wp2
  by_cases hn : n = 0
  · subst hn
    by_cases hnum : num = 0
    · subst hnum
      by_cases ht : t = []
      · subst ht
        obtain rfl : S = ⟨#[]⟩ := hS.symm
        go_quiet (fail)
        go_wp2
        refine bodyPost_ret (v := .tuple #[.int .i64 1, .bool true]) (results_2 rfl _ _ _ _ rfl rfl) rfl ⟨1, true, rfl, Below.thenN b2 _, ?_, ?_⟩
        · exact fun _ => ⟨1, rfl, rfl⟩
        · exact nofun
      · have zl : (S.toList == ([] : List UInt8)) = false := by rw [← hS, ByteArray.toList_eq]; exact beq_eq_false_iff_ne.2 (by simpa [str] using ht)
        go_quiet (fail)
        go_wp2
        refine bodyPost_ret (v := .tuple #[.int .i64 1, .bool false]) (results_2 rfl _ _ _ _ rfl rfl) rfl ⟨1, false, rfl, Below.thenN b2 _, ?_, ?_⟩
        · exact nofun
        · intro _; unfold arity; dsimp only; rw [if_neg (by decide), if_neg (by decide), if_neg (by decide), if_neg ?_]; simp only [not_and]; intros; first | contradiction | omega | simp_all
    · have znum : ((num : Int) == 0) = false := beq_eq_false_iff_ne.2 (by omega)
      go_quiet (fail)
      go_wp2
      refine bodyPost_ret (v := .tuple #[.int .i64 1, .bool false]) (results_2 rfl _ _ _ _ rfl rfl) rfl ⟨1, false, rfl, Below.thenN b2 _, ?_, ?_⟩
      · exact nofun
      · intro _; unfold arity; dsimp only; rw [if_neg (by decide), if_neg (by decide), if_neg (by decide), if_neg ?_]; simp only [not_and]; intros; first | contradiction | omega | simp_all
  · have zn : (n == 0) = false := beq_eq_false_iff_ne.2 hn
    go_quiet (fail)
    go_wp2
    refine bodyPost_ret (v := .tuple #[.int .i64 1, .bool false]) (results_2 rfl _ _ _ _ rfl rfl) rfl ⟨1, false, rfl, Below.thenN b2 _, ?_, ?_⟩
    · exact nofun
    · intro _; unfold arity; dsimp only; rw [if_neg (by decide), if_neg (by decide), if_neg (by decide), if_neg ?_]; simp only [not_and]; intros; first | contradiction | omega | simp_all

set_option maxRecDepth 100000 in
set_option maxHeartbeats 4000000 in
theorem kids6_any (w : World) (n : Int) (num : Nat) (t : List UInt8) (a : Int) : Calls Tryd.prog 42 #[.agg #[.int .i64 6, .int .i64 n, .int .u64 (num : Nat), .string (str t), .int .i64 a]] w (KidsAt ⟨6, n, num, t, a⟩ w) := by
  obtain ⟨S, hS⟩ : ∃ S, str t = S := ⟨_, rfl⟩
  rw [hS]
  obtain ⟨w1, hw1⟩ : ∃ w1, w.alloc (.cells #[.int .i64 6, .int .i64 n, .int .u64 (num : Nat), .string S, .int .i64 a] 27) = w1 := ⟨_, rfl⟩
  have b1 : Below w.heap.size w w1 := by rw [← hw1]; exact (Below.refl _ w).alloc (Nat.le_refl _) _
  have k1 : CB w1 w.heap.size 27 #[.int .i64 6, .int .i64 n, .int .u64 (num : Nat), .string S, .int .i64 a] := by rw [← hw1]; exact CB.new w _ _
  have s1 : w1.heap.size = w.heap.size + 1 := by rw [← hw1]; simp
  have c0 : w1.cell? ⟨w.heap.size, 0, none⟩ = some (.int .i64 6) := k1.at_ 0
  have c1 : w1.cell? ⟨w.heap.size, 1, none⟩ = some (.int .i64 n) := k1.at_ 1
  have c2 : w1.cell? ⟨w.heap.size, 2, none⟩ = some (.int .u64 (num : Nat)) := k1.at_ 2
  have c3 : w1.cell? ⟨w.heap.size, 3, none⟩ = some (.string S) := k1.at_ 3
  have c4 : w1.cell? ⟨w.heap.size, 4, none⟩ = some (.int .i64 a) := k1.at_ 4
  obtain ⟨w2, hw2⟩ : ∃ w2, w1.alloc (.cells #[.int .i64 6, .int .i64 0, .int .u64 0, .string ⟨#[]⟩, .int .i64 a] 27) = w2 := ⟨_, rfl⟩
  have b2 : Below w.heap.size w w2 := by rw [← hw2]; exact b1.trans ((Below.refl _ w1).alloc (by omega) _)
  have k2 : CB w2 w.heap.size 27 #[.int .i64 6, .int .i64 n, .int .u64 (num : Nat), .string S, .int .i64 a] := by rw [← hw2]; exact k1.below ((Below.refl _ w1).alloc (Nat.le_refl _) _)
  have u2 : CB w2 (w.heap.size + 1) 27 #[.int .i64 6, .int .i64 0, .int .u64 0, .string ⟨#[]⟩, .int .i64 a] := by rw [← s1, ← hw2]; exact CB.new w1 _ _
  have d0 : w2.cell? ⟨w.heap.size, 0, none⟩ = some (.int .i64 6) := k2.at_ 0
  have d1 : w2.cell? ⟨w.heap.size, 1, none⟩ = some (.int .i64 n) := k2.at_ 1
  have d2 : w2.cell? ⟨w.heap.size, 2, none⟩ = some (.int .u64 (num : Nat)) := k2.at_ 2
  have d3 : w2.cell? ⟨w.heap.size, 3, none⟩ = some (.string S) := k2.at_ 3
  have d4 : w2.cell? ⟨w.heap.size, 4, none⟩ = some (.int .i64 a) := k2.at_ 4
  have g0 : w2.cell? ⟨w.heap.size + 1, 0, none⟩ = some (.int .i64 6) := u2.at_ 0
  have g1 : w2.cell? ⟨w.heap.size + 1, 1, none⟩ = some (.int .i64 0) := u2.at_ 1
  have g2 : w2.cell? ⟨w.heap.size + 1, 2, none⟩ = some (.int .u64 0) := u2.at_ 2
  have g3 : w2.cell? ⟨w.heap.size + 1, 3, none⟩ = some (.string ⟨#[]⟩) := u2.at_ 3
  have g4 : w2.cell? ⟨w.heap.size + 1, 4, none⟩ = some (.int .i64 a) := u2.at_ 4
  clear k1 k2 u2 b1
  go_enter Tryd.func42, Tryd.ntmps42
  go_wp2
  by_cases hn : n = 0
  · subst hn
    by_cases hnum : num = 0
    · subst hnum
      by_cases ht : t = []
      · subst ht
        obtain rfl : S = ⟨#[]⟩ := hS.symm
        go_quiet (fail)
        go_wp2
        refine bodyPost_ret (v := .tuple #[.int .i64 2, .bool true]) (results_2 rfl _ _ _ _ rfl rfl) rfl ⟨2, true, rfl, Below.thenN b2 _, ?_, ?_⟩
        · exact fun _ => ⟨2, rfl, rfl⟩
        · exact nofun
      · have zl : (S.toList == ([] : List UInt8)) = false := by rw [← hS, ByteArray.toList_eq]; exact beq_eq_false_iff_ne.2 (by simpa [str] using ht)
        go_quiet (fail)
        go_wp2
        refine bodyPost_ret (v := .tuple #[.int .i64 2, .bool false]) (results_2 rfl _ _ _ _ rfl rfl) rfl ⟨2, false, rfl, Below.thenN b2 _, ?_, ?_⟩
        · exact nofun
        · intro _; unfold arity; dsimp only; rw [if_neg (by decide), if_neg (by decide), if_neg (by decide), if_neg ?_]; simp only [not_and]; intros; first | contradiction | omega | simp_all
    · have znum : ((num : Int) == 0) = false := beq_eq_false_iff_ne.2 (by omega)
      go_quiet (fail)
      go_wp2
      refine bodyPost_ret (v := .tuple #[.int .i64 2, .bool false]) (results_2 rfl _ _ _ _ rfl rfl) rfl ⟨2, false, rfl, Below.thenN b2 _, ?_, ?_⟩
      · exact nofun
      · intro _; unfold arity; dsimp only; rw [if_neg (by decide), if_neg (by decide), if_neg (by decide), if_neg ?_]; simp only [not_and]; intros; first | contradiction | omega | simp_all
  · have zn : (n == 0) = false := beq_eq_false_iff_ne.2 hn
    go_quiet (fail)
    go_wp2
    refine bodyPost_ret (v := .tuple #[.int .i64 2, .bool false]) (results_2 rfl _ _ _ _ rfl rfl) rfl ⟨2, false, rfl, Below.thenN b2 _, ?_, ?_⟩
    · exact nofun
    · intro _; unfold arity; dsimp only; rw [if_neg (by decide), if_neg (by decide), if_neg (by decide), if_neg ?_]; simp only [not_and]; intros; first | contradiction | omega | simp_all

set_option maxRecDepth 100000 in
set_option maxHeartbeats 4000000 in
theorem kids7_any (w : World) (n : Int) (num : Nat) (t : List UInt8) (a : Int) : Calls Tryd.prog 42 #[.agg #[.int .i64 7, .int .i64 n, .int .u64 (num : Nat), .string (str t), .int .i64 a]] w (KidsAt ⟨7, n, num, t, a⟩ w) := by
  obtain ⟨S, hS⟩ : ∃ S, str t = S := ⟨_, rfl⟩
  rw [hS]
  obtain ⟨w1, hw1⟩ : ∃ w1, w.alloc (.cells #[.int .i64 7, .int .i64 n, .int .u64 (num : Nat), .string S, .int .i64 a] 27) = w1 := ⟨_, rfl⟩
  have b1 : Below w.heap.size w w1 := by rw [← hw1]; exact (Below.refl _ w).alloc (Nat.le_refl _) _
  have k1 : CB w1 w.heap.size 27 #[.int .i64 7, .int .i64 n, .int .u64 (num : Nat), .string S, .int .i64 a] := by rw [← hw1]; exact CB.new w _ _
  have s1 : w1.heap.size = w.heap.size + 1 := by rw [← hw1]; simp
  have c0 : w1.cell? ⟨w.heap.size, 0, none⟩ = some (.int .i64 7) := k1.at_ 0
  have c1 : w1.cell? ⟨w.heap.size, 1, none⟩ = some (.int .i64 n) := k1.at_ 1
  have c2 : w1.cell? ⟨w.heap.size, 2, none⟩ = some (.int .u64 (num : Nat)) := k1.at_ 2
  have c3 : w1.cell? ⟨w.heap.size, 3, none⟩ = some (.string S) := k1.at_ 3
  have c4 : w1.cell? ⟨w.heap.size, 4, none⟩ = some (.int .i64 a) := k1.at_ 4
  obtain ⟨w2, hw2⟩ : ∃ w2, w1.alloc (.cells #[.int .i64 7, .int .i64 0, .int .u64 0, .string ⟨#[]⟩, .int .i64 a] 27) = w2 := ⟨_, rfl⟩
  have b2 : Below w.heap.size w w2 := by rw [← hw2]; exact b1.trans ((Below.refl _ w1).alloc (by omega) _)
  have k2 : CB w2 w.heap.size 27 #[.int .i64 7, .int .i64 n, .int .u64 (num : Nat), .string S, .int .i64 a] := by rw [← hw2]; exact k1.below ((Below.refl _ w1).alloc (Nat.le_refl _) _)
  have u2 : CB w2 (w.heap.size + 1) 27 #[.int .i64 7, .int .i64 0, .int .u64 0, .string ⟨#[]⟩, .int .i64 a] := by rw [← s1, ← hw2]; exact CB.new w1 _ _
  have d0 : w2.cell? ⟨w.heap.size, 0, none⟩ = some (.int .i64 7) := k2.at_ 0
  have d1 : w2.cell? ⟨w.heap.size, 1, none⟩ = some (.int .i64 n) := k2.at_ 1
  have d2 : w2.cell? ⟨w.heap.size, 2, none⟩ = some (.int .u64 (num : Nat)) := k2.at_ 2
  have d3 : w2.cell? ⟨w.heap.size, 3, none⟩ = some (.string S) := k2.at_ 3
  have d4 : w2.cell? ⟨w.heap.size, 4, none⟩ = some (.int .i64 a) := k2.at_ 4
  have g0 : w2.cell? ⟨w.heap.size + 1, 0, none⟩ = some (.int .i64 7) := u2.at_ 0
  have g1 : w2.cell? ⟨w.heap.size + 1, 1, none⟩ = some (.int .i64 0) := u2.at_ 1
  have g2 : w2.cell? ⟨w.heap.size + 1, 2, none⟩ = some (.int .u64 0) := u2.at_ 2
  have g3 : w2.cell? ⟨w.heap.size + 1, 3, none⟩ = some (.string ⟨#[]⟩) := u2.at_ 3
  have g4 : w2.cell? ⟨w.heap.size + 1, 4, none⟩ = some (.int .i64 a) := u2.at_ 4
  clear k1 k2 u2 b1
  go_enter Tryd.func42, Tryd.ntmps42
  go_wp2
  by_cases hn : n = 0
  · subst hn
    by_cases hnum : num = 0
    · subst hnum
      by_cases ht : t = []
      · subst ht
        obtain rfl : S = ⟨#[]⟩ := hS.symm
        go_quiet (fail)
        go_wp2
        refine bodyPost_ret (v := .tuple #[.int .i64 2, .bool true]) (results_2 rfl _ _ _ _ rfl rfl) rfl ⟨2, true, rfl, Below.thenN b2 _, ?_, ?_⟩
        · exact fun _ => ⟨2, rfl, rfl⟩
        · exact nofun
      · have zl : (S.toList == ([] : List UInt8)) = false := by rw [← hS, ByteArray.toList_eq]; exact beq_eq_false_iff_ne.2 (by simpa [str] using ht)
        go_quiet (fail)
        go_wp2
        refine bodyPost_ret (v := .tuple #[.int .i64 2, .bool false]) (results_2 rfl _ _ _ _ rfl rfl) rfl ⟨2, false, rfl, Below.thenN b2 _, ?_, ?_⟩
        · exact nofun
        · intro _; unfold arity; dsimp only; rw [if_neg (by decide), if_neg (by decide), if_neg (by decide), if_neg ?_]; simp only [not_and]; intros; first | contradiction | omega | simp_all
    · have znum : ((num : Int) == 0) = false := beq_eq_false_iff_ne.2 (by omega)
      go_quiet (fail)
      go_wp2
      refine bodyPost_ret (v := .tuple #[.int .i64 2, .bool false]) (results_2 rfl _ _ _ _ rfl rfl) rfl ⟨2, false, rfl, Below.thenN b2 _, ?_, ?_⟩
      · exact nofun
      · intro _; unfold arity; dsimp only; rw [if_neg (by decide), if_neg (by decide), if_neg (by decide), if_neg ?_]; simp only [not_and]; intros; first | contradiction | omega | simp_all
  · have zn : (n == 0) = false := beq_eq_false_iff_ne.2 hn
    go_quiet (fail)
    go_wp2
    refine bodyPost_ret (v := .tuple #[.int .i64 2, .bool false]) (results_2 rfl _ _ _ _ rfl rfl) rfl ⟨2, false, rfl, Below.thenN b2 _, ?_, ?_⟩
    · exact nofun
    · intro _; unfold arity; dsimp only; rw [if_neg (by decide), if_neg (by decide), if_neg (by decide), if_neg ?_]; simp only [not_and]; intros; first | contradiction | omega | simp_all

set_option maxRecDepth 100000 in
set_option maxHeartbeats 4000000 in
theorem kids8_any (w : World) (n : Int) (num : Nat) (t : List UInt8) (a : Int) : Calls Tryd.prog 42 #[.agg #[.int .i64 8, .int .i64 n, .int .u64 (num : Nat), .string (str t), .int .i64 a]] w (KidsAt ⟨8, n, num, t, a⟩ w) := by
  obtain ⟨S, hS⟩ : ∃ S, str t = S := ⟨_, rfl⟩
  rw [hS]
  obtain ⟨w1, hw1⟩ : ∃ w1, w.alloc (.cells #[.int .i64 8, .int .i64 n, .int .u64 (num : Nat), .string S, .int .i64 a] 27) = w1 := ⟨_, rfl⟩
  have b1 : Below w.heap.size w w1 := by rw [← hw1]; exact (Below.refl _ w).alloc (Nat.le_refl _) _
  have k1 : CB w1 w.heap.size 27 #[.int .i64 8, .int .i64 n, .int .u64 (num : Nat), .string S, .int .i64 a] := by rw [← hw1]; exact CB.new w _ _
  have s1 : w1.heap.size = w.heap.size + 1 := by rw [← hw1]; simp
  have c0 : w1.cell? ⟨w.heap.size, 0, none⟩ = some (.int .i64 8) := k1.at_ 0
  have c1 : w1.cell? ⟨w.heap.size, 1, none⟩ = some (.int .i64 n) := k1.at_ 1
  have c2 : w1.cell? ⟨w.heap.size, 2, none⟩ = some (.int .u64 (num : Nat)) := k1.at_ 2
  have c3 : w1.cell? ⟨w.heap.size, 3, none⟩ = some (.string S) := k1.at_ 3
  have c4 : w1.cell? ⟨w.heap.size, 4, none⟩ = some (.int .i64 a) := k1.at_ 4
  obtain ⟨w2, hw2⟩ : ∃ w2, w1.alloc (.cells #[.int .i64 8, .int .i64 0, .int .u64 0, .string ⟨#[]⟩, .int .i64 a] 27) = w2 := ⟨_, rfl⟩
  have b2 : Below w.heap.size w w2 := by rw [← hw2]; exact b1.trans ((Below.refl _ w1).alloc (by omega) _)
  have k2 : CB w2 w.heap.size 27 #[.int .i64 8, .int .i64 n, .int .u64 (num : Nat), .string S, .int .i64 a] := by rw [← hw2]; exact k1.below ((Below.refl _ w1).alloc (Nat.le_refl _) _)
  have u2 : CB w2 (w.heap.size + 1) 27 #[.int .i64 8, .int .i64 0, .int .u64 0, .string ⟨#[]⟩, .int .i64 a] := by rw [← s1, ← hw2]; exact CB.new w1 _ _
  have d0 : w2.cell? ⟨w.heap.size, 0, none⟩ = some (.int .i64 8) := k2.at_ 0
  have d1 : w2.cell? ⟨w.heap.size, 1, none⟩ = some (.int .i64 n) := k2.at_ 1
  have d2 : w2.cell? ⟨w.heap.size, 2, none⟩ = some (.int .u64 (num : Nat)) := k2.at_ 2
  have d3 : w2.cell? ⟨w.heap.size, 3, none⟩ = some (.string S) := k2.at_ 3
  have d4 : w2.cell? ⟨w.heap.size, 4, none⟩ = some (.int .i64 a) := k2.at_ 4
  have g0 : w2.cell? ⟨w.heap.size + 1, 0, none⟩ = some (.int .i64 8) := u2.at_ 0
  have g1 : w2.cell? ⟨w.heap.size + 1, 1, none⟩ = some (.int .i64 0) := u2.at_ 1
  have g2 : w2.cell? ⟨w.heap.size + 1, 2, none⟩ = some (.int .u64 0) := u2.at_ 2
  have g3 : w2.cell? ⟨w.heap.size + 1, 3, none⟩ = some (.string ⟨#[]⟩) := u2.at_ 3
  have g4 : w2.cell? ⟨w.heap.size + 1, 4, none⟩ = some (.int .i64 a) := u2.at_ 4
  clear k1 k2 u2 b1
  go_enter Tryd.func42, Tryd.ntmps42
  go_wp2
  by_cases hn : n = 0
  · subst hn
    by_cases hnum : num = 0
    · subst hnum
      by_cases ht : t = []
      · subst ht
        obtain rfl : S = ⟨#[]⟩ := hS.symm
        go_quiet (fail)
        go_wp2
        refine bodyPost_ret (v := .tuple #[.int .i64 2, .bool true]) (results_2 rfl _ _ _ _ rfl rfl) rfl ⟨2, true, rfl, Below.thenN b2 _, ?_, ?_⟩
        · exact fun _ => ⟨2, rfl, rfl⟩
        · exact nofun
      · have zl : (S.toList == ([] : List UInt8)) = false := by rw [← hS, ByteArray.toList_eq]; exact beq_eq_false_iff_ne.2 (by simpa [str] using ht)
        go_quiet (fail)
        go_wp2
        refine bodyPost_ret (v := .tuple #[.int .i64 2, .bool false]) (results_2 rfl _ _ _ _ rfl rfl) rfl ⟨2, false, rfl, Below.thenN b2 _, ?_, ?_⟩
        · exact nofun
        · intro _; unfold arity; dsimp only; rw [if_neg (by decide), if_neg (by decide), if_neg (by decide), if_neg ?_]; simp only [not_and]; intros; first | contradiction | omega | simp_all
    · have znum : ((num : Int) == 0) = false := beq_eq_false_iff_ne.2 (by omega)
      go_quiet (fail)
      go_wp2
      refine bodyPost_ret (v := .tuple #[.int .i64 2, .bool false]) (results_2 rfl _ _ _ _ rfl rfl) rfl ⟨2, false, rfl, Below.thenN b2 _, ?_, ?_⟩
      · exact nofun
      · intro _; unfold arity; dsimp only; rw [if_neg (by decide), if_neg (by decide), if_neg (by decide), if_neg ?_]; simp only [not_and]; intros; first | contradiction | omega | simp_all
  · have zn : (n == 0) = false := beq_eq_false_iff_ne.2 hn
    go_quiet (fail)
    go_wp2
    refine bodyPost_ret (v := .tuple #[.int .i64 2, .bool false]) (results_2 rfl _ _ _ _ rfl rfl) rfl ⟨2, false, rfl, Below.thenN b2 _, ?_, ?_⟩
    · exact nofun
    · intro _; unfold arity; dsimp only; rw [if_neg (by decide), if_neg (by decide), if_neg (by decide), if_neg ?_]; simp only [not_and]; intros; first | contradiction | omega | simp_all

set_option maxRecDepth 100000 in
set_option maxHeartbeats 4000000 in
theorem kids10_any (w : World) (n : Int) (num : Nat) (t : List UInt8) (a : Int) : Calls Tryd.prog 42 #[.agg #[.int .i64 10, .int .i64 n, .int .u64 (num : Nat), .string (str t), .int .i64 a]] w (KidsAt ⟨10, n, num, t, a⟩ w) := by
  obtain ⟨S, hS⟩ : ∃ S, str t = S := ⟨_, rfl⟩
  rw [hS]
  obtain ⟨w1, hw1⟩ : ∃ w1, w.alloc (.cells #[.int .i64 10, .int .i64 n, .int .u64 (num : Nat), .string S, .int .i64 a] 27) = w1 := ⟨_, rfl⟩
  have b1 : Below w.heap.size w w1 := by rw [← hw1]; exact (Below.refl _ w).alloc (Nat.le_refl _) _
  have k1 : CB w1 w.heap.size 27 #[.int .i64 10, .int .i64 n, .int .u64 (num : Nat), .string S, .int .i64 a] := by rw [← hw1]; exact CB.new w _ _
  have s1 : w1.heap.size = w.heap.size + 1 := by rw [← hw1]; simp
  have c0 : w1.cell? ⟨w.heap.size, 0, none⟩ = some (.int .i64 10) := k1.at_ 0
  have c1 : w1.cell? ⟨w.heap.size, 1, none⟩ = some (.int .i64 n) := k1.at_ 1
  have c2 : w1.cell? ⟨w.heap.size, 2, none⟩ = some (.int .u64 (num : Nat)) := k1.at_ 2
  have c3 : w1.cell? ⟨w.heap.size, 3, none⟩ = some (.string S) := k1.at_ 3
  have c4 : w1.cell? ⟨w.heap.size, 4, none⟩ = some (.int .i64 a) := k1.at_ 4
  obtain ⟨w2, hw2⟩ : ∃ w2, w1.alloc (.cells #[.int .i64 10, .int .i64 0, .int .u64 0, .string ⟨#[]⟩, .int .i64 a] 27) = w2 := ⟨_, rfl⟩
  have b2 : Below w.heap.size w w2 := by rw [← hw2]; exact b1.trans ((Below.refl _ w1).alloc (by omega) _)
  have k2 : CB w2 w.heap.size 27 #[.int .i64 10, .int .i64 n, .int .u64 (num : Nat), .string S, .int .i64 a] := by rw [← hw2]; exact k1.below ((Below.refl _ w1).alloc (Nat.le_refl _) _)
  have u2 : CB w2 (w.heap.size + 1) 27 #[.int .i64 10, .int .i64 0, .int .u64 0, .string ⟨#[]⟩, .int .i64 a] := by rw [← s1, ← hw2]; exact CB.new w1 _ _
  have d0 : w2.cell? ⟨w.heap.size, 0, none⟩ = some (.int .i64 10) := k2.at_ 0
  have d1 : w2.cell? ⟨w.heap.size, 1, none⟩ = some (.int .i64 n) := k2.at_ 1
  have d2 : w2.cell? ⟨w.heap.size, 2, none⟩ = some (.int .u64 (num : Nat)) := k2.at_ 2
  have d3 : w2.cell? ⟨w.heap.size, 3, none⟩ = some (.string S) := k2.at_ 3
  have d4 : w2.cell? ⟨w.heap.size, 4, none⟩ = some (.int .i64 a) := k2.at_ 4
  have g0 : w2.cell? ⟨w.heap.size + 1, 0, none⟩ = some (.int .i64 10) := u2.at_ 0
  have g1 : w2.cell? ⟨w.heap.size + 1, 1, none⟩ = some (.int .i64 0) := u2.at_ 1
  have g2 : w2.cell? ⟨w.heap.size + 1, 2, none⟩ = some (.int .u64 0) := u2.at_ 2
  have g3 : w2.cell? ⟨w.heap.size + 1, 3, none⟩ = some (.string ⟨#[]⟩) := u2.at_ 3
  have g4 : w2.cell? ⟨w.heap.size + 1, 4, none⟩ = some (.int .i64 a) := u2.at_ 4
  clear k1 k2 u2 b1
  go_enter Tryd.func42, Tryd.ntmps42
  go_wp2
  by_cases hn : n = 0
  · subst hn
    by_cases hnum : num = 0
    · subst hnum
      by_cases ht : t = []
      · subst ht
        obtain rfl : S = ⟨#[]⟩ := hS.symm
        go_quiet (fail)
        go_wp2
        refine bodyPost_ret (v := .tuple #[.int .i64 2, .bool true]) (results_2 rfl _ _ _ _ rfl rfl) rfl ⟨2, true, rfl, Below.thenN b2 _, ?_, ?_⟩
        · exact fun _ => ⟨2, rfl, rfl⟩
        · exact nofun
      · have zl : (S.toList == ([] : List UInt8)) = false := by rw [← hS, ByteArray.toList_eq]; exact beq_eq_false_iff_ne.2 (by simpa [str] using ht)
        go_quiet (fail)
        go_wp2
        refine bodyPost_ret (v := .tuple #[.int .i64 2, .bool false]) (results_2 rfl _ _ _ _ rfl rfl) rfl ⟨2, false, rfl, Below.thenN b2 _, ?_, ?_⟩
        · exact nofun
        · intro _; unfold arity; dsimp only; rw [if_neg (by decide), if_neg (by decide), if_neg (by decide), if_neg ?_]; simp only [not_and]; intros; first | contradiction | omega | simp_all
    · have znum : ((num : Int) == 0) = false := beq_eq_false_iff_ne.2 (by omega)
      go_quiet (fail)
      go_wp2
      refine bodyPost_ret (v := .tuple #[.int .i64 2, .bool false]) (results_2 rfl _ _ _ _ rfl rfl) rfl ⟨2, false, rfl, Below.thenN b2 _, ?_, ?_⟩
      · exact nofun
      · intro _; unfold arity; dsimp only; rw [if_neg (by decide), if_neg (by decide), if_neg (by decide), if_neg ?_]; simp only [not_and]; intros; first | contradiction | omega | simp_all
  · have zn : (n == 0) = false := beq_eq_false_iff_ne.2 hn
    go_quiet (fail)
    go_wp2
    refine bodyPost_ret (v := .tuple #[.int .i64 2, .bool false]) (results_2 rfl _ _ _ _ rfl rfl) rfl ⟨2, false, rfl, Below.thenN b2 _, ?_, ?_⟩
    · exact nofun
    · intro _; unfold arity; dsimp only; rw [if_neg (by decide), if_neg (by decide), if_neg (by decide), if_neg ?_]; simp only [not_and]; intros; first | contradiction | omega | simp_all

set_option maxRecDepth 100000 in
set_option maxHeartbeats 4000000 in
theorem kids11_any (w : World) (n : Int) (num : Nat) (t : List UInt8) (a : Int) : Calls Tryd.prog 42 #[.agg #[.int .i64 11, .int .i64 n, .int .u64 (num : Nat), .string (str t), .int .i64 a]] w (KidsAt ⟨11, n, num, t, a⟩ w) := by
  obtain ⟨S, hS⟩ : ∃ S, str t = S := ⟨_, rfl⟩
  rw [hS]
  obtain ⟨w1, hw1⟩ : ∃ w1, w.alloc (.cells #[.int .i64 11, .int .i64 n, .int .u64 (num : Nat), .string S, .int .i64 a] 27) = w1 := ⟨_, rfl⟩
  have b1 : Below w.heap.size w w1 := by rw [← hw1]; exact (Below.refl _ w).alloc (Nat.le_refl _) _
  have k1 : CB w1 w.heap.size 27 #[.int .i64 11, .int .i64 n, .int .u64 (num : Nat), .string S, .int .i64 a] := by rw [← hw1]; exact CB.new w _ _
  have s1 : w1.heap.size = w.heap.size + 1 := by rw [← hw1]; simp
  have c0 : w1.cell? ⟨w.heap.size, 0, none⟩ = some (.int .i64 11) := k1.at_ 0
  have c1 : w1.cell? ⟨w.heap.size, 1, none⟩ = some (.int .i64 n) := k1.at_ 1
  have c2 : w1.cell? ⟨w.heap.size, 2, none⟩ = some (.int .u64 (num : Nat)) := k1.at_ 2
  have c3 : w1.cell? ⟨w.heap.size, 3, none⟩ = some (.string S) := k1.at_ 3
  have c4 : w1.cell? ⟨w.heap.size, 4, none⟩ = some (.int .i64 a) := k1.at_ 4
  obtain ⟨w2, hw2⟩ : ∃ w2, w1.alloc (.cells #[.int .i64 11, .int .i64 0, .int .u64 0, .string ⟨#[]⟩, .int .i64 a] 27) = w2 := ⟨_, rfl⟩
  have b2 : Below w.heap.size w w2 := by rw [← hw2]; exact b1.trans ((Below.refl _ w1).alloc (by omega) _)
  have k2 : CB w2 w.heap.size 27 #[.int .i64 11, .int .i64 n, .int .u64 (num : Nat), .string S, .int .i64 a] := by rw [← hw2]; exact k1.below ((Below.refl _ w1).alloc (Nat.le_refl _) _)
  have u2 : CB w2 (w.heap.size + 1) 27 #[.int .i64 11, .int .i64 0, .int .u64 0, .string ⟨#[]⟩, .int .i64 a] := by rw [← s1, ← hw2]; exact CB.new w1 _ _
  have d0 : w2.cell? ⟨w.heap.size, 0, none⟩ = some (.int .i64 11) := k2.at_ 0
  have d1 : w2.cell? ⟨w.heap.size, 1, none⟩ = some (.int .i64 n) := k2.at_ 1
  have d2 : w2.cell? ⟨w.heap.size, 2, none⟩ = some (.int .u64 (num : Nat)) := k2.at_ 2
  have d3 : w2.cell? ⟨w.heap.size, 3, none⟩ = some (.string S) := k2.at_ 3
  have d4 : w2.cell? ⟨w.heap.size, 4, none⟩ = some (.int .i64 a) := k2.at_ 4
  have g0 : w2.cell? ⟨w.heap.size + 1, 0, none⟩ = some (.int .i64 11) := u2.at_ 0
  have g1 : w2.cell? ⟨w.heap.size + 1, 1, none⟩ = some (.int .i64 0) := u2.at_ 1
  have g2 : w2.cell? ⟨w.heap.size + 1, 2, none⟩ = some (.int .u64 0) := u2.at_ 2
  have g3 : w2.cell? ⟨w.heap.size + 1, 3, none⟩ = some (.string ⟨#[]⟩) := u2.at_ 3
  have g4 : w2.cell? ⟨w.heap.size + 1, 4, none⟩ = some (.int .i64 a) := u2.at_ 4
  clear k1 k2 u2 b1
  go_enter Tryd.func42, Tryd.ntmps42
  go_wp2
  by_cases hn : n = 0
  · subst hn
    by_cases hnum : num = 0
    · subst hnum
      by_cases ht : t = []
      · subst ht
        obtain rfl : S = ⟨#[]⟩ := hS.symm
        go_quiet (fail)
        go_wp2
        refine bodyPost_ret (v := .tuple #[.int .i64 1, .bool true]) (results_2 rfl _ _ _ _ rfl rfl) rfl ⟨1, true, rfl, Below.thenN b2 _, ?_, ?_⟩
        · exact fun _ => ⟨1, rfl, rfl⟩
        · exact nofun
      · have zl : (S.toList == ([] : List UInt8)) = false := by rw [← hS, ByteArray.toList_eq]; exact beq_eq_false_iff_ne.2 (by simpa [str] using ht)
        go_quiet (fail)
        go_wp2
        refine bodyPost_ret (v := .tuple #[.int .i64 1, .bool false]) (results_2 rfl _ _ _ _ rfl rfl) rfl ⟨1, false, rfl, Below.thenN b2 _, ?_, ?_⟩
        · exact nofun
        · intro _; unfold arity; dsimp only; rw [if_neg (by decide), if_neg (by decide), if_neg (by decide), if_neg ?_]; simp only [not_and]; intros; first | contradiction | omega | simp_all
    · have znum : ((num : Int) == 0) = false := beq_eq_false_iff_ne.2 (by omega)
      go_quiet (fail)
      go_wp2
      refine bodyPost_ret (v := .tuple #[.int .i64 1, .bool false]) (results_2 rfl _ _ _ _ rfl rfl) rfl ⟨1, false, rfl, Below.thenN b2 _, ?_, ?_⟩
      · exact nofun
      · intro _; unfold arity; dsimp only; rw [if_neg (by decide), if_neg (by decide), if_neg (by decide), if_neg ?_]; simp only [not_and]; intros; first | contradiction | omega | simp_all
  · have zn : (n == 0) = false := beq_eq_false_iff_ne.2 hn
    go_quiet (fail)
    go_wp2
    refine bodyPost_ret (v := .tuple #[.int .i64 1, .bool false]) (results_2 rfl _ _ _ _ rfl rfl) rfl ⟨1, false, rfl, Below.thenN b2 _, ?_, ?_⟩
    · exact nofun
    · intro _; unfold arity; dsimp only; rw [if_neg (by decide), if_neg (by decide), if_neg (by decide), if_neg ?_]; simp only [not_and]; intros; first | contradiction | omega | simp_all

set_option maxRecDepth 100000 in
set_option maxHeartbeats 4000000 in
theorem kids12_any (w : World) (n : Int) (num : Nat) (t : List UInt8) (a : Int) : Calls Tryd.prog 42 #[.agg #[.int .i64 12, .int .i64 n, .int .u64 (num : Nat), .string (str t), .int .i64 a]] w (KidsAt ⟨12, n, num, t, a⟩ w) := by
  obtain ⟨S, hS⟩ : ∃ S, str t = S := ⟨_, rfl⟩
  rw [hS]
  obtain ⟨w1, hw1⟩ : ∃ w1, w.alloc (.cells #[.int .i64 12, .int .i64 n, .int .u64 (num : Nat), .string S, .int .i64 a] 27) = w1 := ⟨_, rfl⟩
  have b1 : Below w.heap.size w w1 := by rw [← hw1]; exact (Below.refl _ w).alloc (Nat.le_refl _) _
  have k1 : CB w1 w.heap.size 27 #[.int .i64 12, .int .i64 n, .int .u64 (num : Nat), .string S, .int .i64 a] := by rw [← hw1]; exact CB.new w _ _
  have s1 : w1.heap.size = w.heap.size + 1 := by rw [← hw1]; simp
  have c0 : w1.cell? ⟨w.heap.size, 0, none⟩ = some (.int .i64 12) := k1.at_ 0
  have c1 : w1.cell? ⟨w.heap.size, 1, none⟩ = some (.int .i64 n) := k1.at_ 1
  have c2 : w1.cell? ⟨w.heap.size, 2, none⟩ = some (.int .u64 (num : Nat)) := k1.at_ 2
  have c3 : w1.cell? ⟨w.heap.size, 3, none⟩ = some (.string S) := k1.at_ 3
  have c4 : w1.cell? ⟨w.heap.size, 4, none⟩ = some (.int .i64 a) := k1.at_ 4
  obtain ⟨w2, hw2⟩ : ∃ w2, w1.alloc (.cells #[.int .i64 12, .int .i64 0, .int .u64 0, .string ⟨#[]⟩, .int .i64 a] 27) = w2 := ⟨_, rfl⟩
  have b2 : Below w.heap.size w w2 := by rw [← hw2]; exact b1.trans ((Below.refl _ w1).alloc (by omega) _)
  have k2 : CB w2 w.heap.size 27 #[.int .i64 12, .int .i64 n, .int .u64 (num : Nat), .string S, .int .i64 a] := by rw [← hw2]; exact k1.below ((Below.refl _ w1).alloc (Nat.le_refl _) _)
  have u2 : CB w2 (w.heap.size + 1) 27 #[.int .i64 12, .int .i64 0, .int .u64 0, .string ⟨#[]⟩, .int .i64 a] := by rw [← s1, ← hw2]; exact CB.new w1 _ _
  have d0 : w2.cell? ⟨w.heap.size, 0, none⟩ = some (.int .i64 12) := k2.at_ 0
  have d1 : w2.cell? ⟨w.heap.size, 1, none⟩ = some (.int .i64 n) := k2.at_ 1
  have d2 : w2.cell? ⟨w.heap.size, 2, none⟩ = some (.int .u64 (num : Nat)) := k2.at_ 2
  have d3 : w2.cell? ⟨w.heap.size, 3, none⟩ = some (.string S) := k2.at_ 3
  have d4 : w2.cell? ⟨w.heap.size, 4, none⟩ = some (.int .i64 a) := k2.at_ 4
  have g0 : w2.cell? ⟨w.heap.size + 1, 0, none⟩ = some (.int .i64 12) := u2.at_ 0
  have g1 : w2.cell? ⟨w.heap.size + 1, 1, none⟩ = some (.int .i64 0) := u2.at_ 1
  have g2 : w2.cell? ⟨w.heap.size + 1, 2, none⟩ = some (.int .u64 0) := u2.at_ 2
  have g3 : w2.cell? ⟨w.heap.size + 1, 3, none⟩ = some (.string ⟨#[]⟩) := u2.at_ 3
  have g4 : w2.cell? ⟨w.heap.size + 1, 4, none⟩ = some (.int .i64 a) := u2.at_ 4
  clear k1 k2 u2 b1
  go_enter Tryd.func42, Tryd.ntmps42
  go_wp2
  by_cases hn : n = 0
  · subst hn
    by_cases hnum : num = 0
    · subst hnum
      by_cases ht : t = []
      · subst ht
        obtain rfl : S = ⟨#[]⟩ := hS.symm
        go_quiet (fail)
        go_wp2
        refine bodyPost_ret (v := .tuple #[.int .i64 1, .bool true]) (results_2 rfl _ _ _ _ rfl rfl) rfl ⟨1, true, rfl, Below.thenN b2 _, ?_, ?_⟩
        · exact fun _ => ⟨1, rfl, rfl⟩
        · exact nofun
      · have zl : (S.toList == ([] : List UInt8)) = false := by rw [← hS, ByteArray.toList_eq]; exact beq_eq_false_iff_ne.2 (by simpa [str] using ht)
        go_quiet (fail)
        go_wp2
        refine bodyPost_ret (v := .tuple #[.int .i64 1, .bool false]) (results_2 rfl _ _ _ _ rfl rfl) rfl ⟨1, false, rfl, Below.thenN b2 _, ?_, ?_⟩
        · exact nofun
        · intro _; unfold arity; dsimp only; rw [if_neg (by decide), if_neg (by decide), if_neg (by decide), if_neg ?_]; simp only [not_and]; intros; first | contradiction | omega | simp_all
    · have znum : ((num : Int) == 0) = false := beq_eq_false_iff_ne.2 (by omega)
      go_quiet (fail)
      go_wp2
      refine bodyPost_ret (v := .tuple #[.int .i64 1, .bool false]) (results_2 rfl _ _ _ _ rfl rfl) rfl ⟨1, false, rfl, Below.thenN b2 _, ?_, ?_⟩
      · exact nofun
      · intro _; unfold arity; dsimp only; rw [if_neg (by decide), if_neg (by decide), if_neg (by decide), if_neg ?_]; simp only [not_and]; intros; first | contradiction | omega | simp_all
  · have zn : (n == 0) = false := beq_eq_false_iff_ne.2 hn
    go_quiet (fail)
    go_wp2
    refine bodyPost_ret (v := .tuple #[.int .i64 1, .bool false]) (results_2 rfl _ _ _ _ rfl rfl) rfl ⟨1, false, rfl, Below.thenN b2 _, ?_, ?_⟩
    · exact nofun
    · intro _; unfold arity; dsimp only; rw [if_neg (by decide), if_neg (by decide), if_neg (by decide), if_neg ?_]; simp only [not_and]; intros; first | contradiction | omega | simp_all

set_option maxRecDepth 100000 in
set_option maxHeartbeats 4000000 in
theorem kids9_any (w : World) (n : Int) (num : Nat) (t : List UInt8) (a : Int) (h1 : 1 ≤ n) : Calls Tryd.prog 42 #[.agg #[.int .i64 9, .int .i64 n, .int .u64 (num : Nat), .string (str t), .int .i64 a]] w (KidsAt ⟨9, n, num, t, a⟩ w) := by
  obtain ⟨S, hS⟩ : ∃ S, str t = S := ⟨_, rfl⟩
  rw [hS]
  obtain ⟨w1, hw1⟩ : ∃ w1, w.alloc (.cells #[.int .i64 9, .int .i64 n, .int .u64 (num : Nat), .string S, .int .i64 a] 27) = w1 := ⟨_, rfl⟩
  have b1 : Below w.heap.size w w1 := by rw [← hw1]; exact (Below.refl _ w).alloc (Nat.le_refl _) _
  have k1 : CB w1 w.heap.size 27 #[.int .i64 9, .int .i64 n, .int .u64 (num : Nat), .string S, .int .i64 a] := by rw [← hw1]; exact CB.new w _ _
  have s1 : w1.heap.size = w.heap.size + 1 := by rw [← hw1]; simp
  have c0 : w1.cell? ⟨w.heap.size, 0, none⟩ = some (.int .i64 9) := k1.at_ 0
  have c1 : w1.cell? ⟨w.heap.size, 1, none⟩ = some (.int .i64 n) := k1.at_ 1
  have c2 : w1.cell? ⟨w.heap.size, 2, none⟩ = some (.int .u64 (num : Nat)) := k1.at_ 2
  have c3 : w1.cell? ⟨w.heap.size, 3, none⟩ = some (.string S) := k1.at_ 3
  have c4 : w1.cell? ⟨w.heap.size, 4, none⟩ = some (.int .i64 a) := k1.at_ 4
  obtain ⟨w2, hw2⟩ : ∃ w2, w1.alloc (.cells #[.int .i64 9, .int .i64 n, .int .u64 0, .string ⟨#[]⟩, .int .i64 a] 27) = w2 := ⟨_, rfl⟩
  have b2 : Below w.heap.size w w2 := by rw [← hw2]; exact b1.trans ((Below.refl _ w1).alloc (by omega) _)
  have k2 : CB w2 w.heap.size 27 #[.int .i64 9, .int .i64 n, .int .u64 (num : Nat), .string S, .int .i64 a] := by rw [← hw2]; exact k1.below ((Below.refl _ w1).alloc (Nat.le_refl _) _)
  have u2 : CB w2 (w.heap.size + 1) 27 #[.int .i64 9, .int .i64 n, .int .u64 0, .string ⟨#[]⟩, .int .i64 a] := by rw [← s1, ← hw2]; exact CB.new w1 _ _
  have d0 : w2.cell? ⟨w.heap.size, 0, none⟩ = some (.int .i64 9) := k2.at_ 0
  have d1 : w2.cell? ⟨w.heap.size, 1, none⟩ = some (.int .i64 n) := k2.at_ 1
  have d2 : w2.cell? ⟨w.heap.size, 2, none⟩ = some (.int .u64 (num : Nat)) := k2.at_ 2
  have d3 : w2.cell? ⟨w.heap.size, 3, none⟩ = some (.string S) := k2.at_ 3
  have d4 : w2.cell? ⟨w.heap.size, 4, none⟩ = some (.int .i64 a) := k2.at_ 4
  have g0 : w2.cell? ⟨w.heap.size + 1, 0, none⟩ = some (.int .i64 9) := u2.at_ 0
  have g1 : w2.cell? ⟨w.heap.size + 1, 1, none⟩ = some (.int .i64 n) := u2.at_ 1
  have g2 : w2.cell? ⟨w.heap.size + 1, 2, none⟩ = some (.int .u64 0) := u2.at_ 2
  have g3 : w2.cell? ⟨w.heap.size + 1, 3, none⟩ = some (.string ⟨#[]⟩) := u2.at_ 3
  have g4 : w2.cell? ⟨w.heap.size + 1, 4, none⟩ = some (.int .i64 a) := u2.at_ 4
  clear k1 k2 u2 b1
  go_enter Tryd.func42, Tryd.ntmps42
  go_wp2
  by_cases hnum : num = 0
  · subst hnum
    by_cases ht : t = []
    · subst ht
      obtain rfl : S = ⟨#[]⟩ := hS.symm
      go_quiet (fail)
      go_wp2
      refine bodyPost_ret (v := .tuple #[.int .i64 n, .bool true]) (results_2 rfl _ _ _ _ rfl rfl) rfl ⟨n, true, rfl, Below.thenN b2 _, ?_, ?_⟩
      · exact fun _ => ⟨n.toNat, by omega, by unfold arity; dsimp only; rw [if_neg (by decide), if_neg (by decide), if_pos rfl, if_pos ⟨h1, rfl, rfl⟩]⟩
      · exact nofun
    · have zl : (S.toList == ([] : List UInt8)) = false := by rw [← hS, ByteArray.toList_eq]; exact beq_eq_false_iff_ne.2 (by simpa [str] using ht)
      go_quiet (fail)
      go_wp2
      refine bodyPost_ret (v := .tuple #[.int .i64 n, .bool false]) (results_2 rfl _ _ _ _ rfl rfl) rfl ⟨n, false, rfl, Below.thenN b2 _, ?_, ?_⟩
      · exact nofun
      · intro _; unfold arity; dsimp only; rw [if_neg (by decide), if_neg (by decide), if_pos rfl, if_neg ?_]; simp only [not_and]; intros; first | contradiction | omega | simp_all
  · have znum : ((num : Int) == 0) = false := beq_eq_false_iff_ne.2 (by omega)
    go_quiet (fail)
    go_wp2
    refine bodyPost_ret (v := .tuple #[.int .i64 n, .bool false]) (results_2 rfl _ _ _ _ rfl rfl) rfl ⟨n, false, rfl, Below.thenN b2 _, ?_, ?_⟩
    · exact nofun
    · intro _; unfold arity; dsimp only; rw [if_neg (by decide), if_neg (by decide), if_pos rfl, if_neg ?_]; simp only [not_and]; intros; first | contradiction | omega | simp_all

set_option maxRecDepth 100000 in
set_option maxHeartbeats 4000000 in
theorem kids9n_any (w : World) (n : Int) (num : Nat) (t : List UInt8) (a : Int) (h1 : ¬ 1 ≤ n) : Calls Tryd.prog 42 #[.agg #[.int .i64 9, .int .i64 n, .int .u64 (num : Nat), .string (str t), .int .i64 a]] w (KidsAt ⟨9, n, num, t, a⟩ w) := by
  obtain ⟨S, hS⟩ : ∃ S, str t = S := ⟨_, rfl⟩
  rw [hS]
  obtain ⟨w1, hw1⟩ : ∃ w1, w.alloc (.cells #[.int .i64 9, .int .i64 n, .int .u64 (num : Nat), .string S, .int .i64 a] 27) = w1 := ⟨_, rfl⟩
  have b1 : Below w.heap.size w w1 := by rw [← hw1]; exact (Below.refl _ w).alloc (Nat.le_refl _) _
  have k1 : CB w1 w.heap.size 27 #[.int .i64 9, .int .i64 n, .int .u64 (num : Nat), .string S, .int .i64 a] := by rw [← hw1]; exact CB.new w _ _
  have s1 : w1.heap.size = w.heap.size + 1 := by rw [← hw1]; simp
  have c0 : w1.cell? ⟨w.heap.size, 0, none⟩ = some (.int .i64 9) := k1.at_ 0
  have c1 : w1.cell? ⟨w.heap.size, 1, none⟩ = some (.int .i64 n) := k1.at_ 1
  have c4 : w1.cell? ⟨w.heap.size, 4, none⟩ = some (.int .i64 a) := k1.at_ 4
  obtain ⟨w2, hw2⟩ : ∃ w2, w1.alloc (.cells #[.int .i64 9, .int .i64 n, .int .u64 0, .string ⟨#[]⟩, .int .i64 a] 27) = w2 := ⟨_, rfl⟩
  have b2 : Below w.heap.size w w2 := by rw [← hw2]; exact b1.trans ((Below.refl _ w1).alloc (by omega) _)
  have k2 : CB w2 w.heap.size 27 #[.int .i64 9, .int .i64 n, .int .u64 (num : Nat), .string S, .int .i64 a] := by rw [← hw2]; exact k1.below ((Below.refl _ w1).alloc (Nat.le_refl _) _)
  have d1 : w2.cell? ⟨w.heap.size, 1, none⟩ = some (.int .i64 n) := k2.at_ 1
  have hlt : n < 1 := by omega
  clear k1 k2 b1
  go_enter Tryd.func42, Tryd.ntmps42
  go_wp2
  refine bodyPost_ret (v := .tuple #[.int .i64 0, .bool false]) (results_2 rfl _ _ _ _ rfl rfl) rfl ⟨0, false, rfl, b2, nofun, ?_⟩
  intro _
  unfold arity
  dsimp only
  rw [if_neg (by decide), if_neg (by decide), if_pos rfl, if_neg (fun k => absurd k.1 (by omega))]

set_option maxRecDepth 100000 in
set_option maxHeartbeats 4000000 in
theorem kidsN_any (w : World) (op n : Int) (num : Nat) (t : List UInt8) (a : Int) (h : ¬ (1 ≤ op ∧ op ≤ 12)) : Calls Tryd.prog 42 #[.agg #[.int .i64 op, .int .i64 n, .int .u64 (num : Nat), .string (str t), .int .i64 a]] w (KidsAt ⟨op, n, num, t, a⟩ w) := by
  obtain ⟨S, hS⟩ : ∃ S, str t = S := ⟨_, rfl⟩
  rw [hS]
  obtain ⟨w1, hw1⟩ : ∃ w1, w.alloc (.cells #[.int .i64 op, .int .i64 n, .int .u64 (num : Nat), .string S, .int .i64 a] 27) = w1 := ⟨_, rfl⟩
  have b1 : Below w.heap.size w w1 := by rw [← hw1]; exact (Below.refl _ w).alloc (Nat.le_refl _) _
  have k1 : CB w1 w.heap.size 27 #[.int .i64 op, .int .i64 n, .int .u64 (num : Nat), .string S, .int .i64 a] := by rw [← hw1]; exact CB.new w _ _
  have s1 : w1.heap.size = w.heap.size + 1 := by rw [← hw1]; simp
  have c0 : w1.cell? ⟨w.heap.size, 0, none⟩ = some (.int .i64 op) := k1.at_ 0
  have c4 : w1.cell? ⟨w.heap.size, 4, none⟩ = some (.int .i64 a) := k1.at_ 4
  obtain ⟨w2, hw2⟩ : ∃ w2, w1.alloc (.cells #[.int .i64 op, .int .i64 0, .int .u64 0, .string ⟨#[]⟩, .int .i64 a] 27) = w2 := ⟨_, rfl⟩
  have b2 : Below w.heap.size w w2 := by rw [← hw2]; exact b1.trans ((Below.refl _ w1).alloc (by omega) _)
  have k2 : CB w2 w.heap.size 27 #[.int .i64 op, .int .i64 n, .int .u64 (num : Nat), .string S, .int .i64 a] := by rw [← hw2]; exact k1.below ((Below.refl _ w1).alloc (Nat.le_refl _) _)
  have d0 : w2.cell? ⟨w.heap.size, 0, none⟩ = some (.int .i64 op) := k2.at_ 0
  have q : ∀ k : Int, 1 ≤ k → k ≤ 12 → (op == k) = false := fun k h1 h2 => beq_eq_false_iff_ne.2 (by omega)
  have q1 := q 1 (by decide) (by decide)
  have q2 := q 2 (by decide) (by decide)
  have q3 := q 3 (by decide) (by decide)
  have q4 := q 4 (by decide) (by decide)
  have q5 := q 5 (by decide) (by decide)
  have q6 := q 6 (by decide) (by decide)
  have q7 := q 7 (by decide) (by decide)
  have q8 := q 8 (by decide) (by decide)
  have q9 := q 9 (by decide) (by decide)
  have q10 := q 10 (by decide) (by decide)
  have q11 := q 11 (by decide) (by decide)
  have q12 := q 12 (by decide) (by decide)
  clear k1 k2 b1 q
  go_enter Tryd.func42, Tryd.ntmps42
  go_wp2
  refine bodyPost_ret (v := .tuple #[.int .i64 0, .bool false]) (results_2 rfl _ _ _ _ rfl rfl) rfl ⟨0, false, rfl, b2, nofun, ?_⟩
  intro _
  unfold arity
  dsimp only
  rw [if_neg (by omega), if_neg (by omega), if_neg (by omega)]
  split
  · rw [if_neg (by omega), if_neg (by omega), if_neg (by omega)]
  · rfl

theorem kidsOf_any (w : World) (x : Rn) : Calls Tryd.prog 42 #[.agg #[.int .i64 x.op, .int .i64 x.n, .int .u64 (x.num : Nat), .string (str x.t), .int .i64 x.a]] w (KidsAt x w) := by
  obtain ⟨op, n, num, t, a⟩ := x
  by_cases h : 1 ≤ op ∧ op ≤ 12
  · have hc : op = 1 ∨ op = 2 ∨ op = 3 ∨ op = 4 ∨ op = 5 ∨ op = 6 ∨ op = 7 ∨ op = 8 ∨ op = 9 ∨ op = 10 ∨ op = 11 ∨ op = 12 := by omega
    rcases hc with rfl | rfl | rfl | rfl | rfl | rfl | rfl | rfl | rfl | rfl | rfl | rfl
    · exact kids1_any w n num t a
    · exact kids2_any w n num t a
    · exact kids3_any w n num t a
    · exact kids4_any w n num t a
    · exact kids5_any w n num t a
    · exact kids6_any w n num t a
    · exact kids7_any w n num t a
    · exact kids8_any w n num t a
    · by_cases h1 : 1 ≤ n
      · exact kids9_any w n num t a h1
      · exact kids9n_any w n num t a h1
    · exact kids10_any w n num t a
    · exact kids11_any w n num t a
    · exact kids12_any w n num t a
  · exact kidsN_any w op n num t a h
end Go.Proofs.YtmbiompmhaiehaaDoor
