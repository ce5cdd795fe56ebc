/- The walks of the reference's small functions: kinds, From, To, Between, Sure, digits. -/
import Derived.Test.YtijgcfnjbfaelaaDoorConvPure
import Derived.Test.YtijgcfnjbfaelaaDoorUtfRPut
import Derived.Great.BuildSlice
import Derived.Deep.QuietTactic
import Derived.BigQuiet
namespace Go.Proofs.YtijgcfnjbfaelaaDoor
open Go.RowKit

theorem out12 {n : Int} (h : ¬ (1 ≤ n ∧ n ≤ 12)) : cfr n = 0 ∧ cto n = 0 := by
  unfold cfr cto
  refine ⟨?_, ?_⟩ <;> (repeat rw [if_neg (by omega)])
set_option maxRecDepth 100000 in
set_option maxHeartbeats 2000000 in
theorem rkinds_any (w : World) (n : Int) : Calls Tryd.prog 31 #[.int .i64 n] w fun e w' => e = .returned (.tuple #[.int .i64 (cfr n), .int .i64 (cto n)]) ∧ Below w.heap.size w w' := by
  by_cases h : 1 ≤ n ∧ n ≤ 12
  · obtain ⟨k, rfl⟩ : ∃ k : Nat, n = (k : Int) := ⟨n.toNat, by omega⟩
    obtain ⟨V, hV⟩ : ∃ V, cfr (k : Int) = V := ⟨_, rfl⟩
    obtain ⟨U, hU⟩ : ∃ U, cto (k : Int) = U := ⟨_, rfl⟩
    have k0 : (0 : Int) ≤ (k : Int) := by omega
    have k1 : ¬ (k : Int) < 1 := by omega
    have k2 : ¬ 12 < (k : Int) := by omega
    have k3 : (k : Int) < 13 := by omega
    have k4 : k < 13 := by omega
    obtain ⟨W2, hW2⟩ : ∃ W2, W2 = (w.alloc (.cells #[.int .i64 0, .int .i64 1, .int .i64 2, .int .i64 1, .int .i64 2, .int .i64 4, .int .i64 4, .int .i64 3, .int .i64 4, .int .i64 3, .int .i64 1, .int .i64 4, .int .i64 5] 3)).alloc (.cells #[.int .i64 0, .int .i64 2, .int .i64 1, .int .i64 4, .int .i64 4, .int .i64 1, .int .i64 2, .int .i64 4, .int .i64 3, .int .i64 1, .int .i64 3, .int .i64 5, .int .i64 4] 3) := ⟨_, rfl⟩
    have hB : Below w.heap.size w W2 := by rw [hW2]; exact ((Below.refl _ _).alloc (Nat.le_refl _) _).alloc (by simp) _
    have e12 : k = 1 ∨ k = 2 ∨ k = 3 ∨ k = 4 ∨ k = 5 ∨ k = 6 ∨ k = 7 ∨ k = 8 ∨ k = 9 ∨ k = 10 ∨ k = 11 ∨ k = 12 := by omega
    have hA : W2.cell? ⟨w.heap.size, k, none⟩ = some (.int .i64 V) := by
      rw [hW2, cell_of_row _ w.heap.size k #[.int .i64 0, .int .i64 1, .int .i64 2, .int .i64 1, .int .i64 2, .int .i64 4, .int .i64 4, .int .i64 3, .int .i64 4, .int .i64 3, .int .i64 1, .int .i64 4, .int .i64 5] 3 (0, 0) ((heap_alloc_old _ _ (by simp)).trans (heap_alloc_new w _)), ← hV]
      rcases e12 with rfl | rfl | rfl | rfl | rfl | rfl | rfl | rfl | rfl | rfl | rfl | rfl <;> rfl
    have hC : W2.cell? ⟨w.heap.size + 1, k, none⟩ = some (.int .i64 U) := by
      rw [hW2, cell_of_row _ (w.heap.size + 1) k #[.int .i64 0, .int .i64 2, .int .i64 1, .int .i64 4, .int .i64 4, .int .i64 1, .int .i64 2, .int .i64 4, .int .i64 3, .int .i64 1, .int .i64 3, .int .i64 5, .int .i64 4] 3 (0, 0) (by have := heap_alloc_new (w.alloc (.cells #[.int .i64 0, .int .i64 1, .int .i64 2, .int .i64 1, .int .i64 2, .int .i64 4, .int .i64 4, .int .i64 3, .int .i64 4, .int .i64 3, .int .i64 1, .int .i64 4, .int .i64 5] 3)) (.cells #[.int .i64 0, .int .i64 2, .int .i64 1, .int .i64 4, .int .i64 4, .int .i64 1, .int .i64 2, .int .i64 4, .int .i64 3, .int .i64 1, .int .i64 3, .int .i64 5, .int .i64 4] 3); simpa using this), ← hU]
      rcases e12 with rfl | rfl | rfl | rfl | rfl | rfl | rfl | rfl | rfl | rfl | rfl | rfl <;> rfl
    rw [hV, hU]
    have HW := Lib.hid hW2
    clear h hV hU hW2 e12
    go_enter Tryd.func31, Tryd.ntmps31
    go_wp2_with fail
    rw [← HW.out]
    go_quiet (fail)
    go_wp2
    go_ret2
    exact ⟨rfl, hB.trans (Below.newN W2 _ |>.mono hB.size)⟩
  · obtain ⟨e1, e2⟩ := out12 h
    rw [e1, e2]
    clear e1 e2
    by_cases h1 : n < 1
    · clear h
      go_enter Tryd.func31, Tryd.ntmps31
      go_wp2
      go_ret2
      exact ⟨rfl, ((Below.refl _ _).alloc (Nat.le_refl _) _).alloc (by simp) _⟩
    · have h2 : 12 < n := by omega
      clear h
      go_enter Tryd.func31, Tryd.ntmps31
      go_wp2
      go_ret2
      exact ⟨rfl, ((Below.refl _ _).alloc (Nat.le_refl _) _).alloc (by simp) _⟩

set_option maxRecDepth 100000 in
set_option maxHeartbeats 1000000 in
theorem rfrom_any (w : World) (n : Int) : Calls Tryd.prog 16 #[.int .i64 n] w fun e w' => e = .returned (.int .i64 (cfr n)) ∧ Below w.heap.size w w' := by
  go_enter Tryd.func16, Tryd.ntmps16
  go_wp2_with (go_at_call 31; refine (rkinds_any _ n).mono ?_; rintro e w1 ⟨rfl, hb⟩)
  go_ret
  exact ⟨rfl, hb⟩
set_option maxRecDepth 100000 in
set_option maxHeartbeats 1000000 in
theorem rto_any (w : World) (n : Int) : Calls Tryd.prog 18 #[.int .i64 n] w fun e w' => e = .returned (.int .i64 (cto n)) ∧ Below w.heap.size w w' := by
  go_enter Tryd.func18, Tryd.ntmps18
  go_wp2_with (go_at_call 31; refine (rkinds_any _ n).mono ?_; rintro e w1 ⟨rfl, hb⟩)
  go_ret
  exact ⟨rfl, hb⟩

theorem be_at {f t k : Int} (h1 : 1 ≤ k) (h2 : k ≤ 12) (hf : cfr k = f) (ht : cto k = t) : cbe f t = k := by
  rcases twelve h1 h2 with rfl | rfl | rfl | rfl | rfl | rfl | rfl | rfl | rfl | rfl | rfl | rfl <;> (subst hf ht; rfl)
theorem be_none {f t : Int} (h : ∀ k : Int, 1 ≤ k → k ≤ 12 → ¬ (cfr k = f ∧ cto k = t)) : cbe f t = 0 := by
  have q : ∀ k : Int, 1 ≤ k → k ≤ 12 → cfr k = f → cto k = t → False := fun k a b c d => h k a b ⟨c, d⟩
  unfold cbe
  repeat' split
  all_goals first
    | rfl
    | (exfalso; subst_vars; first | exact q 1 (by decide) (by decide) rfl rfl | exact q 2 (by decide) (by decide) rfl rfl | exact q 3 (by decide) (by decide) rfl rfl | exact q 4 (by decide) (by decide) rfl rfl | exact q 5 (by decide) (by decide) rfl rfl | exact q 6 (by decide) (by decide) rfl rfl | exact q 7 (by decide) (by decide) rfl rfl | exact q 8 (by decide) (by decide) rfl rfl | exact q 9 (by decide) (by decide) rfl rfl | exact q 10 (by decide) (by decide) rfl rfl | exact q 11 (by decide) (by decide) rfl rfl | exact q 12 (by decide) (by decide) rfl rfl)
set_option maxRecDepth 100000 in
set_option maxHeartbeats 1000000 in
theorem rbetween_any (w : World) (f t : Int) : Calls Tryd.prog 14 #[.int .i64 f, .int .i64 t] w fun e w' => e = .returned (.int .i64 (cbe f t)) ∧ Below w.heap.size w w' := by
  obtain ⟨V, hV⟩ : ∃ V, cbe f t = V := ⟨_, rfl⟩
  rw [hV]
  have HV := Lib.hid hV
  clear hV
  go_enter Tryd.func14, Tryd.ntmps14
  go_wp2
  go_loopw [5] (fun i wr => ∃ k : Nat, i = .int .i64 k ∧ 1 ≤ k ∧ k ≤ 13 ∧ Below w.heap.size w wr ∧ Hid (∀ j : Int, 1 ≤ j → j < k → ¬ (cfr j = f ∧ cto j = t))) (fun i _ => 13 - (intOf i).toNat)
  case atStart => exact ⟨1, rfl, by omega, by omega, Below.refl _ _, fun j h1 h2 => by omega⟩
  case round =>
    obtain ⟨k, rfl, hk1, hk2, hB, HN⟩ := hrel
    by_cases hk : k ≤ 12
    · have hkz : (k : Int) ≤ 12 := by omega
      have ck := rkinds_any wr (k : Int)
      obtain ⟨a, ha⟩ : ∃ a, cfr (k : Int) = a := ⟨_, rfl⟩
      obtain ⟨b, hb⟩ : ∃ b, cto (k : Int) = b := ⟨_, rfl⟩
      rw [ha, hb] at ck
      have HAB := Lib.hid (And.intro ha hb)
      clear ha hb
      by_cases h1 : a = f
      · by_cases h2 : b = t
        · have HE : Hid (V = (k : Int)) := HV.out.symm.trans (be_at (by omega) hkz (HAB.out.1.trans h1) (HAB.out.2.trans h2))
          subst h1 h2
          go_wp2_with (go_at_call 31; refine ck.mono ?_; rintro e w1 ⟨rfl, hb1⟩)
          go_ret
          exact ⟨HE.out ▸ rfl, hB.trans (hb1.mono hB.size)⟩
        · have hbt : (b == t) = false := by simpa using h2
          subst h1
          go_wp2_with (go_at_call 31; refine ck.mono ?_; rintro e w1 ⟨rfl, hb1⟩)
          go_roundw
          case rel => exact ⟨k + 1, by go_num, by omega, by omega, hB.trans (hb1.mono hB.size), fun j j1 j2 q => by
            rcases Int.lt_or_eq_of_le (show j ≤ (k : Int) by omega) with g | g
            · exact HN.out j j1 g q
            · subst g; exact h2 (HAB.out.2.symm.trans q.2)⟩
          case measure => simp [intOf]; omega
      · have hbt : (a == f) = false := by simpa using h1
        go_wp2_with (go_at_call 31; refine ck.mono ?_; rintro e w1 ⟨rfl, hb1⟩)
        go_roundw
        case rel => exact ⟨k + 1, by go_num, by omega, by omega, hB.trans (hb1.mono hB.size), fun j j1 j2 q => by
          rcases Int.lt_or_eq_of_le (show j ≤ (k : Int) by omega) with g | g
          · exact HN.out j j1 g q
          · subst g; exact h1 (HAB.out.1.symm.trans q.1)⟩
        case measure => simp [intOf]; omega
    · have HE : Hid (V = 0) := HV.out.symm.trans (be_none fun j j1 j2 => HN.out j j1 (by omega))
      go_wp2
      go_ret
      exact ⟨HE.out ▸ rfl, hB⟩

set_option maxRecDepth 100000 in
set_option maxHeartbeats 1000000 in
theorem rsure_any (w : World) (n : Int) : Calls Tryd.prog 20 #[.int .i64 n] w fun e w' => e = .returned (.bool (csu n)) ∧ w = w' := by
  obtain ⟨V, hV⟩ : ∃ V, csu n = V := ⟨_, rfl⟩
  rw [hV]
  have HV := Lib.hid hV
  clear hV
  have q : n = 3 ∨ n = 4 ∨ n = 7 ∨ n = 9 ∨ n = 11 ∨ (n ≠ 3 ∧ n ≠ 4 ∧ n ≠ 7 ∧ n ≠ 9 ∧ n ≠ 11) := by omega
  rcases q with rfl | rfl | rfl | rfl | rfl | ⟨a, b, c, d, f⟩
  case' inr.inr.inr.inr.inr => have a' : (n == 3) = false := by simpa using a
  case' inr.inr.inr.inr.inr => have b' : (n == 4) = false := by simpa using b
  case' inr.inr.inr.inr.inr => have c' : (n == 7) = false := by simpa using c
  case' inr.inr.inr.inr.inr => have d' : (n == 9) = false := by simpa using d
  case' inr.inr.inr.inr.inr => have f' : (n == 11) = false := by simpa using f
  all_goals
    go_enter Tryd.func20, Tryd.ntmps20
    go_wp2
    go_ret
    exact ⟨ret_bool (by rw [← HV.out]; unfold csu; simp [*]), rfl⟩

/-- one digit as a text -/
theorem run_digit (W : World) (d : Nat) (hd : d < 10) (z : Int) (hz : z = 48 + (d : Int)) :
    ∃ S, (convert 40 9 (.slice (some ⟨W.heap.size, 0, none⟩) 1 1)).run Tryd.prog (W.alloc (.cells #[.int .u8 z] 5)) = .ok (.string S) (W.alloc (.cells #[.int .u8 z] 5)) ∧ ls S = [(48 + d).toUInt8] := by
  subst hz
  exact ⟨_, run_text (l := [(48 + d).toUInt8]) 1 (Byt.made W #[.int .u8 (48 + (d : Int))] [(48 + d).toUInt8] (by simp only [Lib.byteCells, List.map_cons, List.map_nil, d8 hd]; simp) 5), rfl⟩
set_option maxRecDepth 100000 in
set_option maxHeartbeats 2000000 in
theorem rdigits_any (w : World) (n : Nat) (hn : n < 18446744073709551616) : Calls Tryd.prog 59 #[.int .u64 n] w fun e w' => e = .returned (.string (tx (dg n))) ∧ Below w.heap.size w w' := by
  have HL := Lib.hid (dg_len64 hn)
  obtain ⟨S0, c0, hS0⟩ := run_digit w (n % 10) (by omega) (48 + (n : Int) % 10) (by omega)
  have HS : Hid ((n < 10 → dg n = ls S0) ∧ (¬ n < 10 → dg n = dg (n / 10) ++ ls S0)) := ⟨fun h => by rw [hS0, dg_small h, Nat.mod_eq_of_lt h], fun h => by rw [hS0]; exact dg_big h⟩
  obtain ⟨D, hD⟩ : ∃ D, dg n = D := ⟨_, rfl⟩
  rw [hD] at HS HL ⊢
  clear hD hS0
  go_enter Tryd.func59, Tryd.ntmps59
  go_wp2
  go_loopw [0, 3] (fun nv sv wr => ∃ (m : Nat) (S : ByteArray), nv = .int .u64 m ∧ sv = .string S ∧ m ≤ n ∧ Below w.heap.size w wr ∧ Hid ((m < 10 → D = ls S) ∧ (¬ m < 10 → D = dg (m / 10) ++ ls S))) (fun nv _ _ => (intOf nv).toNat)
  case atStart => exact ⟨n, S0, rfl, rfl, Nat.le_refl _, (Below.refl _ _).alloc (Nat.le_refl _) _, HS⟩
  case round =>
    clear HS c0
    obtain ⟨m, S, rfl, rfl, hm, hB, HS⟩ := hrel
    by_cases h9 : 9 < m
    · obtain ⟨S1, c1, hS1⟩ := run_digit wr (m / 10 % 10) (by omega) (48 + (m : Int) / 10 % 10) (by omega)
      have hd := HS.out.2 (by omega)
      have hsz : S.size ≤ 21 := by
        have h1 := HL.out
        rw [hd, List.length_append] at h1
        have h2 : (ls S).length = S.size := size_ls S
        omega
      have hs1 : S1.size = 1 := by rw [← size_ls, hS1]; rfl
      have hno : ¬ 9223372036854775807 < S1.size + S.size := by omega
      have HN : Hid ((m / 10 < 10 → D = ls (S1 ++ S)) ∧ (¬ m / 10 < 10 → D = dg (m / 10 / 10) ++ ls (S1 ++ S))) := ⟨fun h => by rw [ls_app, hS1, hd, dg_small h, Nat.mod_eq_of_lt h], fun h => by rw [ls_app, hS1, hd, dg_big h, List.append_assoc]⟩
      clear hd hS1 hs1 hsz
      go_wp2
      go_roundw
      case rel => exact ⟨m / 10, S1 ++ S, by go_num, rfl, by omega, hB.alloc hB.size _, HN⟩
      case measure => simp [intOf]; omega
    · have hd := HS.out.1 (by omega)
      have he : Hid (tx D = S) := by unfold Hid; rw [hd, tx_ls]
      clear hd
      go_wp2
      go_ret
      exact ⟨by rw [he.out]; rfl, hB⟩
end Go.Proofs.YtijgcfnjbfaelaaDoor
