/- The walk of the reference's Order. -/
import Derived.Test.YtcodamhoanfanaaDoorKindLess
namespace Go.Proofs.YtcodamhoanfanaaDoor
open Go.RowKit
open Go.Lib (compareBytes)

theorem two_cells {w w' : World} {a0 a1 a2 b0 b1 b2 : Value} {T : TypeId} (hb : Below ((w.alloc (.cells #[a0, a1, a2] T)).alloc (.cells #[b0, b1, b2] T)).heap.size ((w.alloc (.cells #[a0, a1, a2] T)).alloc (.cells #[b0, b1, b2] T)) w') :
    w'.cell? ⟨w.heap.size, 0, none⟩ = some a0 ∧ w'.cell? ⟨w.heap.size, 1, none⟩ = some a1 ∧ w'.cell? ⟨w.heap.size, 2, none⟩ = some a2 ∧
    w'.cell? ⟨w.heap.size + 1, 0, none⟩ = some b0 ∧ w'.cell? ⟨w.heap.size + 1, 1, none⟩ = some b1 ∧ w'.cell? ⟨w.heap.size + 1, 2, none⟩ = some b2 := by
  have c := (Below.cells hb).1
  have z0 : w.heap.size < ((w.alloc (.cells #[a0, a1, a2] T)).alloc (.cells #[b0, b1, b2] T)).heap.size := by simp; omega
  have z1 : w.heap.size + 1 < ((w.alloc (.cells #[a0, a1, a2] T)).alloc (.cells #[b0, b1, b2] T)).heap.size := by simp
  refine ⟨(c _ _ z0).trans ?_, (c _ _ z0).trans ?_, (c _ _ z0).trans ?_, (c _ _ z1).trans ?_, (c _ _ z1).trans ?_, (c _ _ z1).trans ?_⟩
  all_goals simp [go_sem]

/-- which answer each way through is -/
structure OrdFacts (k k' x x' O : Int) (L : Bool) (S S' : List UInt8) : Prop where
  e1 : k = k' → x = x' → L = true → O = -1
  e2 : k = k' → x = x' → L = false → S = S' → O = 0
  e3 : k = k' → x = x' → L = false → ¬ S = S' → O = 1
  e4 : k = k' → ¬ x = x' → x' ≤ x → O = 1
  e5 : k = k' → x < x' → O = -1
  e6 : ¬ k = k' → k' ≤ k → O = 1
  e7 : k < k' → O = -1
theorem ord_facts (k n k' n' : Int) (s s' : ByteArray) (x x' : Int) (h1 : k = k' → (x < x' ↔ key k n < key k n')) (h2 : k = k' → (x = x' ↔ key k n = key k n')) :
    OrdFacts k k' x x' (ordV ⟨k, n, s⟩ ⟨k', n', s'⟩) (ltB s.data.toList s'.data.toList) s.toList s'.toList := by
  have h3 := ord_three ⟨k, n, s⟩ ⟨k', n', s'⟩
  have hc := cb_three s.data.toList s'.data.toList
  have hO : k = k' → x = x' → ordV ⟨k, n, s⟩ ⟨k', n', s'⟩ = compareBytes s.data.toList s'.data.toList := fun e g => by
    unfold ordV cmpN
    dsimp only
    subst e
    rw [(h2 rfl).1 g]
    rcases ci_three k k with ⟨_, q⟩ | ⟨q, _⟩ | ⟨_, q⟩
    · omega
    · rw [q, if_neg (by simp)]
      rcases ci_three (key k n') (key k n') with ⟨_, q⟩ | ⟨q, _⟩ | ⟨_, q⟩
      · omega
      · rw [q, if_neg (by simp)]
      · omega
    · omega
  rw [Lib.toList_data, Lib.toList_data]
  unfold Ahead Alike at h3
  dsimp only at h3
  obtain ⟨O, hO'⟩ : ∃ O, ordV ⟨k, n, s⟩ ⟨k', n', s'⟩ = O := ⟨_, rfl⟩
  obtain ⟨C, hC⟩ : ∃ C, compareBytes s.data.toList s'.data.toList = C := ⟨_, rfl⟩
  unfold ltB
  rw [hC] at hc hO ⊢
  rw [hO'] at h3 hO ⊢
  refine ⟨fun a b c => ?_, fun a b c d => ?_, fun a b c d => ?_, fun a b c => ?_, fun a b => ?_, fun a b => ?_, fun a => ?_⟩
  · rw [hO a b]; simpa using c
  · rw [hO a b]
    rcases hc with ⟨g, g'⟩ | ⟨g, _⟩ | ⟨g, g'⟩
    · rw [d] at g'; exact absurd g' (ll_irrefl _)
    · exact g
    · rw [d] at g'; exact absurd g' (ll_irrefl _)
  · rw [hO a b]
    rcases hc with ⟨g, _⟩ | ⟨_, g⟩ | ⟨g, _⟩
    · rw [g] at c; simp at c
    · exact absurd g d
    · exact g
  · have q1 := h1 a
    have q2 := h2 a
    rcases h3 with ⟨_, g⟩ | ⟨_, g⟩ | ⟨g, _⟩
    · rcases g with g | ⟨_, g | ⟨g, _⟩⟩ <;> omega
    · omega
    · exact g
  · have q1 := h1 a
    rcases h3 with ⟨g, _⟩ | ⟨_, g⟩ | ⟨_, g⟩
    · exact g
    · omega
    · subst a
      rcases g with g | ⟨_, g | ⟨g, _⟩⟩ <;> omega
  · rcases h3 with ⟨_, g⟩ | ⟨_, g⟩ | ⟨g, _⟩
    · omega
    · omega
    · exact g
  · rcases h3 with ⟨g, _⟩ | ⟨_, g⟩ | ⟨_, g⟩
    · exact g
    · omega
    · omega

set_option maxRecDepth 100000 in
set_option maxHeartbeats 1000000 in
theorem rorder_plain {w0 w : World} (hk : KSt w0 w) (k n k' n' : Int) (s s' : ByteArray) (hs : s.size ≤ 140737488355328) (ht : s'.size ≤ 140737488355328) (h2 : k ≠ 2) :
    Calls Tryd.prog 17 #[.agg #[.int .i64 k, .int .u64 n, .string s], .agg #[.int .i64 k', .int .u64 n', .string s']] w fun e w' => e = .returned (.int .i64 (ordV ⟨k, n, s⟩ ⟨k', n', s'⟩)) ∧ KSt w0 w' := by
  have hf := ord_facts k n k' n' s s' n n' (fun _ => by unfold key; rw [if_neg h2, if_neg h2]) (fun _ => by unfold key; rw [if_neg h2, if_neg h2])
  have c1 := fun (W : World) => less_any W s s' hs ht
  obtain ⟨L, hL⟩ : ∃ L, ltB s.data.toList s'.data.toList = L := ⟨_, rfl⟩
  obtain ⟨O, hO⟩ : ∃ O, ordV ⟨k, n, s⟩ ⟨k', n', s'⟩ = O := ⟨_, rfl⟩
  simp only [hL] at c1
  rw [hL, hO] at hf
  rw [hO]
  have HF := Lib.hid hf
  have k2 := ((hk.new (.cells #[.int .i64 k, .int .u64 n, .string s] 30)).new (.cells #[.int .i64 k', .int .u64 n', .string s'] 30))
  have h2b : (k == 2) = false := by simpa using h2
  clear hL hO hf hs ht
  go_enter Tryd.func17, Tryd.ntmps17
  go_wp2_with (go_at_call 35; refine (c1 _).mono ?_; rintro e w' ⟨rfl, hbl⟩; have k3 := KSt.then_ ((hk.new _).new _) hbl; obtain ⟨c00, c01, c02, c10, c11, c12⟩ := two_cells hbl; clear hbl)
  all_goals
    go_ret
    refine ⟨ret_int (Eq.symm ?_), by first | assumption | exact (hk.new _).new _⟩
    first
      | exact HF.out.e1 (by omega) (by omega) (by assumption)
      | exact HF.out.e2 (by omega) (by omega) (by assumption) (by assumption)
      | exact HF.out.e3 (by omega) (by omega) (by assumption) (by assumption)
      | exact HF.out.e5 (by omega) (by omega)
      | exact HF.out.e4 (by omega) (by omega) (by omega)
      | exact HF.out.e7 (by omega)
      | exact HF.out.e6 (by omega) (by omega)

set_option maxRecDepth 100000 in
set_option maxHeartbeats 1000000 in
theorem rorder_apart {w0 w : World} (hk : KSt w0 w) (n k' n' : Int) (s s' : ByteArray) (h2 : k' ≠ 2) :
    Calls Tryd.prog 17 #[.agg #[.int .i64 2, .int .u64 n, .string s], .agg #[.int .i64 k', .int .u64 n', .string s']] w fun e w' => e = .returned (.int .i64 (ordV ⟨2, n, s⟩ ⟨k', n', s'⟩)) ∧ KSt w0 w' := by
  have hf := ord_facts 2 n k' n' s s' n n' (fun h => absurd h.symm h2) (fun h => absurd h.symm h2)
  obtain ⟨L, hL⟩ : ∃ L, ltB s.data.toList s'.data.toList = L := ⟨_, rfl⟩
  obtain ⟨O, hO⟩ : ∃ O, ordV ⟨2, n, s⟩ ⟨k', n', s'⟩ = O := ⟨_, rfl⟩
  rw [hL, hO] at hf
  rw [hO]
  have HF := Lib.hid hf
  have h2b : (k' == 2) = false := by simpa using h2
  have h2c : ((2 : Int) == k') = false := by simpa using fun h : 2 = k' => h2 h.symm
  clear hL hO hf
  by_cases hlt : 2 < k'
  · go_enter Tryd.func17, Tryd.ntmps17
    go_wp2
    go_ret
    exact ⟨ret_int (HF.out.e7 (by omega)).symm, (hk.new _).new _⟩
  · go_enter Tryd.func17, Tryd.ntmps17
    go_wp2
    go_ret
    exact ⟨ret_int (HF.out.e6 (by omega) (by omega)).symm, (hk.new _).new _⟩

theorem up_lt {n m : Int} (n0 : 0 ≤ n) (n1 : n ≤ 18446744073709551615) (m0 : 0 ≤ m) (m1 : m ≤ 18446744073709551615) :
    (IntKind.u64.wrap (n + 9223372036854775808) < IntKind.u64.wrap (m + 9223372036854775808) ↔ sgn n < sgn m) ∧ (IntKind.u64.wrap (n + 9223372036854775808) = IntKind.u64.wrap (m + 9223372036854775808) ↔ sgn n = sgn m) := by
  unfold sgn
  rw [IntKind.wrap_u64, IntKind.wrap_u64]
  constructor
  · split <;> split <;> omega
  · split <;> split <;> omega

set_option maxRecDepth 100000 in
set_option maxHeartbeats 1000000 in
theorem rorder_two {w0 w : World} (hk : KSt w0 w) (n n' : Int) (s s' : ByteArray) (hs : s.size ≤ 140737488355328) (ht : s'.size ≤ 140737488355328) (n0 : 0 ≤ n) (n1 : n ≤ 18446744073709551615) (m0 : 0 ≤ n') (m1 : n' ≤ 18446744073709551615) :
    Calls Tryd.prog 17 #[.agg #[.int .i64 2, .int .u64 n, .string s], .agg #[.int .i64 2, .int .u64 n', .string s']] w fun e w' => e = .returned (.int .i64 (ordV ⟨2, n, s⟩ ⟨2, n', s'⟩)) ∧ KSt w0 w' := by
  have hu := up_lt n0 n1 m0 m1
  obtain ⟨X, hX⟩ : ∃ X, IntKind.u64.wrap (n + 9223372036854775808) = X := ⟨_, rfl⟩
  obtain ⟨Y, hY⟩ : ∃ Y, IntKind.u64.wrap (n' + 9223372036854775808) = Y := ⟨_, rfl⟩
  rw [hX, hY] at hu
  have hf := ord_facts 2 n 2 n' s s' X Y (fun _ => hu.1) (fun _ => hu.2)
  have hnn : (n = n') ↔ X = Y := by
    rw [hu.2]
    exact ⟨fun h => by rw [h], sgn_inj ⟨n0, n1⟩ ⟨m0, m1⟩⟩
  have HN := Lib.hid hnn
  have c1 := fun (W : World) => less_any W s s' hs ht
  obtain ⟨L, hL⟩ : ∃ L, ltB s.data.toList s'.data.toList = L := ⟨_, rfl⟩
  obtain ⟨O, hO⟩ : ∃ O, ordV ⟨2, n, s⟩ ⟨2, n', s'⟩ = O := ⟨_, rfl⟩
  simp only [hL] at c1
  rw [hL, hO] at hf
  rw [hO]
  have HF := Lib.hid hf
  clear hL hO hf hs ht hu n0 n1 m0 m1 hnn
  go_enter Tryd.func17, Tryd.ntmps17
  go_wp2_with (go_at_call 35; refine (c1 _).mono ?_; rintro e w' ⟨rfl, hbl⟩; have k3 := KSt.then_ ((hk.new _).new _) hbl; obtain ⟨c00, c01, c02, c10, c11, c12⟩ := two_cells hbl; clear hbl)
  all_goals
    have hnn := HN.out
    go_ret
    refine ⟨ret_int (Eq.symm ?_), by first | assumption | exact (hk.new _).new _⟩
    first
      | exact HF.out.e1 rfl (by omega) (by assumption)
      | exact HF.out.e2 rfl (by omega) (by assumption) (by assumption)
      | exact HF.out.e3 rfl (by omega) (by assumption) (by assumption)
      | exact HF.out.e5 rfl (by omega)
      | exact HF.out.e4 rfl (by omega) (by omega)
      | (exfalso; omega)

theorem rorder_any {w0 w : World} (hk : KSt w0 w) (a b : Val) (ha : Fits a) (hb : Fits b) (hs : a.s.size ≤ 140737488355328) (ht : b.s.size ≤ 140737488355328) :
    Calls Tryd.prog 17 #[vv a, vv b] w fun e w' => e = .returned (.int .i64 (ordV a b)) ∧ KSt w0 w' := by
  obtain ⟨k, n, s⟩ := a
  obtain ⟨k', n', s'⟩ := b
  by_cases h : k = 2
  · subst h
    by_cases h' : k' = 2
    · subst h'
      exact rorder_two hk n n' s s' hs ht ha.1 ha.2 hb.1 hb.2
    · exact rorder_apart hk n k' n' s s' h'
  · exact rorder_plain hk k n k' n' s s' hs ht h
end Go.Proofs.YtcodamhoanfanaaDoor
