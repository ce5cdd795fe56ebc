/- The walks of the code: a subtree's node, its place, how deep it is. -/
import Derived.Test.YtmbiompmhaiehaaDoorPoRow
namespace Go.Proofs.YtmbiompmhaiehaaDoor
open Go.RowKit

/-- the subtree whose root stands there, as a value -/
abbrev sub (x r : Nat) : Value := .agg #[.pointer (some ⟨x, 0, none⟩), .int .i64 (r : Nat)]

set_option maxRecDepth 100000 in
set_option maxHeartbeats 4000000 in
theorem pdepth_any {w : World} {x f d : Nat} {A : Option Addr} {c : Nat} {N : List Rn} {F D : List Nat} {r v : Nat} (h : Xb w x f d A c N F D) (hv : D[r]? = some v) :
    Calls Tryd.prog 24 #[.agg #[.pointer (some ⟨x, 0, none⟩), .int .i64 (r : Nat)]] w fun e w' => e = .returned (.int .i64 (v : Nat)) ∧ Below w.heap.size w w' := by
  obtain ⟨hr, hv2⟩ := List.getElem?_eq_some_iff.1 hv
  have hrN : r < N.length := by rw [← h.dl]; exact hr
  have hrz : (r : Int) < (N.length : Int) := by omega
  have hr0 : (0 : Int) ≤ (r : Int) := by omega
  obtain ⟨w1, hw1⟩ : ∃ w1, w.alloc (.cells #[.pointer (some ⟨x, 0, none⟩), .int .i64 (r : Nat)] 43) = w1 := ⟨_, rfl⟩
  have b1 : Below w.heap.size w w1 := by rw [← hw1]; exact (Below.refl _ w).alloc (Nat.le_refl _) _
  have k1 : CB w1 w.heap.size 43 #[.pointer (some ⟨x, 0, none⟩), .int .i64 (r : Nat)] := by rw [← hw1]; exact CB.new w _ _
  have c0 : w1.cell? ⟨w.heap.size, 0, none⟩ = some (.pointer (some ⟨x, 0, none⟩)) := k1.at_ 0
  have c1 : w1.cell? ⟨w.heap.size, 1, none⟩ = some (.int .i64 (r : Nat)) := k1.at_ 1
  have h1 := h.below b1
  have x2 : w1.cell? ⟨x, 2, none⟩ = some (.slice (some ⟨d, 0, none⟩) N.length N.length) := h1.cb.at_ 2
  have q : w1.cell? ⟨d, r, none⟩ = some (.int .i64 (v : Nat)) := by rw [nums_at h1.db hr, hv2]
  clear k1 h h1 hv hv2 hr
  go_enter Tryd.func24, Tryd.ntmps24
  go_wp2
  go_quiet (fail)
  go_wp2
  go_ret
  exact ⟨rfl, Below.thenN b1 _⟩

set_option maxRecDepth 100000 in
set_option maxHeartbeats 4000000 in
theorem pnode_any {w : World} {x f d B : Nat} {A : Option Addr} {c : Nat} {N : List Rn} {F D : List Nat} {r : Nat} {y : Rn} (h : Xb w x f d A c N F D) (hN : RN w B A N) (hB : B ≤ w.heap.size) (hy : N[r]? = some y) :
    Calls Tryd.prog 45 #[.agg #[.pointer (some ⟨x, 0, none⟩), .int .i64 (r : Nat)]] w fun e w' => e = .returned (.agg #[.int .i64 y.op, .int .i64 y.n, .int .u64 (y.num : Nat), .string (str y.t), .int .i64 y.a]) ∧ Below w.heap.size w w' := by
  have hrN : r < N.length := (List.getElem?_eq_some_iff.1 hy).1
  have hrz : (r : Int) < (N.length : Int) := by omega
  have hr0 : (0 : Int) ≤ (r : Int) := by omega
  obtain ⟨b, o, rfl, hb, n0, n1, n2, n3, n4⟩ := RN.cells hN hy
  have hbl : b < w.heap.size := by omega
  obtain ⟨w1, hw1⟩ : ∃ w1, w.alloc (.cells #[.pointer (some ⟨x, 0, none⟩), .int .i64 (r : Nat)] 43) = w1 := ⟨_, rfl⟩
  have b1 : Below w.heap.size w w1 := by rw [← hw1]; exact (Below.refl _ w).alloc (Nat.le_refl _) _
  have s1 : w1.heap.size = w.heap.size + 1 := by rw [← hw1]; simp
  have k1 : CB w1 w.heap.size 43 #[.pointer (some ⟨x, 0, none⟩), .int .i64 (r : Nat)] := by rw [← hw1]; exact CB.new w _ _
  obtain ⟨w2, hw2⟩ : ∃ w2, w1.alloc (.cells #[.int .i64 0, .int .i64 0, .int .u64 0, .string ⟨#[]⟩, .int .i64 0] 27) = w2 := ⟨_, rfl⟩
  have b2 : Below w1.heap.size w1 w2 := by rw [← hw2]; exact (Below.refl _ w1).alloc (Nat.le_refl _) _
  have b12 : Below w.heap.size w w2 := b1.trans (b2.mono (by omega))
  have k2 := k1.below b2
  have r2 : CB w2 (w.heap.size + 1) 27 #[.int .i64 0, .int .i64 0, .int .u64 0, .string ⟨#[]⟩, .int .i64 0] := by rw [← s1, ← hw2]; exact CB.new w1 _ _
  have z0 : w2.cell? ⟨w.heap.size + 1, 0, none⟩ = some (.int .i64 0) := r2.at_ 0
  have z1 : w2.cell? ⟨w.heap.size + 1, 1, none⟩ = some (.int .i64 0) := r2.at_ 1
  have z2 : w2.cell? ⟨w.heap.size + 1, 2, none⟩ = some (.int .u64 0) := r2.at_ 2
  have z3 : w2.cell? ⟨w.heap.size + 1, 3, none⟩ = some (.string ⟨#[]⟩) := r2.at_ 3
  have z4 : w2.cell? ⟨w.heap.size + 1, 4, none⟩ = some (.int .i64 0) := r2.at_ 4
  have y0 := r2.frozen 0
  have y1 := r2.frozen 1
  have y2 := r2.frozen 2
  have y3 := r2.frozen 3
  have y4 := r2.frozen 4
  have HR2 := Lib.hid r2
  clear r2
  have h2 := (h.below b1).below b2
  have c0 : w2.cell? ⟨w.heap.size, 0, none⟩ = some (.pointer (some ⟨x, 0, none⟩)) := k2.at_ 0
  have c1 : w2.cell? ⟨w.heap.size, 1, none⟩ = some (.int .i64 (r : Nat)) := k2.at_ 1
  have x0 : w2.cell? ⟨x, 0, none⟩ = some (.slice (some ⟨b, o, none⟩) N.length c) := h2.cb.at_ 0
  have m := fun j => b12.cell (p := ⟨b, j, none⟩) hbl
  have m0 := (m _).trans n0
  have m1 := (m _).trans n1
  have m2 := (m _).trans n2
  have m3 := (m _).trans n3
  have m4 := (m _).trans n4
  clear k1 k2 h h2 hN hy m n0 n1 n2 n3 n4 b2 b1
  go_enter Tryd.func45, Tryd.ntmps45
  go_wp2
  go_region
  all_goals
    go_wp2
    have h9 : CB (((((w2.setCell ⟨w.heap.size + 1, 0, none⟩ (.int .i64 y.op)).setCell ⟨w.heap.size + 1, 1, none⟩ (.int .i64 y.n)).setCell ⟨w.heap.size + 1, 2, none⟩ (.int .u64 (y.num : Nat))).setCell ⟨w.heap.size + 1, 3, none⟩ (.string (str y.t))).setCell ⟨w.heap.size + 1, 4, none⟩ (.int .i64 y.a)).drew (w.heap.size + 1) 27 #[.int .i64 y.op, .int .i64 y.n, .int .u64 (y.num : Nat), .string (str y.t), .int .i64 y.a] :=
      HR2.out.store (cs := #[.int .i64 y.op, .int .i64 y.n, .int .u64 (y.num : Nat), .string (str y.t), .int .i64 y.a]) rfl
    have t9 : Turned (w.heap.size + 1) w2 (((((w2.setCell ⟨w.heap.size + 1, 0, none⟩ (.int .i64 y.op)).setCell ⟨w.heap.size + 1, 1, none⟩ (.int .i64 y.n)).setCell ⟨w.heap.size + 1, 2, none⟩ (.int .u64 (y.num : Nat))).setCell ⟨w.heap.size + 1, 3, none⟩ (.string (str y.t))).setCell ⟨w.heap.size + 1, 4, none⟩ (.int .i64 y.a)) :=
      (((((Turned.refl _ w2).setCell 0 _).setCell 1 _).setCell 2 _).setCell 3 _).setCell 4 _
    exact bodyPost_ret (results_cb rfl _ _ _ _ rfl h9 Tryd.underlying27 rfl (by kernel_rfl)) rfl ⟨rfl, Below.thenN (b12.trans (t9.below (Nat.le_succ _))) 1⟩
end Go.Proofs.YtmbiompmhaiehaaDoor
