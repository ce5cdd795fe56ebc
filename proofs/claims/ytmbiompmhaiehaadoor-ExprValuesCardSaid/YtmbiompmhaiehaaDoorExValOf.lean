/- The walk of the code: an expression's value as a value of a kind. -/
import Derived.Test.YtmbiompmhaiehaaDoorExGe
import Derived.Test.YtmbiompmhaiehaaDoorExRoot
import Derived.Test.YtmbiompmhaiehaaDoorExSort
import Derived.Test.YtmbiompmhaiehaaDoorExGv
import Derived.StillTailTactics
import Derived.Deep.RegionHeld3
import Derived.Deep.DeepCutAuto
namespace Go.Proofs.YtmbiompmhaiehaaDoor
open Go.RowKit

/-- what valueOf answers -/
def endL (r : Nat) (k : Int) : Except Nat (Nat × List UInt8) → Ending
  | .error e => .panicked [faultV r e]
  | .ok (n, s) => .returned (.agg #[.int .i64 k, .int .u64 (n : Nat), .string (str s)])
def endV (r : Nat) (k : Int) : Res → Ending
  | .error (a, e) => .panicked [faultV a e]
  | .ok t => endL r k (lastV t k)
theorem lastV_no {t : Th} {k : Int} (hk : 1 ≤ k ∧ k ≤ 5) (h : t.sort ≠ sortK k) : lastV t k = .error 110 := by
  have h5 : k = 1 ∨ k = 2 ∨ k = 3 ∨ k = 4 ∨ k = 5 := by omega
  rcases h5 with rfl | rfl | rfl | rfl | rfl <;> cases t <;> first | rfl | (exact absurd (by rfl) h)
theorem lastV_yes {t : Th} {k : Int} (hk : 1 ≤ k ∧ k ≤ 5) (ht : t.Ok) (h : t.sort = sortK k) : lastV t k = if hasN k t.n && okV ⟨k, (bitsV t.n : Nat), str t.s⟩ then .ok (bitsV t.n, t.s) else .error 111 := by
  have h5 : k = 1 ∨ k = 2 ∨ k = 3 ∨ k = 4 ∨ k = 5 := by omega
  have z : (str ([] : List UInt8)).size = 0 := rfl
  rcases h5 with rfl | rfl | rfl | rfl | rfl
  · cases t with
    | num v =>
      show (if v < 0 then Except.error 111 else .ok (v.toNat, [])) = if (decide (0 ≤ v)) && (decide ((str ([] : List UInt8)).size = 0)) then Except.ok (bitsV v, []) else .error 111
      rw [decide_eq_true z, Bool.and_true]
      unfold bitsV
      by_cases hv : v < 0
      · rw [if_pos hv, if_neg (by rw [decide_eq_true_eq]; omega)]
      · rw [if_neg hv, if_pos (by rw [decide_eq_true_eq]; omega), if_neg hv]
    | text s => simp [Th.sort, sortK] at h
    | truth b => simp [Th.sort, sortK] at h
    | bytes s => simp [Th.sort, sortK] at h
  · cases t with
    | num v =>
      show (if 9223372036854775808 ≤ v then Except.error 111 else .ok ((if v < 0 then v + 18446744073709551616 else v).toNat, [])) = if (decide (v < 9223372036854775808)) && (decide ((str ([] : List UInt8)).size = 0)) then Except.ok (bitsV v, []) else .error 111
      rw [decide_eq_true z, Bool.and_true]
      unfold bitsV
      by_cases hv : 9223372036854775808 ≤ v
      · rw [if_pos hv, if_neg (by rw [decide_eq_true_eq]; omega)]
      · have e : decide (v < 9223372036854775808) = true := decide_eq_true (by omega)
        rw [if_neg hv, e]
        by_cases hn : v < 0 <;> simp [hn]
    | text s => simp [Th.sort, sortK] at h
    | truth b => simp [Th.sort, sortK] at h
    | bytes s => simp [Th.sort, sortK] at h
  · cases t with
    | truth b => cases b <;> rfl
    | num v => simp [Th.sort, sortK] at h
    | text s => simp [Th.sort, sortK] at h
    | bytes s => simp [Th.sort, sortK] at h
  · cases t with
    | text s =>
      show (if okL s then Except.ok (0, s) else .error 111) = if (true && (decide ((0 : Int) = 0) && okL s)) then Except.ok (0, s) else .error 111
      rw [decide_eq_true rfl, Bool.true_and, Bool.true_and]
    | num v => simp [Th.sort, sortK] at h
    | truth b => simp [Th.sort, sortK] at h
    | bytes s => simp [Th.sort, sortK] at h
  · cases t with
    | bytes s => rfl
    | num v => simp [Th.sort, sortK] at h
    | truth b => simp [Th.sort, sortK] at h
    | text s => simp [Th.sort, sortK] at h
theorem bl_alloc {w W : World} (h : Below w.heap.size w W) (o : Obj) : Below w.heap.size w (W.alloc o) := h.trans ((Below.refl _ W).alloc h.size o)
/-- a value's block, made on the way -/
structure AL (w5 W : World) (g : Nat) : Prop where
  cb : CB W g 31 #[.int .i64 0, .int .u64 0, .string ⟨#[]⟩]
  ge : w5.heap.size ≤ g
  bl : Below w5.heap.size w5 W
theorem AL.new {w5 X : World} (h : Below w5.heap.size w5 X) : AL w5 (X.alloc (.cells #[.int .i64 0, .int .u64 0, .string ⟨#[]⟩] 31)) X.heap.size := ⟨CB.new X _ _, h.size, bl_alloc h _⟩
theorem AL.below {w5 W W' : World} {g : Nat} (h : AL w5 W g) (hb : Below W.heap.size W W') : AL w5 W' g := ⟨h.cb.below hb, h.ge, Below.both h.bl hb⟩
theorem AL.cells {w5 W : World} {g : Nat} (h : AL w5 W g) : W.cell? ⟨g, 0, none⟩ = some (.int .i64 0) ∧ W.cell? ⟨g, 1, none⟩ = some (.int .u64 0) ∧ W.cell? ⟨g, 2, none⟩ = some (.string ⟨#[]⟩) ∧ W.frozen? ⟨g, 0, none⟩ = false ∧ W.frozen? ⟨g, 1, none⟩ = false ∧ W.frozen? ⟨g, 2, none⟩ = false :=
  ⟨h.cb.at_ 0, h.cb.at_ 1, h.cb.at_ 2, h.cb.frozen 0, h.cb.frozen 1, h.cb.frozen 2⟩
/-- three cells stored, as a walk spells it -/
abbrev set3 (W : World) (b : Nat) (v0 v1 v2 : Value) : World := ((W.setCell ⟨b, 0, none⟩ v0).setCell ⟨b, 1, none⟩ v1).setCell ⟨b, 2, none⟩ v2
theorem set3_eq (W : World) (b : Nat) (v0 v1 v2 : Value) : W.setCells b 0 (#[v0, v1, v2] : Array Value).toList = set3 W b v0 v1 v2 := rfl
theorem AL.set {w5 W : World} {g : Nat} (h : AL w5 W g) (v0 v1 v2 : Value) : CB (set3 W g v0 v1 v2) g 31 #[v0, v1, v2] ∧ Below w5.heap.size w5 (set3 W g v0 v1 v2) := by
  have q := set3_eq W g v0 v1 v2
  have k9 := h.cb.store (cs := #[v0, v1, v2]) rfl
  have t9 : Turned g W (W.setCells g 0 (#[v0, v1, v2] : Array Value).toList) := Turned.setCells _ _ _ (Turned.refl _ W)
  generalize set3 W g v0 v1 v2 = Y at q ⊢
  rw [q] at k9 t9
  exact ⟨k9, h.bl.trans (t9.below h.ge)⟩
theorem AL.last {w5 W : World} (h : Below w5.heap.size w5 W) (v0 v1 v2 : Value) : CB (W.alloc (.cells #[v0, v1, v2] 31)) W.heap.size 31 #[v0, v1, v2] ∧ Below w5.heap.size w5 (W.alloc (.cells #[v0, v1, v2] 31)) := ⟨CB.new W _ _, bl_alloc h _⟩
/-- a text copied -/
theorem cloneE_any (w : World) (s : ByteArray) (hs : s.size ≤ 140737488355328) : Calls Tryd.prog 30 #[.string s] w fun e w' => e = .returned (.string s) ∧ Below w.heap.size w w' := by
  have c := Tryd.stringslite_Clone s w (by omega)
  go_enter Tryd.func30, Tryd.ntmps30
  go_wp2_with (go_at_call 59; refine c.mono ?_; rintro e w' ⟨rfl, hb⟩)
  go_ret
  exact ⟨rfl, hb⟩
/-- a subtree's block, a value's -/
theorem val_start (w : World) (x r : Nat) : ∃ w2, (w.alloc (.cells #[.pointer (some ⟨x, 0, none⟩), .int .i64 (r : Nat)] 43)).alloc (.cells #[.int .i64 0, .int .u64 0, .string ⟨#[]⟩] 31) = w2 ∧ Below w.heap.size w w2 ∧ w2.heap.size = w.heap.size + 2 ∧
    CB w2 w.heap.size 43 #[.pointer (some ⟨x, 0, none⟩), .int .i64 (r : Nat)] ∧ CB w2 (w.heap.size + 1) 31 #[.int .i64 0, .int .u64 0, .string ⟨#[]⟩] := by
  obtain ⟨w1, hw1⟩ : ∃ w1, w1 = w.alloc (.cells #[.pointer (some ⟨x, 0, none⟩), .int .i64 (r : Nat)] 43) := ⟨_, rfl⟩
  rw [← hw1]
  have s1 : w1.heap.size = w.heap.size + 1 := by rw [hw1]; simp
  have b1 : Below w.heap.size w w1 := by rw [hw1]; exact (Below.refl _ w).alloc (Nat.le_refl _) _
  have b2 : Below w1.heap.size w1 (w1.alloc (.cells #[.int .i64 0, .int .u64 0, .string ⟨#[]⟩] 31)) := (Below.refl _ w1).alloc (Nat.le_refl _) _
  refine ⟨_, rfl, b1.trans (b2.mono (by omega)), by simp [s1], CB.below (by rw [hw1]; exact CB.new w _ _) b2, ?_⟩
  rw [← s1]
  exact CB.new w1 _ _
end Go.Proofs.YtmbiompmhaiehaaDoor
