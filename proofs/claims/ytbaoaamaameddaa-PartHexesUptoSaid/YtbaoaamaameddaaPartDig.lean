/- The walks of a digit of base 16, the code's and the reference's; one byte appended. -/
import Derived.Test.YtbaoaamaameddaaPartRep
import Derived.Test.YtbaoaamaameddaaBytApp
namespace Go.Proofs.Ytbaoaamaameddaa
open Go.RowKit
open Go.Lib (byteCells)

theorem infoB : (Try.prog.info? 5).map (fun i => (i.zero, i.size, i.bytes)) = some (some (.int .u8 0), 1, 1) := by kernel_rfl

theorem dv_num {c : Nat} (h : 48 ≤ c ∧ c ≤ 57) : dv c = c - 48 := if_pos h
theorem dv_low {c : Nat} (h : 97 ≤ c ∧ c ≤ 102) : dv c = c - 87 := by unfold dv; rw [if_neg (by omega), if_pos h]
theorem dv_upp {c : Nat} (h : 65 ≤ c ∧ c ≤ 70) : dv c = c - 55 := by unfold dv; rw [if_neg (by omega), if_neg (by omega), if_pos h]
theorem dv_no {c : Nat} (h1 : ¬ (48 ≤ c ∧ c ≤ 57)) (h2 : ¬ (97 ≤ c ∧ c ≤ 102)) (h3 : ¬ (65 ≤ c ∧ c ≤ 70)) : dv c = 16 := by unfold dv; rw [if_neg h1, if_neg h2, if_neg h3]

/-- what the code's digit answers -/
def dgN (c : Nat) : Nat := if dv c = 16 then 0 else dv c
def dgB (c : Nat) : Bool := decide (dv c ≠ 16)

theorem ret_two {a b : Int} {p q : Bool} (h : a = b) (g : p = q) : Ending.returned (.tuple #[.int .u8 a, .bool p]) = .returned (.tuple #[.int .u8 b, .bool q]) := by rw [h, g]

set_option maxRecDepth 100000 in
set_option maxHeartbeats 1000000 in
theorem digit_any (w : World) (c : Nat) (hc : c ≤ 255) :
    Calls Try.prog 26 #[.int .u8 c] w fun e w' => e = .returned (.tuple #[.int .u8 (dgN c : Nat), .bool (dgB c)]) ∧ w = w' := by
  unfold dgN dgB
  by_cases h1 : 48 ≤ c ∧ c ≤ 57
  · rw [dv_num h1, if_neg (by omega), decide_eq_true (by omega)]
    obtain ⟨a, b⟩ := h1
    go_enter Try.func26, Try.ntmps26
    go_wp2
    go_ret2
    exact ⟨ret_two (by omega) rfl, rfl⟩
  · by_cases h2 : 97 ≤ c ∧ c ≤ 102
    · rw [dv_low h2, if_neg (by omega), decide_eq_true (by omega)]
      obtain ⟨a, b⟩ := h2
      have n1 : ¬ (c : Int) ≤ 57 := by omega
      clear h1
      go_enter Try.func26, Try.ntmps26
      go_wp2
      go_ret2
      exact ⟨ret_two (by omega) rfl, rfl⟩
    · by_cases h3 : 65 ≤ c ∧ c ≤ 70
      · rw [dv_upp h3, if_neg (by omega), decide_eq_true (by omega)]
        obtain ⟨a, b⟩ := h3
        have n1 : ¬ (c : Int) ≤ 57 := by omega
        have n2 : ¬ (97 : Int) ≤ c := by omega
        clear h1 h2
        go_enter Try.func26, Try.ntmps26
        go_wp2
        go_ret2
        exact ⟨ret_two (by omega) rfl, rfl⟩
      · rw [dv_no h1 h2 h3, if_pos rfl, decide_eq_false (by omega)]
        go_enter Try.func26, Try.ntmps26
        go_wp2
        all_goals first
          | (go_ret2; exact ⟨rfl, rfl⟩)
          | (exfalso; omega)

set_option maxRecDepth 100000 in
set_option maxHeartbeats 1000000 in
theorem rdigit_any (w : World) (c : Nat) (hc : c ≤ 255) :
    Calls Try.prog 27 #[.int .u8 c] w fun e w' => e = .returned (.int .u8 (dv c : Nat)) ∧ w = w' := by
  by_cases h1 : 48 ≤ c ∧ c ≤ 57
  · rw [dv_num h1]
    obtain ⟨a, b⟩ := h1
    go_enter Try.func27, Try.ntmps27
    go_wp2
    go_ret
    exact ⟨ret_int (by omega), rfl⟩
  · by_cases h2 : 97 ≤ c ∧ c ≤ 102
    · rw [dv_low h2]
      obtain ⟨a, b⟩ := h2
      have n1 : ¬ (c : Int) ≤ 57 := by omega
      clear h1
      go_enter Try.func27, Try.ntmps27
      go_wp2
      go_ret
      exact ⟨ret_int (by omega), rfl⟩
    · by_cases h3 : 65 ≤ c ∧ c ≤ 70
      · rw [dv_upp h3]
        obtain ⟨a, b⟩ := h3
        have n1 : ¬ (c : Int) ≤ 57 := by omega
        have n2 : ¬ (97 : Int) ≤ c := by omega
        clear h1 h2
        go_enter Try.func27, Try.ntmps27
        go_wp2
        go_ret
        exact ⟨ret_int (by omega), rfl⟩
      · rw [dv_no h1 h2 h3]
        go_enter Try.func27, Try.ntmps27
        go_wp2
        all_goals first
          | (go_ret; exact ⟨rfl, rfl⟩)
          | (exfalso; omega)

theorem byt_new (w : World) (cs : Array Value) (l : List UInt8) (T : TypeId) (h : cs.toList = byteCells l) : Byt (w.alloc (.cells cs T)) (w.alloc (.cells cs T)).heap.size (some ⟨w.heap.size, 0, none⟩) l := by
  refine .inr ⟨w.heap.size, 0, rfl, by simp, fun j hj => ?_⟩
  rw [cell_of_row _ w.heap.size _ cs T (0, 0) (heap_alloc_new w _), Nat.zero_add, ← Array.getElem?_toList, h]
  exact byteCells_get l j hj

theorem own_then {w w' : World} {base : Nat} {e : TypeId} {s : Nat} {v : Value} {n : Nat} {xs : List Value} (h : w.ownsRow base e s v n xs) (hb : Below w.heap.size w w') : w'.ownsRow base e s v n xs := by
  refine ⟨h.1, ?_⟩
  rcases h.2 with h0 | ⟨g, cap, cur, hv, hg, hc, rest⟩
  · exact .inl h0
  · exact .inr ⟨g, cap, cur, hv, hg, (hb.block g (Array.getElem?_eq_some_iff.1 hc).1).trans hc, rest⟩
theorem OwnB.then_ {w w' : World} {base : Nat} {e : TypeId} {A : Option Addr} {c : Nat} {l : List UInt8} (h : OwnB w base e A c l) (hb : Below w.heap.size w w') : OwnB w' base e A c l := own_then h hb
theorem OwnB.new {w : World} {base : Nat} {e : TypeId} {A : Option Addr} {c : Nat} {l : List UInt8} (h : OwnB w base e A c l) (o : Obj) : OwnB (w.alloc o) base e A c l := h.then_ ((Below.refl _ _).alloc (Nat.le_refl _) _)

/-- bytes of a block just made, appended -/
theorem run_app_new {w : World} {base : Nat} {A : Option Addr} {c : Nat} {pre : List UInt8} (ho : OwnB w base 5 A c pre) (cs : Array Value) (l : List UInt8) (n : Nat) (hn : n = l.length) (h : cs.toList = byteCells l) (T : TypeId)
    (r : List UInt8) (hr : r = pre ++ l) (hm : r.length ≤ 140737488355328) (hbase : base ≤ w.heap.size) :
    ∃ A' c' w', (Builtin.append_ #[39, 39] 39 #[.slice A pre.length c, .slice (some ⟨w.heap.size, 0, none⟩) n n]).run Try.prog (w.alloc (.cells cs T)) = .ok (.slice A' r.length c') w' ∧ OwnB w' base 5 A' c' r ∧ Below base w w' := by
  obtain ⟨i0, hi, hz0, hz1, hz2⟩ := info_parts infoB
  subst hn
  obtain ⟨A', c', w', h1, h2, h3⟩ := run_append_byt (P := Try.prog) base 39 39 5 i0 _ Try.underlying39 hi hz0 hz1 hz2 rfl c l.length (ho.new _) (byt_new w cs l T h) r hr hm (by simp; omega)
  exact ⟨A', c', w', h1, h2, ((Below.refl base w).alloc hbase _).trans h3⟩
end Go.Proofs.Ytbaoaamaameddaa
