/- The walk of lives: fixed answers of Value and of Check. -/
import Derived.Test.YtmbiompmhaiehaaDoorExValue
import Derived.Test.YtmbiompmhaiehaaDoorExCheck
import Derived.BigQuiet
namespace Go.Proofs.YtmbiompmhaiehaaDoor
open Go.RowKit

/-- rows just laid -/
theorem erows_new {α : Type} {f : α → Array Value} {s : Nat} (hs : ∀ x, (f x).size = s) (w : World) (cs : Array Value) (T : TypeId) (l : List α) (h : cs.toList = flatR f l) : Rows f s (w.alloc (.cells cs T)) (w.heap.size + 1) (some ⟨w.heap.size, 0, none⟩) l := by
  refine .inr ⟨w.heap.size, 0, rfl, Nat.lt_succ_self _, fun i x hx j v hv => ?_⟩
  have hj : j < s := by rw [← hs x]; exact (Array.getElem?_eq_some_iff.1 hv).1
  rw [(CB.new w T cs).at_, Nat.zero_add, ← Array.getElem?_toList, h, flatR_at hs l i x hx j hj]
  exact hv
def awN : List Rn := [⟨1, 0, 1, [], 0⟩, ⟨1, 0, 2, [], 0⟩, ⟨1, 0, 3, [], 0⟩, ⟨8, 0, 0, [], 0⟩, ⟨6, 0, 0, [], 0⟩]
def awO : List Rn := [⟨6, 0, 0, [], 0⟩]
theorem aw_few : Few awN := by
  refine ⟨by decide, fun x hx => ?_, fun x hx => ?_⟩
  · simp only [awN, List.mem_cons, List.not_mem_nil, or_false] at hx
    rcases hx with rfl | rfl | rfl | rfl | rfl <;> decide
  · simp only [awN, List.mem_cons, List.not_mem_nil, or_false] at hx
    rcases hx with rfl | rfl | rfl | rfl | rfl <;> decide
theorem awo_few : Few awO := by
  refine ⟨by decide, fun x hx => ?_, fun x hx => ?_⟩
  · simp only [awO, List.mem_cons, List.not_mem_nil, or_false] at hx
    rcases hx with rfl <;> decide
  · simp only [awO, List.mem_cons, List.not_mem_nil, or_false] at hx
    rcases hx with rfl <;> decide
theorem aw_two : valV awN 2 = ⟨2, 7, [], 0, 0⟩ := by decide +kernel
theorem aw_four : valV awN 4 = noneV 4 110 := by decide +kernel
theorem aw_check : chkP awO = (0, 1) := by decide +kernel

set_option maxRecDepth 100000 in
set_option maxHeartbeats 1000000 in
theorem num_leaf (w : World) (x : Int) : Calls Tryd.prog 6 #[.int .u64 x] w fun e w' => e = .returned (.agg #[.int .i64 1, .int .i64 0, .int .u64 x, .string ⟨#[]⟩, .int .i64 0]) ∧ Hid (Below w.heap.size w w') := by
  go_enter Tryd.func6, Tryd.ntmps6
  go_wp2
  exact bodyPost_ret (results_cb rfl _ _ _ _ rfl (CB.new w _ _) Tryd.underlying27 rfl (by kernel_rfl)) rfl ⟨rfl, Lib.hid ((Below.refl _ w).alloc (Nat.le_refl _) _)⟩
set_option maxRecDepth 100000 in
set_option maxHeartbeats 1000000 in
theorem op_leaf (w : World) (x : Int) : Calls Tryd.prog 7 #[.int .i64 x] w fun e w' => e = .returned (.agg #[.int .i64 x, .int .i64 0, .int .u64 0, .string ⟨#[]⟩, .int .i64 0]) ∧ Hid (Below w.heap.size w w') := by
  go_enter Tryd.func7, Tryd.ntmps7
  go_wp2
  exact bodyPost_ret (results_cb rfl _ _ _ _ rfl (CB.new w _ _) Tryd.underlying27 rfl (by kernel_rfl)) rfl ⟨rfl, Lib.hid ((Below.refl _ w).alloc (Nat.le_refl _) _)⟩
/-- 1 + 2 * 3 is reckoned, and a text is refused there -/
def LvAt (w : World) (e : Ending) (w' : World) : Prop := e = .returned (.bool true) ∧ Below w.heap.size w w'

set_option maxRecDepth 100000 in
set_option maxHeartbeats 8000000 in
theorem lives_any {w : World} (hK : KSt w w) : Calls Tryd.prog 4 #[] w (LvAt w) := by
  have HK := Lib.hid hK
  -- the nodes
  have MN : Hid (∀ w5, Below w.heap.size w w5 → ∃ w6, w5.alloc (.cells #[.int .i64 1, .int .i64 0, .int .u64 1, .string ⟨#[]⟩, .int .i64 0, .int .i64 1, .int .i64 0, .int .u64 2, .string ⟨#[]⟩, .int .i64 0, .int .i64 1, .int .i64 0, .int .u64 3, .string ⟨#[]⟩, .int .i64 0, .int .i64 8, .int .i64 0, .int .u64 0, .string ⟨#[]⟩, .int .i64 0, .int .i64 6, .int .i64 0, .int .u64 0, .string ⟨#[]⟩, .int .i64 0] 27) = w6 ∧ Hid (Below w.heap.size w w6 ∧ RN w6 w6.heap.size (some ⟨w5.heap.size, 0, none⟩) awN)) := fun w5 hb => by
    refine ⟨_, rfl, hb.trans (((Below.refl _ w5).alloc (Nat.le_refl _) _).mono hb.size), ?_⟩
    exact (erows_new (f := rnC) (s := 5) (fun _ => rfl) w5 _ 27 awN rfl).more (by simp)
  have MO : Hid (∀ w5, Below w.heap.size w w5 → ∃ w6, w5.alloc (.cells #[.int .i64 6, .int .i64 0, .int .u64 0, .string ⟨#[]⟩, .int .i64 0] 27) = w6 ∧ Hid (Calls Tryd.prog 11 #[.slice (some ⟨w5.heap.size, 0, none⟩) 1 1] w6 fun e w7 => e = .returned (.tuple #[.int .i64 0, .int .i64 1]) ∧ Hid (Below w.heap.size w w7))) := fun w5 hb => by
    refine ⟨_, rfl, ?_⟩
    have hb6 := hb.trans (((Below.refl _ w5).alloc (Nat.le_refl _) (.cells #[.int .i64 6, .int .i64 0, .int .u64 0, .string ⟨#[]⟩, .int .i64 0] 27)).mono hb.size)
    refine (check_any (c := 1) ((erows_new (f := rnC) (s := 5) (fun _ => rfl) w5 _ 27 awO rfl).more (by simp)) awo_few).mono ?_
    rintro e w7 ⟨rfl, hb7⟩
    rw [aw_check]
    exact ⟨rfl, hb6.trans (hb7.mono hb6.size)⟩
  have CV : Hid (∀ w1 w2 g, Below w.heap.size w w1 → RN w1 w1.heap.size (some ⟨g, 0, none⟩) awN → Below w1.heap.size w1 w2 → Calls Tryd.prog 8 #[.slice (some ⟨g, 0, none⟩) 5 5, .int .i64 2] w2 fun e w3 => e = .returned (.tuple #[.agg #[.int .i64 2, .int .u64 7, .string ⟨#[]⟩], .int .i64 0, .int .i64 0]) ∧ Hid (Below w.heap.size w w3 ∧ RN w3 w3.heap.size (some ⟨g, 0, none⟩) awN)) := fun w1 w2 g hb hr h12 => by
    have hb2 := hb.trans (h12.mono hb.size)
    have hr2 := (hr.below h12).more h12.size
    refine (value_any (c := 5) (k := 2) (HK.out.then_ hb2).self hr2 aw_few).mono ?_
    rintro e w3 ⟨rfl, hb3⟩
    rw [aw_two]
    exact ⟨rfl, hb2.trans (hb3.mono hb2.size), (hr2.below hb3).more hb3.size⟩
  have CT : Hid (∀ w1 w2 g, Below w.heap.size w w1 → RN w1 w1.heap.size (some ⟨g, 0, none⟩) awN → Below w1.heap.size w1 w2 → Calls Tryd.prog 8 #[.slice (some ⟨g, 0, none⟩) 5 5, .int .i64 4] w2 fun e w3 => e = .returned (.tuple #[.agg #[.int .i64 0, .int .u64 0, .string ⟨#[]⟩], .int .i64 4, .int .i64 110]) ∧ Hid (Below w.heap.size w w3)) := fun w1 w2 g hb hr h12 => by
    have hb2 := hb.trans (h12.mono hb.size)
    have hr2 := (hr.below h12).more h12.size
    refine (value_any (c := 5) (k := 4) (HK.out.then_ hb2).self hr2 aw_few).mono ?_
    rintro e w3 ⟨rfl, hb3⟩
    rw [aw_four]
    exact ⟨rfl, hb2.trans (hb3.mono hb2.size)⟩
  have BL : Hid (∀ a b : World, Below w.heap.size w a → Below a.heap.size a b → Below w.heap.size w b) := fun a b h1 h2 => h1.trans (h2.mono h1.size)
  have VC : Hid (∀ w3 : World, ∃ w4, w3.alloc (.cells #[.int .i64 2, .int .u64 7, .string ⟨#[]⟩] 31) = w4 ∧ (w4.cell? ⟨w3.heap.size, 0, none⟩ = some (.int .i64 2) ∧ w4.cell? ⟨w3.heap.size, 1, none⟩ = some (.int .u64 7) ∧ w4.cell? ⟨w3.heap.size, 2, none⟩ = some (.string ⟨#[]⟩)) ∧ Hid (Below w3.heap.size w3 w4)) := fun w3 => by
    have n4 := CB.new w3 31 #[.int .i64 2, .int .u64 7, .string ⟨#[]⟩]
    exact ⟨_, rfl, ⟨n4.at_ 0, n4.at_ 1, n4.at_ 2⟩, (Below.refl _ w3).alloc (Nat.le_refl _) _⟩
  clear hK
  go_enter Tryd.func4, Tryd.ntmps4
  have B0 := Lib.hid (Below.refl w.heap.size w)
  go_wp2_with (first
    | (go_at_call 6; refine (num_leaf _ _).mono ?_; rintro e wn ⟨rfl, Hn⟩; have B0 := Lib.hid (BL.out _ _ B0.out Hn.out); clear Hn)
    | (go_at_call 7; refine (op_leaf _ _).mono ?_; rintro e wo ⟨rfl, Ho⟩; have B0 := Lib.hid (BL.out _ _ B0.out Ho.out); clear Ho; obtain ⟨w6, hw6, M6⟩ := MN.out wo B0.out)
    | (go_at_call 9; refine (intK_any (HK.out.then_ M6.out.1).k).mono ?_; rintro e w' ⟨rfl, rfl⟩; have cv := CV.out w6 w6 _ M6.out.1 M6.out.2 (Below.refl _ _))
    | (go_at_call 8; refine cv.mono ?_; rintro e w3 ⟨rfl, H3⟩)
    | fail)
  obtain ⟨w4, hw4, ⟨z0, z1, z2⟩, H4⟩ := VC.out w3
  rw [hw4]
  have B4 := Lib.hid (BL.out _ _ H3.out.1 H4.out)
  have K4 := Lib.hid (HK.out.then_ B4.out)
  have hsz := H4.out.size
  clear cv hw6 hw4
  go_quiet ((go_at_call 9; exact Calls.quiet_of_same ((intK_any (K4.out.newN _).k).mono fun _ _ h => ⟨h.1, h.2.symm⟩)))
  have B5 := Lib.hid (BL.out _ _ B4.out (Below.newN w4 nq))
  have R5 := Lib.hid (((H3.out.2.below H4.out).more H4.out.size).below (Below.newN w4 nq) |>.more (Below.newN w4 nq).size)
  clear z0 z1 z2 B4 K4 hsz H4 H3 M6 B0 MN CV VC
  generalize w4.drewN nq = w5 at B5 R5 ⊢
  go_wp2_with (first
    | (go_at_call 10; refine (textK_any (HK.out.then_ B5.out).k).mono ?_; rintro e w' ⟨rfl, rfl⟩; have ct := CT.out w5 w5 _ B5.out R5.out (Below.refl _ _))
    | (go_at_call 8; refine ct.mono ?_; rintro e w7 ⟨rfl, H7⟩)
    | (go_at_call 7; refine (op_leaf _ _).mono ?_; rintro e w8 ⟨rfl, Ho⟩; obtain ⟨w9, hw9, ck⟩ := MO.out w8 (BL.out _ _ H7.out Ho.out))
    | (go_at_call 11; refine ck.out.mono ?_; rintro e w10 ⟨rfl, H10⟩)
    | fail)
  go_ret
  exact ⟨rfl, H10.out⟩
end Go.Proofs.YtmbiompmhaiehaaDoor
