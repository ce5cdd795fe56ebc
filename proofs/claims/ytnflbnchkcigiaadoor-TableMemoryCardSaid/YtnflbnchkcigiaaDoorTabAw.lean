/- The walks of the statements' example and first question. -/
import Derived.Test.YtnflbnchkcigiaaDoorTabRef
import Derived.Test.YtnflbnchkcigiaaDoorTabEqH
import Derived.Test.YtnflbnchkcigiaaDoorTabTyp
import Derived.Great.BuildSlice
namespace Go.Proofs.YtnflbnchkcigiaaDoor
open Go.RowKit

def wId : ByteArray := ⟨#[105, 100]⟩
def wOrder : ByteArray := ⟨#[111, 114, 100, 101, 114]⟩
def wMemo : ByteArray := ⟨#[109, 101, 109, 111]⟩
def oneL : List Co := [⟨wId, 1, 1⟩, ⟨⟨#[110, 111, 116, 101]⟩, 2, 4⟩]
def twoL : List Co := [⟨wId, 1, 1⟩, ⟨wMemo, 2, 4⟩, ⟨⟨#[112, 97, 105, 100]⟩, 3, 3⟩]

theorem CB.newAt (w : World) {b : Nat} (hb : w.heap.size = b) (T : TypeId) (cs : Array Value) : CB (w.alloc (.cells cs T)) b T cs := by subst hb; exact CB.new w T cs
theorem CB.al {w : World} {b : Nat} {T : TypeId} {cs : Array Value} (h : CB w b T cs) (o : Obj) : CB (w.alloc o) b T cs := h.below ((Below.refl _ _).alloc (Nat.le_refl _) _)
/-- the example's types, made where h blocks stood -/
def ordT (h : Nat) : List Tm := [⟨wOrder, [⟨[], none, 0, oneL, some ⟨h + 1, 0, none⟩, 2⟩, ⟨[], none, 0, twoL, some ⟨h + 1 + 1, 0, none⟩, 3⟩], some ⟨h + 1 + 1 + 1, 0, none⟩, 2⟩]
def ordA (h : Nat) : Option Addr := some ⟨h + 1 + 1 + 1 + 1, 0, none⟩
theorem tmC_size (x : Tm) : (tmC x).size = 2 := rfl
theorem vmC_size (x : Vm) : (vmC x).size = 2 := rfl
structure OrdAt (w w' : World) (h : Nat) : Prop where
  at_ : HsAt w' w'.heap.size (ordA h) (ordT h)
  old : Below w.heap.size w w'
theorem ordT_fit (h : Nat) : Hfit (ordT h) := by
  intro x hx
  obtain rfl := List.mem_singleton.1 hx
  refine ⟨by show wOrder.size ≤ _; decide, fun m hm => ?_⟩
  simp only [List.mem_cons, List.not_mem_nil, or_false] at hm
  rcases hm with rfl | rfl
  · refine ⟨fun y hy => ?_, by show oneL.length * 32 ≤ _; decide⟩
    simp only [oneL, List.mem_cons, List.not_mem_nil, or_false] at hy
    rcases hy with rfl | rfl <;> decide
  · refine ⟨fun y hy => ?_, by show twoL.length * 32 ≤ _; decide⟩
    simp only [twoL, List.mem_cons, List.not_mem_nil, or_false] at hy
    rcases hy with rfl | rfl | rfl <;> decide

set_option maxRecDepth 100000 in
set_option maxHeartbeats 1000000 in
theorem order_any (w : World) :
    Calls Tryd.prog 25 #[] w fun e w' => e = .returned (.agg #[.slice (ordA w.heap.size) 1 1]) ∧ OrdAt w w' w.heap.size := by
  go_enter Tryd.func25, Tryd.ntmps25
  go_wp2
  have c0 := CB.new w 24 #[.slice (some ⟨w.heap.size + 1 + 1 + 1 + 1, 0, none⟩) 1 1]
  have z1 : (w.alloc (.cells #[.slice (some ⟨w.heap.size + 1 + 1 + 1 + 1, 0, none⟩) 1 1] 24)).heap.size = w.heap.size + 1 := by simp
  have b1 : Below w.heap.size w (w.alloc (.cells #[.slice (some ⟨w.heap.size + 1 + 1 + 1 + 1, 0, none⟩) 1 1] 24)) := (Below.refl _ _).alloc (Nat.le_refl _) _
  generalize w.alloc (.cells #[.slice (some ⟨w.heap.size + 1 + 1 + 1 + 1, 0, none⟩) 1 1] 24) = w1 at *
  have d0 : RB coC 35 (w1.alloc (.cells #[.string ⟨#[105, 100]⟩, .int .i64 1, .int .i64 1, .string ⟨#[110, 111, 116, 101]⟩, .int .i64 2, .int .i64 4] 35)) (w.heap.size + 1) oneL := CB.newAt w1 z1 _ _
  have c1 := c0.al (.cells #[.string ⟨#[105, 100]⟩, .int .i64 1, .int .i64 1, .string ⟨#[110, 111, 116, 101]⟩, .int .i64 2, .int .i64 4] 35)
  have b2 := b1.alloc b1.size (.cells #[.string ⟨#[105, 100]⟩, .int .i64 1, .int .i64 1, .string ⟨#[110, 111, 116, 101]⟩, .int .i64 2, .int .i64 4] 35)
  have z2 : (w1.alloc (.cells #[.string ⟨#[105, 100]⟩, .int .i64 1, .int .i64 1, .string ⟨#[110, 111, 116, 101]⟩, .int .i64 2, .int .i64 4] 35)).heap.size = w.heap.size + 1 + 1 := by simp [z1]
  generalize w1.alloc (.cells #[.string ⟨#[105, 100]⟩, .int .i64 1, .int .i64 1, .string ⟨#[110, 111, 116, 101]⟩, .int .i64 2, .int .i64 4] 35) = w2 at *
  have e0 : RB coC 35 (w2.alloc (.cells #[.string ⟨#[105, 100]⟩, .int .i64 1, .int .i64 1, .string ⟨#[109, 101, 109, 111]⟩, .int .i64 2, .int .i64 4, .string ⟨#[112, 97, 105, 100]⟩, .int .i64 3, .int .i64 3] 35)) (w.heap.size + 1 + 1) twoL := CB.newAt w2 z2 _ _
  have d1 : RB coC 35 (w2.alloc (.cells #[.string ⟨#[105, 100]⟩, .int .i64 1, .int .i64 1, .string ⟨#[109, 101, 109, 111]⟩, .int .i64 2, .int .i64 4, .string ⟨#[112, 97, 105, 100]⟩, .int .i64 3, .int .i64 3] 35)) (w.heap.size + 1) oneL := CB.al d0 _
  have c2 := c1.al (.cells #[.string ⟨#[105, 100]⟩, .int .i64 1, .int .i64 1, .string ⟨#[109, 101, 109, 111]⟩, .int .i64 2, .int .i64 4, .string ⟨#[112, 97, 105, 100]⟩, .int .i64 3, .int .i64 3] 35)
  have b3 := b2.alloc b2.size (.cells #[.string ⟨#[105, 100]⟩, .int .i64 1, .int .i64 1, .string ⟨#[109, 101, 109, 111]⟩, .int .i64 2, .int .i64 4, .string ⟨#[112, 97, 105, 100]⟩, .int .i64 3, .int .i64 3] 35)
  have z3 : (w2.alloc (.cells #[.string ⟨#[105, 100]⟩, .int .i64 1, .int .i64 1, .string ⟨#[109, 101, 109, 111]⟩, .int .i64 2, .int .i64 4, .string ⟨#[112, 97, 105, 100]⟩, .int .i64 3, .int .i64 3] 35)).heap.size = w.heap.size + 1 + 1 + 1 := by simp [z2]
  generalize w2.alloc (.cells #[.string ⟨#[105, 100]⟩, .int .i64 1, .int .i64 1, .string ⟨#[109, 101, 109, 111]⟩, .int .i64 2, .int .i64 4, .string ⟨#[112, 97, 105, 100]⟩, .int .i64 3, .int .i64 3] 35) = w3 at *
  have f0 : RB vmC 45 (w3.alloc (.cells #[.slice none 0 0, .slice (some ⟨w.heap.size + 1, 0, none⟩) 2 2, .slice none 0 0, .slice (some ⟨w.heap.size + 1 + 1, 0, none⟩) 3 3] 45)) (w.heap.size + 1 + 1 + 1) [⟨[], none, 0, oneL, some ⟨w.heap.size + 1, 0, none⟩, 2⟩, ⟨[], none, 0, twoL, some ⟨w.heap.size + 1 + 1, 0, none⟩, 3⟩] := CB.newAt w3 z3 _ _
  have e1 : RB coC 35 (w3.alloc (.cells #[.slice none 0 0, .slice (some ⟨w.heap.size + 1, 0, none⟩) 2 2, .slice none 0 0, .slice (some ⟨w.heap.size + 1 + 1, 0, none⟩) 3 3] 45)) (w.heap.size + 1 + 1) twoL := CB.al e0 _
  have d2 : RB coC 35 (w3.alloc (.cells #[.slice none 0 0, .slice (some ⟨w.heap.size + 1, 0, none⟩) 2 2, .slice none 0 0, .slice (some ⟨w.heap.size + 1 + 1, 0, none⟩) 3 3] 45)) (w.heap.size + 1) oneL := CB.al d1 _
  have c3 := c2.al (.cells #[.slice none 0 0, .slice (some ⟨w.heap.size + 1, 0, none⟩) 2 2, .slice none 0 0, .slice (some ⟨w.heap.size + 1 + 1, 0, none⟩) 3 3] 45)
  have b4 := b3.alloc b3.size (.cells #[.slice none 0 0, .slice (some ⟨w.heap.size + 1, 0, none⟩) 2 2, .slice none 0 0, .slice (some ⟨w.heap.size + 1 + 1, 0, none⟩) 3 3] 45)
  have z4 : (w3.alloc (.cells #[.slice none 0 0, .slice (some ⟨w.heap.size + 1, 0, none⟩) 2 2, .slice none 0 0, .slice (some ⟨w.heap.size + 1 + 1, 0, none⟩) 3 3] 45)).heap.size = w.heap.size + 1 + 1 + 1 + 1 := by simp [z3]
  generalize w3.alloc (.cells #[.slice none 0 0, .slice (some ⟨w.heap.size + 1, 0, none⟩) 2 2, .slice none 0 0, .slice (some ⟨w.heap.size + 1 + 1, 0, none⟩) 3 3] 45) = w4 at *
  have g0 : RB tmC 48 (w4.alloc (.cells #[.string ⟨#[111, 114, 100, 101, 114]⟩, .slice (some ⟨w.heap.size + 1 + 1 + 1, 0, none⟩) 2 2] 48)) (w.heap.size + 1 + 1 + 1 + 1) (ordT w.heap.size) := CB.newAt w4 z4 _ _
  have f1 : RB vmC 45 (w4.alloc (.cells #[.string ⟨#[111, 114, 100, 101, 114]⟩, .slice (some ⟨w.heap.size + 1 + 1 + 1, 0, none⟩) 2 2] 48)) (w.heap.size + 1 + 1 + 1) [⟨[], none, 0, oneL, some ⟨w.heap.size + 1, 0, none⟩, 2⟩, ⟨[], none, 0, twoL, some ⟨w.heap.size + 1 + 1, 0, none⟩, 3⟩] := CB.al f0 _
  have e2 : RB coC 35 (w4.alloc (.cells #[.string ⟨#[111, 114, 100, 101, 114]⟩, .slice (some ⟨w.heap.size + 1 + 1 + 1, 0, none⟩) 2 2] 48)) (w.heap.size + 1 + 1) twoL := CB.al e1 _
  have d3 : RB coC 35 (w4.alloc (.cells #[.string ⟨#[111, 114, 100, 101, 114]⟩, .slice (some ⟨w.heap.size + 1 + 1 + 1, 0, none⟩) 2 2] 48)) (w.heap.size + 1) oneL := CB.al d2 _
  have c4 := c3.al (.cells #[.string ⟨#[111, 114, 100, 101, 114]⟩, .slice (some ⟨w.heap.size + 1 + 1 + 1, 0, none⟩) 2 2] 48)
  have b5 := b4.alloc b4.size (.cells #[.string ⟨#[111, 114, 100, 101, 114]⟩, .slice (some ⟨w.heap.size + 1 + 1 + 1, 0, none⟩) 2 2] 48)
  generalize w4.alloc (.cells #[.string ⟨#[111, 114, 100, 101, 114]⟩, .slice (some ⟨w.heap.size + 1 + 1 + 1, 0, none⟩) 2 2] 48) = w5 at *
  refine bodyPost_ret (results_cb rfl _ _ _ _ rfl c4 Tryd.underlying24 rfl (by kernel_rfl)) rfl ⟨rfl, ⟨⟨RB.reads tmC_size g0, fun x hx => ?_, by show 1 ≤ _; decide⟩, b5⟩⟩
  obtain rfl := List.mem_singleton.1 hx
  refine ⟨RB.reads vmC_size f1, fun m hm => ?_, by show 2 ≤ _; decide, Nat.le_refl _⟩
  simp only [List.mem_cons, List.not_mem_nil, or_false] at hm
  rcases hm with rfl | rfl
  · exact ⟨.inl rfl, RB.reads coC_size d3, by show 0 ≤ _; decide, by show 2 ≤ _; decide, Nat.le_refl _⟩
  · exact ⟨.inl rfl, RB.reads coC_size e2, by show 0 ≤ _; decide, by show 3 ≤ _; decide, Nat.le_refl _⟩

/-! ### awake -/
def recL : List Fd := [⟨1, ⟨1, 7, ⟨#[]⟩⟩⟩]
theorem recL_at (w : World) : FRow (w.alloc (.cells #[.int .i64 1, .int .i64 1, .int .u64 7, .string ⟨#[]⟩] 53)) (w.heap.size + 1) (some ⟨w.heap.size, 0, none⟩) recL := by
  refine .inr ⟨w.heap.size, 0, rfl, Nat.lt_succ_self _, fun i f hf => ?_⟩
  have h := fun j => (CB.new w 53 #[.int .i64 1, .int .i64 1, .int .u64 7, .string ⟨#[]⟩]).at_ j
  match i, hf with
  | 0, hf =>
    simp only [recL, List.getElem?_cons_zero, Option.some.injEq] at hf
    subst hf
    exact ⟨h 0, h 1, h 2, h 3⟩
  | i + 1, hf => simp [recL] at hf
theorem recL_good : Good recL ∧ Is 0 recL := by
  refine ⟨fun f hf => ?_, ?_⟩
  · obtain rfl := List.mem_singleton.1 hf
    exact ⟨by unfold Fit; decide, by decide⟩
  · refine ⟨by decide, by unfold Fit; decide, trivial⟩
theorem recL_cer : cer recL = 0 := by
  have h := enc_le (Int.le_refl 0) recL_good.2 recL_good.1
  have e : texts recL = 0 := rfl
  rw [e] at h
  exact (cer_ok recL_good.2 (by have : recL.length = 1 := rfl; omega)).1
theorem twoL_one : tyE (twoL.take 1) recL = 0 := by
  rw [ty_on _ (by rw [recL_cer]; decide), recL_cer]
  refine eqL_all rfl fun k x y hx hy => ?_
  match k, hx, hy with
  | 0, hx, hy =>
    simp only [recL, List.getElem?_cons_zero, Option.some.injEq] at hy
    simp only [twoL, List.take_succ_cons, List.getElem?_cons_zero, Option.some.injEq] at hx
    subst hx hy
    rfl
  | k + 1, hx, hy => simp [recL] at hy
theorem twoL_all : tyE twoL recL = 130 := ty_off (eqL_len (by decide))
theorem memo_at : colF wMemo twoL = (⟨wMemo, 2, 4⟩, true) := by
  have h1 : same wId wMemo = false := same_ne (by decide)
  unfold twoL
  rw [colF, if_neg (by rw [h1]; decide), colF, if_pos (same_self _)]
theorem ordT_find (h : Nat) : findI wOrder (ordT h) = 0 := by
  unfold findI ordT
  rw [findN, if_pos (same_self _)]
  rfl
theorem ordT_two (h : Nat) : colsR (ordT h) 0 2 = (twoL, 0) := rfl
theorem ordT_three (h : Nat) : colsR (ordT h) 0 3 = ([], 132) := rfl
theorem twoL_fit : Cfit twoL := by
  refine ⟨fun y hy => ?_, by decide⟩
  simp only [twoL, List.mem_cons, List.not_mem_nil, or_false] at hy
  rcases hy with rfl | rfl | rfl <;> decide
theorem HsAt.none (w : World) : HsAt w w.heap.size none [] := ⟨.inl rfl, fun x hx => (List.not_mem_nil hx).elim, by decide⟩

set_option maxRecDepth 100000 in
set_option maxHeartbeats 4000000 in
theorem awake_any {w0 w : World} (h : KSt w0 w) : Calls Tryd.prog 10 #[] w fun e w' => e = .returned (.bool true) ∧ Below w.heap.size w w' := by
  have H := Lib.hid h
  clear h
  go_enter Tryd.func10, Tryd.ntmps10
  go_wp2_with fail
  refine (order_any w).mono ?_
  rintro e w1 ⟨rfl, h1⟩
  have B1 := Lib.hid h1.old
  have C1 := columns_any (w := w1) 1 0 2 h1.at_ (ordT_fit _)
  rw [ordT_two] at C1
  dsimp only at C1
  rw [show twoL.length = 3 from rfl] at C1
  clear h1
  go_wp2_with fail
  refine C1.mono ?_
  rintro e w2 ⟨A2, c2, rfl, n2⟩
  clear C1
  obtain rfl : c2 = 3 := n2.cap
  have B2 := Lib.hid (B1.out.trans (n2.old.mono B1.out.size))
  have R2 := Lib.hid n2.reads
  clear n2 B1
  go_wp2_with fail
  refine (order_any w2).mono ?_
  rintro e w3 ⟨rfl, h3⟩
  have C3 := columns_any (w := w3) 1 0 3 h3.at_ (ordT_fit _)
  rw [ordT_three] at C3
  have B3 := Lib.hid (B2.out.trans (h3.old.mono B2.out.size))
  have R3 := Lib.hid (CoR.then_ R2.out h3.old)
  clear h3 B2 R2
  go_wp2_with fail
  refine C3.mono ?_
  rintro e w4 ⟨A4, c4, rfl, n4⟩
  clear C3
  have B4 := Lib.hid (B3.out.trans (n4.old.mono B3.out.size))
  have R4 := Lib.hid (CoR.then_ R3.out n4.old)
  clear n4 B3 R3
  have C5 := column_any (w := w4) 3 wMemo R4.out twoL_fit.n' (by decide)
  rw [memo_at, show twoL.length = 3 from rfl] at C5
  go_wp2_with fail
  refine C5.mono ?_
  rintro e w5 ⟨rfl, hb5⟩
  clear C5
  have B5 := Lib.hid (B4.out.trans (hb5.mono B4.out.size))
  have R5 := Lib.hid (CoR.then_ R4.out hb5)
  clear hb5 B4 R4
  unfold coC
  dsimp only
  have hB6 : Below w5.heap.size w5 ((w5.alloc (.cells #[.string wMemo, .int .i64 2, .int .i64 4] 35)).alloc (.cells #[.int .i64 1, .int .i64 1, .int .u64 7, .string ⟨#[]⟩] 53)) := ((Below.refl _ _).alloc (Nat.le_refl _) _).alloc (by simp) _
  have z5 : (w5.alloc (.cells #[.string wMemo, .int .i64 2, .int .i64 4] 35)).heap.size = w5.heap.size + 1 := by simp
  have hm6 : CB ((w5.alloc (.cells #[.string wMemo, .int .i64 2, .int .i64 4] 35)).alloc (.cells #[.int .i64 1, .int .i64 1, .int .u64 7, .string ⟨#[]⟩] 53)) w5.heap.size 35 #[.string wMemo, .int .i64 2, .int .i64 4] := (CB.new w5 _ _).al _
  have hr6 := recL_at (w5.alloc (.cells #[.string wMemo, .int .i64 2, .int .i64 4] 35))
  rw [z5] at hr6
  have hz6 : ((w5.alloc (.cells #[.string wMemo, .int .i64 2, .int .i64 4] 35)).alloc (.cells #[.int .i64 1, .int .i64 1, .int .u64 7, .string ⟨#[]⟩] 53)).heap.size = w5.heap.size + 1 + 1 := by simp
  rw [← hz6] at hr6
  have B6 := Lib.hid (B5.out.trans (hB6.mono B5.out.size))
  have R6 := Lib.hid (And.intro (CoR.then_ R5.out hB6) (And.intro hm6 hr6))
  obtain ⟨b5, hb5⟩ : ∃ b, w5.heap.size = b := ⟨_, rfl⟩
  simp only [hb5] at R6
  clear hB6 hm6 hr6 hz6 z5 B5 R5
  go_wp2_with fail
  generalize (w5.alloc (.cells #[.string wMemo, .int .i64 2, .int .i64 4] 35)).alloc (.cells #[.int .i64 1, .int .i64 1, .int .u64 7, .string ⟨#[]⟩] 53) = w6 at *
  clear hb5
  refine (order_any w6).mono ?_
  rintro e w7 ⟨rfl, h7⟩
  have B7 := Lib.hid (B6.out.trans (h7.old.mono B6.out.size))
  have R7 := Lib.hid (And.intro (CoR.then_ R6.out.1 h7.old) (And.intro (R6.out.2.1.below h7.old) (FRow.then_ R6.out.2.2 h7.old)))
  have C8 := find_any (w := w7) 1 wOrder h7.at_.row h7.at_.len
  rw [ordT_find] at C8
  clear h7 B6 R6
  go_wp2_with fail
  refine C8.mono ?_
  rintro e w8 ⟨rfl, hb8⟩
  clear C8
  have B8 := Lib.hid (B7.out.trans (hb8.mono B7.out.size))
  have R8 := Lib.hid (And.intro (CoR.then_ R7.out.1 hb8) (And.intro (R7.out.2.1.below hb8) (FRow.then_ R7.out.2.2 hb8)))
  have m0 : w8.cell? ⟨b5, 0, none⟩ = some (.string wMemo) := R8.out.2.1.at_ 0
  have m1 : w8.cell? ⟨b5, 1, none⟩ = some (.int .i64 2) := R8.out.2.1.at_ 1
  have m2 : w8.cell? ⟨b5, 2, none⟩ = some (.int .i64 4) := R8.out.2.1.at_ 2
  have hmt : wMemo.toList = [109, 101, 109, 111] := by rw [Lib.toList_data]; rfl
  have hcut : ∀ W : World, (Instr.sliceAt 29 (.slice A2 3 3) none (some (.int .i64 1)) none).run Tryd.prog W = .ok (.slice A2 1 3) W := CR.run_h (P := Tryd.prog) (s := 3) Tryd.underlying29 sizeCo A2 3 3 1 (by decide)
  have C9 := typed_any (H.out.then_ B8.out) 3 1 (a := twoL.take 1) (l := recL) ((R8.out.1).take 1) R8.out.2.2 recL_good.1 (by decide) (by decide)
  rw [twoL_one] at C9
  clear hb8 B7 R7
  go_wp2_with fail
  refine C9.mono ?_
  rintro e w9 ⟨rfl, hb9⟩
  clear C9 m0 m1 m2
  have B9 := Lib.hid (B8.out.trans (hb9.mono B8.out.size))
  have R9 := Lib.hid (And.intro (CoR.then_ R8.out.1 hb9) (FRow.then_ R8.out.2.2 hb9))
  have C10 := typed_any (H.out.then_ B9.out) 3 1 R9.out.1 R9.out.2 recL_good.1 (by decide) (by decide)
  rw [twoL_all] at C10
  clear hb9 B8 R8
  go_wp2_with fail
  refine C10.mono ?_
  rintro e w10 ⟨rfl, hb10⟩
  clear C10
  have B10 := Lib.hid (B9.out.trans (hb10.mono B9.out.size))
  clear hb10 B9 R9
  go_wp2_with fail
  refine (order_any w10).mono ?_
  rintro e w11 ⟨rfl, h11⟩
  have B11 := Lib.hid (B10.out.trans (h11.old.mono B10.out.size))
  have C12 := ext_any (w := w11) 0 1 (HsAt.none w11) h11.at_ (Nat.le_refl _)
  rw [extH_nil] at C12
  clear h11 B10
  go_wp2_with fail
  refine C12.mono ?_
  rintro e w12 ⟨rfl, hb12⟩
  clear C12
  go_wp2_with fail
  go_ret
  exact ⟨rfl, B11.out.trans (hb12.mono B11.out.size)⟩
end Go.Proofs.YtnflbnchkcigiaaDoor
