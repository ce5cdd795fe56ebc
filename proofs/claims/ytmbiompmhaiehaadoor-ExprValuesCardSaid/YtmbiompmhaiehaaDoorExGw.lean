/- Arrays by value: stored whole into a block that was just made, loaded whole from it, built whole: at a region's list of operations; the cells are whatever, no unrolling. -/
import Derived.Test.YtmbiompmhaiehaaDoorExGk
import Derived.Test.YtmbiompmhaiehaaDoorExGv
import Derived.Test.YtmbiompmhaiehaaDoorProg
import Derived.WalkKit
import Derived.Deep.WholeRow
import Derived.Deep.MidRow
import Derived.Laws.Tables
import Derived.BigCall
namespace Go.Proofs.YtmbiompmhaiehaaDoor
open Go.RowKit

section
variable {P : Program} {ops : Array Oper} {rest : List Oper} {op : Oper} {a : Act} {Q : Exit → Act → World → Prop}

/-- a whole array into the block that was made last -/
theorem wpList_store_last {W : World} (hgd : op.guard = none) (ty : TypeId) (x y : Operand) (ho : op.op = .store ty x y) (b : Nat) (c c' : Array Value)
    (hx : a.eval x = .pointer (some ⟨b, 0, none⟩)) (hy : a.eval y = .agg c') (hb : b = W.heap.size) (hi : (P.info? ty).map (·.size) = some c'.size) (hz : c.size = c'.size) (h1 : c'.all (·.oneCell') = true)
    (h : wpList P ops Q rest (a.put op.dst undef) (W.alloc (.cells c' ty))) : wpList P ops Q (op :: rest) a (W.alloc (.cells c ty)) :=
  wpList_plain hgd fun _ hK => by
    subst hb
    unfold Oper.wp execOp
    simp only [ho, hx, hy, Sem.run_bind, Sem.run_pure, Result.andThen_ok, run_storeAt_new W ty c c' hi hz h1]
    exact hK _ _ h

theorem setRow_alloc_two (w : World) (c c' : Array Value) (t : TypeId) (o : Obj) : ((w.alloc (.cells c t)).alloc o).setRow w.heap.size c' = (w.alloc (.cells c' t)).alloc o := by
  simp only [World.setRow, World.alloc]
  congr 1
  apply Array.ext_getElem?
  intro i
  rw [Array.getElem?_modify]
  by_cases h : w.heap.size = i
  · subst h
    simp [Array.getElem?_push]
  · rw [if_neg h]
    have h' : ¬ i = w.heap.size := fun e => h e.symm
    simp only [Array.getElem?_push, Array.size_push, h', if_false]
theorem heap_alloc_two (w : World) (o o' : Obj) : ((w.alloc o).alloc o').heap[w.heap.size]? = some o := by
  show ((w.heap.push o).push o')[w.heap.size]? = some o
  simp [Array.getElem?_push]

/-- a whole array into the block that was made last but one -/
theorem wpList_store_prev {W : World} (o : Obj) (hgd : op.guard = none) (ty : TypeId) (x y : Operand) (ho : op.op = .store ty x y) (b : Nat) (c c' : Array Value)
    (hx : a.eval x = .pointer (some ⟨b, 0, none⟩)) (hy : a.eval y = .agg c') (hb : b = W.heap.size) (hi : (P.info? ty).map (·.size) = some c'.size) (hz : c.size = c'.size) (h1 : c'.all (·.oneCell') = true)
    (h : wpList P ops Q rest (a.put op.dst undef) ((W.alloc (.cells c' ty)).alloc o)) : wpList P ops Q (op :: rest) a ((W.alloc (.cells c ty)).alloc o) :=
  wpList_plain hgd fun _ hK => by
    subst hb
    have := run_storeVar_row (P := P) ((W.alloc (.cells c ty)).alloc o) W.heap.size ty ty c c' (heap_alloc_two W _ _) hi hz h1
    rw [setRow_alloc_two] at this
    unfold Oper.wp execOp
    simp only [ho, hx, hy, Instr.storeAt, Instr.sureAddr, Sem.run_bind, Sem.run_pure, Result.andThen_ok, this]
    exact hK _ _ h

/-- a whole array out of the block that was made last -/
theorem wpList_load_last {W : World} (hgd : op.guard = none) (ty : TypeId) (x : Operand) (ho : op.op = .load ty x) (b n : Nat) (e : TypeId) (c : Array Value)
    (hx : a.eval x = .pointer (some ⟨b, 0, none⟩)) (hb : b = W.heap.size) (hu : P.underlying ty = some (.array n e)) (hi : (P.info? ty).map (·.size) = some c.size)
    (h : wpList P ops Q rest (a.put op.dst (.agg c)) (W.alloc (.cells c ty))) : wpList P ops Q (op :: rest) a (W.alloc (.cells c ty)) :=
  wpList_plain hgd fun _ hK => by
    subst hb
    unfold Oper.wp execOp
    simp only [ho, hx, Sem.run_bind, Sem.run_pure, Result.andThen_ok, run_loadAt_new W ty c n e hu hi]
    exact hK _ _ h

/-- a whole array or struct, built out of its parts -/
theorem wpList_build {W : World} (hgd : op.guard = none) (ty : TypeId) (parts : Array (Nat × Operand)) (ho : op.op = .build ty parts) (cells : Array Value)
    (hb : P.built ty (parts.map fun (i, x) => (i, a.eval x)).toList = some cells)
    (h : wpList P ops Q rest (a.put op.dst (.agg cells)) W) : wpList P ops Q (op :: rest) a W :=
  wpList_plain hgd fun _ hK => by
    unfold Oper.wp execOp
    simp only [ho, Sem.run_bind, Sem.run_pure, Result.andThen_ok, run_build W ty _ cells hb]
    exact hK _ _ h

/-- a result that is a variable of many cells: it is read whole -/
theorem results_row {fn : Func} {s : Tmp} {t : TypeId} (h : fn.results = #[.cell s t]) (tmps : Array Value) (w : World) (a : Addr) (v : Value) (hp : tmps.getD s undef = .pointer (some a)) (hl : (loadVar t a).run P w = .ok v w) :
    (results fn tmps).run P w = .ok v w := by
  unfold results
  rw [h]
  have hp' : tmps[s]?.getD undef = .pointer (some a) := by simpa [Array.getD_eq_getD_getElem?] using hp
  simp [hp', asAddr, hl]
theorem loadVar_last (w : World) (t : TypeId) (c : Array Value) (n : Nat) (e : TypeId) (hu : P.underlying t = some (.array n e)) (hi : (P.info? t).map (·.size) = some c.size) (b : Nat) (hb : b = w.heap.size) :
    (loadVar t ⟨b, 0, none⟩).run P (w.alloc (.cells c t)) = .ok (.agg c) (w.alloc (.cells c t)) := by
  subst hb; exact run_loadVar_new w t c n e hu hi
theorem loadVar_prev (w : World) (o : Obj) (t : TypeId) (c : Array Value) (n : Nat) (e : TypeId) (hu : P.underlying t = some (.array n e)) (hi : (P.info? t).map (·.size) = some c.size) (b : Nat) (hb : b = w.heap.size) :
    (loadVar t ⟨b, 0, none⟩).run P ((w.alloc (.cells c t)).alloc o) = .ok (.agg c) ((w.alloc (.cells c t)).alloc o) := by
  subst hb; exact run_loadVar_row _ _ t t c (0, 0) _ (heap_alloc_two w _ _) hu rfl hi
end
end Go.Proofs.YtmbiompmhaiehaaDoor
/- The walks of kind's functions that lean on no variable: entries. -/
namespace Go.Proofs.YtmbiompmhaiehaaDoor
open Go.RowKit

/-- the five entries' cells, of which n have their family, m their number -/
def entC (n m : Nat) : Array Value :=
  let f := fun k => Value.int .i64 (if k < n then 1 else 0)
  let g := fun (k : Nat) => Value.int .i64 (if k < m then (k + 1 : Nat) else 0)
  #[f 0, g 0, .string ⟨#[117, 105, 110, 116]⟩, .int .i64 10, f 1, g 1, .string ⟨#[105, 110, 116]⟩, .int .i64 10, f 2, g 2, .string ⟨#[98, 111, 111, 108]⟩, .int .i64 1, f 3, g 3, .string ⟨#[116, 101, 120, 116]⟩, .int .i64 0, f 4, g 4, .string ⟨#[98, 121, 116, 101, 115]⟩, .int .i64 0]
/-- what entries answers -/
def entriesC : Array Value := #[.int .i64 1, .int .i64 1, .string ⟨#[117, 105, 110, 116]⟩, .int .i64 10, .int .i64 1, .int .i64 2, .string ⟨#[105, 110, 116]⟩, .int .i64 10, .int .i64 1, .int .i64 3, .string ⟨#[98, 111, 111, 108]⟩, .int .i64 1, .int .i64 1, .int .i64 4, .string ⟨#[116, 101, 120, 116]⟩, .int .i64 0, .int .i64 1, .int .i64 5, .string ⟨#[98, 121, 116, 101, 115]⟩, .int .i64 0]
def zeroC : Array Value := #[.int .i64 0, .int .i64 0, .string ⟨#[]⟩, .int .i64 0, .int .i64 0, .int .i64 0, .string ⟨#[]⟩, .int .i64 0, .int .i64 0, .int .i64 0, .string ⟨#[]⟩, .int .i64 0, .int .i64 0, .int .i64 0, .string ⟨#[]⟩, .int .i64 0, .int .i64 0, .int .i64 0, .string ⟨#[]⟩, .int .i64 0]

/-- the world behind k rounds -/
def EntAt (w : World) (k : Nat) (wr : World) : Prop := wr = (w.alloc (.cells zeroC 87)).alloc (.cells (entC k k) 87)

set_option maxRecDepth 100000 in
set_option maxHeartbeats 1000000 in
theorem entries_any (w : World) :
    Calls Tryd.prog 44 #[] w fun e w' => e = .returned (.agg entriesC) ∧ Below w.heap.size w w' := by
  go_enter Tryd.func44, Tryd.ntmps44
  go_wp2_with (first | (refine wpList_build rfl 87 _ rfl (entC 0 0) (by kernel_rfl) ?_) | (refine wpList_store_last rfl 87 _ _ rfl _ _ _ rfl rfl ?hb ?hi ?hz ?h1 ?hh; (case hb => simp); (case hi => kernel_rfl); (case hz => rfl); (case h1 => kernel_rfl)))
  go_loopw [9] (fun i wr => ∃ k : Nat, k ≤ 5 ∧ i = .int .i64 k ∧ EntAt w k wr) (fun i _ => 5 - (intOf i).toNat)
  case atStart => exact ⟨0, by omega, rfl, rfl⟩
  case round =>
    obtain ⟨k, hk, rfl, hw⟩ := hrel
    unfold EntAt at hw
    by_cases h5 : k = 5
    · subst h5
      subst hw
      go_wp2_with (first | (refine wpList_load_last rfl 87 _ rfl _ 5 86 _ rfl ?l2 ?m2 ?n2 ?o2; (case l2 => simp); (case m2 => kernel_rfl); (case n2 => kernel_rfl)) | (refine wpList_store_prev _ rfl 87 _ _ rfl _ _ _ rfl rfl ?p2 ?q2 ?r2 ?s2 ?t2; (case p2 => simp); (case q2 => kernel_rfl); (case r2 => rfl); (case s2 => kernel_rfl)))
      refine bodyPost_ret (results_row Tryd.results44 _ _ ⟨w.heap.size, 0, none⟩ (.agg entriesC) rfl (loadVar_prev w _ 87 entriesC 5 86 (by kernel_rfl) (by kernel_rfl) _ rfl)) rfl ⟨rfl, ?_⟩
      exact ((Below.refl _ _).alloc (Nat.le_refl _) _).alloc (by simp) _
    · have hk4 : k = 0 ∨ k = 1 ∨ k = 2 ∨ k = 3 ∨ k = 4 := by omega
      rcases hk4 with rfl | rfl | rfl | rfl | rfl
      all_goals
        simp only [entC] at hw
        subst hw
        go_wp2
        go_roundw
        case rel => first | exact ⟨1, by omega, rfl, rfl⟩ | exact ⟨2, by omega, rfl, rfl⟩ | exact ⟨3, by omega, rfl, rfl⟩ | exact ⟨4, by omega, rfl, rfl⟩ | exact ⟨5, by omega, rfl, rfl⟩
        case measure => simp [intOf]
end Go.Proofs.YtmbiompmhaiehaaDoor
/- The walks of kind.Of and kind.Name. -/
namespace Go.Proofs.YtmbiompmhaiehaaDoor
open Go.RowKit

/-- the cells of the entry at place k -/
def entR (k : Nat) : Array Value := entriesC.extract (4 * k) (4 * k + 4)
def nameB (k : Nat) : ByteArray := ⟨(knameL (k + 1 : Nat)).toArray⟩
theorem entR_eq : entR 0 = #[.int .i64 1, .int .i64 1, .string ⟨#[117, 105, 110, 116]⟩, .int .i64 10] ∧ entR 1 = #[.int .i64 1, .int .i64 2, .string ⟨#[105, 110, 116]⟩, .int .i64 10] ∧
    entR 2 = #[.int .i64 1, .int .i64 3, .string ⟨#[98, 111, 111, 108]⟩, .int .i64 1] ∧ entR 3 = #[.int .i64 1, .int .i64 4, .string ⟨#[116, 101, 120, 116]⟩, .int .i64 0] ∧ entR 4 = #[.int .i64 1, .int .i64 5, .string ⟨#[98, 121, 116, 101, 115]⟩, .int .i64 0] := ⟨rfl, rfl, rfl, rfl, rfl⟩
theorem ent_index0 (w : World) : (Instr.index 87 (.agg entriesC) (.int .i64 0)).run Tryd.prog w = .ok (.agg #[.int .i64 1, .int .i64 1, .string ⟨#[117, 105, 110, 116]⟩, .int .i64 10]) w := by kernel_rfl
theorem ent_index1 (w : World) : (Instr.index 87 (.agg entriesC) (.int .i64 1)).run Tryd.prog w = .ok (.agg #[.int .i64 1, .int .i64 2, .string ⟨#[105, 110, 116]⟩, .int .i64 10]) w := by kernel_rfl
theorem ent_index2 (w : World) : (Instr.index 87 (.agg entriesC) (.int .i64 2)).run Tryd.prog w = .ok (.agg #[.int .i64 1, .int .i64 3, .string ⟨#[98, 111, 111, 108]⟩, .int .i64 1]) w := by kernel_rfl
theorem ent_index3 (w : World) : (Instr.index 87 (.agg entriesC) (.int .i64 3)).run Tryd.prog w = .ok (.agg #[.int .i64 1, .int .i64 4, .string ⟨#[116, 101, 120, 116]⟩, .int .i64 0]) w := by kernel_rfl
theorem ent_index4 (w : World) : (Instr.index 87 (.agg entriesC) (.int .i64 4)).run Tryd.prog w = .ok (.agg #[.int .i64 1, .int .i64 5, .string ⟨#[98, 121, 116, 101, 115]⟩, .int .i64 0]) w := by kernel_rfl

/-- none of the first k names is this -/
def NotIn (k : Nat) (l : List UInt8) : Prop := ∀ j : Nat, j < k → l ≠ knameL (j + 1 : Nat)
theorem NotIn.next {k : Nat} {s : ByteArray} {m : List UInt8} (h : NotIn k s.data.toList) (hm : knameL (k + 1 : Nat) = m) (hn : (m == s.toList) = false) : NotIn (k + 1) s.data.toList := by
  intro j hj
  rcases Nat.lt_or_ge j k with g | g
  · exact h j g
  · obtain rfl : j = k := by omega
    rw [hm]
    intro e
    rw [Lib.toList_data, e] at hn
    simp at hn
theorem of_hit {s : ByteArray} {m : List UInt8} {F k : Int} (hF : ofL s.data.toList = F) (hm : ofL m = k) (hn : (m == s.toList) = true) : F = k := by
  rw [Lib.toList_data] at hn
  have := eq_of_beq hn
  rw [← hF, ← this, hm]
theorem of_miss {l : List UInt8} {F : Int} (hF : ofL l = F) (h : NotIn 5 l) : F = 0 := by
  rw [← hF]
  rcases of_cases l with ⟨g, _⟩ | ⟨g, _⟩ | ⟨g, _⟩ | ⟨g, _⟩ | ⟨g, _⟩ | ⟨_, _, _, _, _, e⟩
  · exact absurd g (h 0 (by omega))
  · exact absurd g (h 1 (by omega))
  · exact absurd g (h 2 (by omega))
  · exact absurd g (h 3 (by omega))
  · exact absurd g (h 4 (by omega))
  · exact e

set_option maxRecDepth 100000 in
set_option maxHeartbeats 1000000 in
theorem of_any (w : World) (s : ByteArray) :
    Calls Tryd.prog 116 #[.string s] w fun e w' => e = .returned (.int .i64 (ofL s.data.toList)) ∧ Below w.heap.size w w' := by
  have i0 := ent_index0
  have i1 := ent_index1
  have i2 := ent_index2
  have i3 := ent_index3
  have i4 := ent_index4
  obtain ⟨F, hF⟩ : ∃ F, ofL s.data.toList = F := ⟨_, rfl⟩
  rw [hF]
  have HF := Lib.hid hF
  clear hF
  go_enter Tryd.func116, Tryd.ntmps116
  go_wp2_with (go_at_call 44; refine (entries_any _).mono ?_; rintro e w' ⟨rfl, hb⟩)
  go_loopw [6] (fun i wr => ∃ k : Nat, k ≤ 5 ∧ i = .int .i64 k ∧ Below w.heap.size w wr ∧ NotIn k s.data.toList) (fun i _ => 5 - (intOf i).toNat)
  case atStart => exact ⟨0, by omega, rfl, hb, fun j hj => by omega⟩
  case round =>
    obtain ⟨k, hk, rfl, hB, hN⟩ := hrel
    have HN := Lib.hid hN
    clear hN
    have hk4 : k = 0 ∨ k = 1 ∨ k = 2 ∨ k = 3 ∨ k = 4 ∨ k = 5 := by omega
    rcases hk4 with rfl | rfl | rfl | rfl | rfl | rfl
    rotate_right
    · go_wp2
      go_ret
      exact ⟨ret_int (of_miss HF.out HN.out).symm, hB⟩
    all_goals
      go_wp2
      · go_ret
        rename_i h1
        exact ⟨ret_int (of_hit HF.out (by decide) h1).symm, hB.alloc hB.size _⟩
      · rename_i h1
        go_roundw
        case rel => exact ⟨_, by decide, (by rfl), hB.alloc hB.size _, HN.out.next (by decide) h1⟩
        case measure => simp [intOf]

theorem name_hit {k m : Int} {F G : ByteArray} (hF : (⟨(knameL k).toArray⟩ : ByteArray) = F) (hk : (m == k) = true) (hm : (⟨(knameL m).toArray⟩ : ByteArray) = G) : F = G := by
  rw [← hF, ← eq_of_beq hk, hm]
theorem num_next {k n : Int} (h : n < 1 ∨ k < n) (hn : ((k + 1) == n) = false) : n < 1 ∨ k + 1 < n := by
  have : ¬ (k + 1 = n) := by simpa using hn
  omega

set_option maxRecDepth 100000 in
set_option maxHeartbeats 1000000 in
theorem name_any (w : World) (n : Int) :
    Calls Tryd.prog 25 #[.int .i64 n] w fun e w' => e = .returned (.string ⟨(knameL n).toArray⟩) ∧ Below w.heap.size w w' := by
  have i0 := ent_index0
  have i1 := ent_index1
  have i2 := ent_index2
  have i3 := ent_index3
  have i4 := ent_index4
  obtain ⟨F, hF⟩ : ∃ F, (⟨(knameL n).toArray⟩ : ByteArray) = F := ⟨_, rfl⟩
  rw [hF]
  have HF := Lib.hid hF
  clear hF
  go_enter Tryd.func25, Tryd.ntmps25
  go_wp2_with (go_at_call 44; refine (entries_any _).mono ?_; rintro e w' ⟨rfl, hb⟩)
  go_loopw [6] (fun i wr => ∃ k : Nat, k ≤ 5 ∧ i = .int .i64 k ∧ Below w.heap.size w wr ∧ (n < 1 ∨ (k : Int) < n)) (fun i _ => 5 - (intOf i).toNat)
  case atStart => exact ⟨0, by omega, rfl, hb, by omega⟩
  case round =>
    obtain ⟨k, hk, rfl, hB, hN⟩ := hrel
    have HN := Lib.hid hN
    clear hN
    have hk4 : k = 0 ∨ k = 1 ∨ k = 2 ∨ k = 3 ∨ k = 4 ∨ k = 5 := by omega
    rcases hk4 with rfl | rfl | rfl | rfl | rfl | rfl
    rotate_right
    · go_wp2
      go_ret
      refine ⟨?_, hB⟩
      have h1 := HN.out
      rw [← HF.out, (name_none n).2 (by omega)]
      rfl
    all_goals
      go_wp2
      · rename_i h1
        go_ret
        have e := name_hit HF.out h1 rfl
        subst e
        exact ⟨rfl, hB.alloc hB.size _⟩
      · rename_i h1
        go_roundw
        case rel => exact ⟨_, by decide, (by rfl), hB.alloc hB.size _, num_next HN.out h1⟩
        case measure => simp [intOf]
end Go.Proofs.YtmbiompmhaiehaaDoor
