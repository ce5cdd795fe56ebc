/- The table of conversions and what asks it: find, From, To, Sure, Between, Base, Count; the text of an int read. -/
import Derived.Test.YtijgcfnjbfaelaaDoorConvDo
import Derived.Test.YtijgcfnjbfaelaaDoorKindNums
import Derived.Test.YtijgcfnjbfaelaaDoorArr
namespace Go.Proofs.YtijgcfnjbfaelaaDoor
open Go.RowKit

theorem cbytes_any {w : World} (h : KVars w) : Calls Tryd.prog 55 #[] w fun e w' => e = .returned (.int .i64 5) ∧ w' = w := by
  have hc := h.y
  go_enter Tryd.func55, Tryd.ntmps55
  go_wp2
  go_ret
  exact ⟨rfl, rfl⟩

/-- the function that does a conversion -/
def doF (n : Int) : Value :=
  if n = 1 then .func (.func 44) #[] #[]
  else if n = 2 then .func (.func 44) #[] #[]
  else if n = 3 then .func (.func 46) #[] #[]
  else if n = 4 then .func (.func 47) #[] #[]
  else if n = 5 then .func (.func 48) #[] #[]
  else if n = 6 then .func (.func 49) #[] #[]
  else if n = 7 then .func (.func 51) #[] #[]
  else if n = 8 then .func (.func 52) #[] #[]
  else if n = 9 then .func (.func 53) #[] #[]
  else if n = 10 then .func (.func 54) #[] #[]
  else if n = 11 then .func (.func 53) #[] #[]
  else if n = 12 then .func (.func 56) #[] #[]
  else .nilFunc
/-- a conversion's parts as the machine holds them -/
def cvC (n : Int) : Array Value := #[.int .i64 (cfr n), .int .i64 (cto n), .bool (csu n), doF n]
theorem doF_cell (n : Int) : (doF n).oneCell' = true := by
  unfold doF
  repeat' split
  all_goals rfl
theorem cvC_cells (n : Int) : (cvC n).all (·.oneCell') = true := by
  have := doF_cell n
  simpa [cvC, Value.oneCell'] using this
theorem cvC_out {n : Int} (h : ¬ (1 ≤ n ∧ n ≤ 12)) : cvC n = #[.int .i64 0, .int .i64 0, .bool false, .nilFunc] := by
  obtain ⟨a, b⟩ := out12 h
  have c : csu n = false := by unfold csu; exact decide_eq_false (by omega)
  have d : doF n = .nilFunc := by unfold doF; repeat rw [if_neg (by omega)]
  unfold cvC
  rw [a, b, c, d]
/-- the whole table -/
def convsC : Array Value := #[.int .i64 1, .int .i64 2, .bool false, .func (.func 44) #[] #[], .int .i64 2, .int .i64 1, .bool false, .func (.func 44) #[] #[], .int .i64 1, .int .i64 4, .bool true, .func (.func 46) #[] #[], .int .i64 2, .int .i64 4, .bool true, .func (.func 47) #[] #[], .int .i64 4, .int .i64 1, .bool false, .func (.func 48) #[] #[], .int .i64 4, .int .i64 2, .bool false, .func (.func 49) #[] #[], .int .i64 3, .int .i64 4, .bool true, .func (.func 51) #[] #[], .int .i64 4, .int .i64 3, .bool false, .func (.func 52) #[] #[], .int .i64 3, .int .i64 1, .bool true, .func (.func 53) #[] #[], .int .i64 1, .int .i64 3, .bool false, .func (.func 54) #[] #[], .int .i64 4, .int .i64 5, .bool true, .func (.func 53) #[] #[], .int .i64 5, .int .i64 4, .bool false, .func (.func 56) #[] #[]]
def convs0 : Array Value := #[.int .i64 0, .int .i64 0, .bool false, .nilFunc, .int .i64 0, .int .i64 0, .bool false, .nilFunc, .int .i64 0, .int .i64 0, .bool false, .nilFunc, .int .i64 0, .int .i64 0, .bool false, .nilFunc, .int .i64 0, .int .i64 0, .bool false, .nilFunc, .int .i64 0, .int .i64 0, .bool false, .nilFunc, .int .i64 0, .int .i64 0, .bool false, .nilFunc, .int .i64 0, .int .i64 0, .bool false, .nilFunc, .int .i64 0, .int .i64 0, .bool false, .nilFunc, .int .i64 0, .int .i64 0, .bool false, .nilFunc, .int .i64 0, .int .i64 0, .bool false, .nilFunc, .int .i64 0, .int .i64 0, .bool false, .nilFunc]

/-- the block g holds just this conversion -/
def CBlk (w : World) (g : Nat) (n : Int) : Prop := w.heap[g]? = some (.cells (cvC n) 50 (0, 0))
section
variable {w w' : World} {g : Nat} {n : Int}
theorem CBlk.new (w : World) (n : Int) : CBlk (w.alloc (.cells (cvC n) 50)) w.heap.size n := heap_alloc_new w _
theorem CBlk.len (h : CBlk w g n) : g < w.heap.size := (Array.getElem?_eq_some_iff.1 h).1
theorem CBlk.cells (h : CBlk w g n) : w.cell? ⟨g, 0, none⟩ = some (.int .i64 (cfr n)) ∧ w.cell? ⟨g, 1, none⟩ = some (.int .i64 (cto n)) ∧ w.cell? ⟨g, 2, none⟩ = some (.bool (csu n)) ∧ w.cell? ⟨g, 3, none⟩ = some (doF n) := by
  have q := fun j => cell_of_row w g j _ 50 (0, 0) h
  exact ⟨q 0, q 1, q 2, q 3⟩
theorem CBlk.frozen (h : CBlk w g n) (i : Nat) : w.frozen? ⟨g, i, none⟩ = false := by
  unfold CBlk at h
  simp [World.frozen?, h]
theorem CBlk.there (h : CBlk w g n) : w.there g 0 4 := fun j hj => by
  refine ⟨?_, h.frozen _⟩
  rw [cell_of_row w g _ _ 50 (0, 0) h, Nat.zero_add, Array.getElem?_eq_getElem (show j < (cvC n).size from hj)]
  rfl
theorem CBlk.keep (h : CBlk w g n) (hb : w'.heap[g]? = w.heap[g]?) : CBlk w' g n := hb.trans h
theorem CBlk.below (h : CBlk w g n) (hb : Below w.heap.size w w') : CBlk w' g n := h.keep (hb.block g h.len)
theorem CBlk.new_ (h : CBlk w g n) (o : Obj) : CBlk (w.alloc o) g n := h.keep (heap_alloc_old w _ h.len)
theorem CBlk.set (h : CBlk w g n) (m : Int) : CBlk (w.setCells g 0 (cvC m).toList) g m := by
  have h0 := heap_setCell_same w g 0 _ _ (.int .i64 (cfr m)) h
  have h1 := heap_setCell_same _ g 1 _ _ (.int .i64 (cto m)) h0
  have h2 := heap_setCell_same _ g 2 _ _ (.bool (csu m)) h1
  have h3 := heap_setCell_same _ g 3 _ _ (doF m) h2
  exact h3
end
/-- a conversion stored whole into its block -/
theorem wpList_store_cv {ops : Array Oper} {rest : List Oper} {op : Oper} {a : Act} {w : World} {Q : Exit → Act → World → Prop} (hgd : op.guard = none) (x y : Operand) (ho : op.op = .store 50 x y)
    (g : Nat) (n0 n : Int) (hx : a.eval x = .pointer (some ⟨g, 0, none⟩)) (hy : a.eval y = .agg (cvC n)) (hB : CBlk w g n0)
    (h : ∀ w2, CBlk w2 g n → Turned g w w2 → wpList Tryd.prog ops Q rest (a.put op.dst undef) w2) : wpList Tryd.prog ops Q (op :: rest) a w :=
  wpList_store_mid hgd 50 x y ho g 0 (cvC n) hx hy hB.there (by kernel_rfl) (cvC_cells n) (h _ (hB.set n) (Turned.setCells _ _ _ (Turned.refl g w)))
/-- a conversion and a truth value: what is answered -/
theorem CBlk.load {w : World} {g : Nat} {n : Int} (h : CBlk w g n) : (loadVar 50 ⟨g, 0, none⟩).run Tryd.prog w = .ok (.agg (cvC n)) w := by
  have hc : w.rangeAt g 0 (cvC n).toList := fun j x hx => by
    rw [cell_of_row w g _ _ 50 (0, 0) h, Nat.zero_add, ← Array.getElem?_toList]; exact hx
  exact run_loadVar_mid w g 0 50 (cvC n).toList _ hc Tryd.underlying50 rfl (by kernel_rfl)
theorem results_cv {fn : Func} {s t : Tmp} (h : fn.results = #[.cell s 50, .tmp t]) (tmps : Array Value) (w : World) (g : Nat) (n : Int) (u : Value)
    (hp : tmps.getD s undef = .pointer (some ⟨g, 0, none⟩)) (he : tmps.getD t undef = u) (hg : CBlk w g n) : (results fn tmps).run Tryd.prog w = .ok (.tuple #[.agg (cvC n), u]) w := by
  unfold results
  rw [h]
  have hp' : tmps[s]?.getD undef = .pointer (some ⟨g, 0, none⟩) := by simpa [Array.getD_eq_getD_getElem?] using hp
  have he' : tmps[t]?.getD undef = u := by simpa [Array.getD_eq_getD_getElem?] using he
  simp [hp', he', asAddr, hg.load]
theorem cv_at0 (w : World) : (Instr.index 55 (.agg convsC) (.int .i64 0)).run Tryd.prog w = .ok (.agg (cvC 1)) w := by kernel_rfl
theorem cv_at1 (w : World) : (Instr.index 55 (.agg convsC) (.int .i64 1)).run Tryd.prog w = .ok (.agg (cvC 2)) w := by kernel_rfl
theorem cv_at2 (w : World) : (Instr.index 55 (.agg convsC) (.int .i64 2)).run Tryd.prog w = .ok (.agg (cvC 3)) w := by kernel_rfl
theorem cv_at3 (w : World) : (Instr.index 55 (.agg convsC) (.int .i64 3)).run Tryd.prog w = .ok (.agg (cvC 4)) w := by kernel_rfl
theorem cv_at4 (w : World) : (Instr.index 55 (.agg convsC) (.int .i64 4)).run Tryd.prog w = .ok (.agg (cvC 5)) w := by kernel_rfl
theorem cv_at5 (w : World) : (Instr.index 55 (.agg convsC) (.int .i64 5)).run Tryd.prog w = .ok (.agg (cvC 6)) w := by kernel_rfl
theorem cv_at6 (w : World) : (Instr.index 55 (.agg convsC) (.int .i64 6)).run Tryd.prog w = .ok (.agg (cvC 7)) w := by kernel_rfl
theorem cv_at7 (w : World) : (Instr.index 55 (.agg convsC) (.int .i64 7)).run Tryd.prog w = .ok (.agg (cvC 8)) w := by kernel_rfl
theorem cv_at8 (w : World) : (Instr.index 55 (.agg convsC) (.int .i64 8)).run Tryd.prog w = .ok (.agg (cvC 9)) w := by kernel_rfl
theorem cv_at9 (w : World) : (Instr.index 55 (.agg convsC) (.int .i64 9)).run Tryd.prog w = .ok (.agg (cvC 10)) w := by kernel_rfl
theorem cv_at10 (w : World) : (Instr.index 55 (.agg convsC) (.int .i64 10)).run Tryd.prog w = .ok (.agg (cvC 11)) w := by kernel_rfl
theorem cv_at11 (w : World) : (Instr.index 55 (.agg convsC) (.int .i64 11)).run Tryd.prog w = .ok (.agg (cvC 12)) w := by kernel_rfl
theorem cv_all {i : Int} (i0 : 0 ≤ i) (i1 : i < 12) (w : World) : (Instr.index 55 (.agg convsC) (.int .i64 i)).run Tryd.prog w = .ok (.agg (cvC (i + 1))) w := by
  have q : i = 0 ∨ i = 1 ∨ i = 2 ∨ i = 3 ∨ i = 4 ∨ i = 5 ∨ i = 6 ∨ i = 7 ∨ i = 8 ∨ i = 9 ∨ i = 10 ∨ i = 11 := by omega
  rcases q with rfl | rfl | rfl | rfl | rfl | rfl | rfl | rfl | rfl | rfl | rfl | rfl
  · exact cv_at0 w
  · exact cv_at1 w
  · exact cv_at2 w
  · exact cv_at3 w
  · exact cv_at4 w
  · exact cv_at5 w
  · exact cv_at6 w
  · exact cv_at7 w
  · exact cv_at8 w
  · exact cv_at9 w
  · exact cv_at10 w
  · exact cv_at11 w

set_option maxRecDepth 100000 in
set_option maxHeartbeats 1000000 in
theorem convs_any {w : World} (h : KVars w) : Calls Tryd.prog 30 #[] w fun e w' => e = .returned (.agg convsC) ∧ Below w.heap.size w w' := by
  have k : KVars (w.alloc (.cells convs0 55)) := h.below ((Below.refl _ _).alloc (Nat.le_refl _) _)
  go_enter Tryd.func30, Tryd.ntmps30
  go_wp2_with (first
    | (go_at_call 42; refine (uint_any k).mono ?_; rintro e w' ⟨rfl, rfl⟩)
    | (go_at_call 43; refine (int_any k).mono ?_; rintro e w' ⟨rfl, rfl⟩)
    | (go_at_call 50; refine (bool_any k).mono ?_; rintro e w' ⟨rfl, rfl⟩)
    | (go_at_call 45; refine (text_any k).mono ?_; rintro e w' ⟨rfl, rfl⟩)
    | (go_at_call 55; refine (cbytes_any k).mono ?_; rintro e w' ⟨rfl, rfl⟩)
    | (refine wpList_build rfl 55 _ rfl convsC (by kernel_rfl) ?_)
    | (refine wpList_store_last rfl 55 _ _ rfl _ _ _ rfl rfl ?hb ?hi ?hz ?h1 ?hh; (case hb => simp); (case hi => kernel_rfl); (case hz => rfl); (case h1 => kernel_rfl)))
  refine bodyPost_ret (results_row Tryd.results30 _ _ ⟨w.heap.size, 0, none⟩ (.agg convsC) rfl (loadVar_last w 55 convsC 12 50 (by kernel_rfl) (by kernel_rfl) _ rfl)) rfl ⟨rfl, ?_⟩
  exact (Below.refl _ _).alloc (Nat.le_refl _) _

set_option maxRecDepth 100000 in
set_option maxHeartbeats 2000000 in
theorem find_any {w : World} (h : KVars w) (n : Int) : Calls Tryd.prog 29 #[.int .i64 n] w fun e w' => e = .returned (.tuple #[.agg (cvC n), .bool (decide (1 ≤ n ∧ n ≤ 12))]) ∧ Below w.heap.size w w' := by
  have hB0 : Below w.heap.size w (w.alloc (.cells (cvC 0) 50)) := (Below.refl _ _).alloc (Nat.le_refl _) _
  have h0 := CBlk.new w 0
  have k := h.below hB0
  by_cases g : 1 ≤ n ∧ n ≤ 12
  · rw [decide_eq_true g]
    have cc := convs_any k
    have ci := fun w => cv_all (i := n - 1) (by omega) (by omega) w
    simp only [show n - 1 + 1 = n by omega] at ci
    have g1 : ¬ n < 1 := by omega
    have g2 : ¬ 12 < n := by omega
    have hwr : IntKind.i64.wrap (n - 1) = n - 1 := by rw [IntKind.wrap_i64]; omega
    clear h g
    go_enter Tryd.func29, Tryd.ntmps29
    go_wp2_with (first
      | (go_at_call 30; refine cc.mono ?_; rintro e w3 ⟨rfl, hb⟩; have h3 := h0.below hb; have hB3 := hB0.trans (hb.mono hB0.size))
      | (refine wpList_store_cv rfl (.tmp 2) (.tmp 14) rfl w.heap.size 0 n rfl rfl h3 ?_; intro w9 h9 t9))
    exact bodyPost_ret (v := .tuple #[.agg (cvC n), .bool true]) (results_cv rfl _ _ _ _ _ rfl rfl h9) rfl ⟨rfl, hB3.trans (t9.below (Nat.le_refl _))⟩
  · rw [decide_eq_false g, show cvC n = cvC 0 from (cvC_out g).trans (cvC_out (by decide)).symm]
    have g1 : n < 1 ∨ (¬ n < 1 ∧ 12 < n) := by omega
    clear h k g
    rcases g1 with g1 | ⟨g1, g2⟩
    all_goals
      go_enter Tryd.func29, Tryd.ntmps29
      go_wp2_with (refine wpList_store_cv rfl (.tmp 2) (.tmp 10) rfl w.heap.size 0 0 rfl rfl h0 ?_; intro w9 h9 t9)
      exact bodyPost_ret (v := .tuple #[.agg (cvC 0), .bool false]) (results_cv rfl _ _ _ _ _ rfl rfl h9) rfl ⟨rfl, hB0.trans (t9.below (Nat.le_refl _))⟩

set_option maxRecDepth 100000 in
set_option maxHeartbeats 1000000 in
theorem cfrom_any {w0 w : World} (h : CSt w0 w) (n : Int) : Calls Tryd.prog 15 #[.int .i64 n] w fun e w' => e = .returned (.int .i64 (cfr n)) ∧ Below w.heap.size w w' := by
  have cf := find_any h.k.k n
  go_enter Tryd.func15, Tryd.ntmps15
  go_wp2_with (first
    | (go_at_call 29; refine cf.mono ?_; rintro e w3 ⟨rfl, hb⟩; have h3 := CBlk.new w3 0; have hB3 := hb.alloc (o := .cells (cvC 0) 50) hb.size)
    | (refine wpList_store_cv rfl (.tmp 3) (.tmp 8) rfl w3.heap.size 0 n rfl rfl h3 ?_; intro w9 h9 t9; obtain ⟨q0, q1, q2, q3⟩ := h9.cells))
  go_ret
  exact ⟨rfl, hB3.trans (t9.below hb.size)⟩

set_option maxRecDepth 100000 in
set_option maxHeartbeats 1000000 in
theorem cto_any {w0 w : World} (h : CSt w0 w) (n : Int) : Calls Tryd.prog 17 #[.int .i64 n] w fun e w' => e = .returned (.int .i64 (cto n)) ∧ Below w.heap.size w w' := by
  have cf := find_any h.k.k n
  go_enter Tryd.func17, Tryd.ntmps17
  go_wp2_with (first
    | (go_at_call 29; refine cf.mono ?_; rintro e w3 ⟨rfl, hb⟩; have h3 := CBlk.new w3 0; have hB3 := hb.alloc (o := .cells (cvC 0) 50) hb.size)
    | (refine wpList_store_cv rfl (.tmp 3) (.tmp 8) rfl w3.heap.size 0 n rfl rfl h3 ?_; intro w9 h9 t9; obtain ⟨q0, q1, q2, q3⟩ := h9.cells))
  go_ret
  exact ⟨rfl, hB3.trans (t9.below hb.size)⟩

set_option maxRecDepth 100000 in
set_option maxHeartbeats 1000000 in
theorem csure_any {w0 w : World} (h : CSt w0 w) (n : Int) : Calls Tryd.prog 19 #[.int .i64 n] w fun e w' => e = .returned (.bool (csu n)) ∧ Below w.heap.size w w' := by
  have cf := find_any h.k.k n
  go_enter Tryd.func19, Tryd.ntmps19
  go_wp2_with (first
    | (go_at_call 29; refine cf.mono ?_; rintro e w3 ⟨rfl, hb⟩; have h3 := CBlk.new w3 0; have hB3 := hb.alloc (o := .cells (cvC 0) 50) hb.size)
    | (refine wpList_store_cv rfl (.tmp 3) (.tmp 8) rfl w3.heap.size 0 n rfl rfl h3 ?_; intro w9 h9 t9; obtain ⟨q0, q1, q2, q3⟩ := h9.cells))
  go_ret
  exact ⟨rfl, hB3.trans (t9.below hb.size)⟩

set_option maxRecDepth 100000 in
set_option maxHeartbeats 4000000 in
theorem cbetween_any {w0 w : World} (h : CSt w0 w) (f t : Int) : Calls Tryd.prog 13 #[.int .i64 f, .int .i64 t] w fun e w' => e = .returned (.int .i64 (cbe f t)) ∧ Below w.heap.size w w' := by
  have cc := convs_any h.k.k
  obtain ⟨V, hV⟩ : ∃ V, cbe f t = V := ⟨_, rfl⟩
  rw [hV]
  have HV := Lib.hid hV
  clear hV h
  go_enter Tryd.func13, Tryd.ntmps13
  go_wp2_with (go_at_call 30; refine cc.mono ?_; rintro e w' ⟨rfl, hb⟩)
  go_loopw [8] (fun i wr => ∃ k : Nat, k ≤ 12 ∧ i = .int .i64 k ∧ Below w.heap.size w wr ∧ Hid (∀ j : Int, 1 ≤ j → j < (k : Int) + 1 → ¬ (cfr j = f ∧ cto j = t))) (fun i _ => 12 - (intOf i).toNat)
  case atStart => exact ⟨0, by omega, rfl, hb, fun j h1 h2 => by omega⟩
  case round =>
    obtain ⟨k, hk, rfl, hB, HN⟩ := hrel
    by_cases h5 : k = 12
    · subst h5
      have HE : Hid (V = 0) := HV.out.symm.trans (be_none fun j j1 j2 => HN.out j j1 (by omega))
      go_wp2
      go_ret
      exact ⟨by rw [HE.out]; rfl, hB⟩
    · have hkz : (k : Int) < 12 := by omega
      have ci := fun w => cv_all (i := (k : Int)) (by omega) hkz w
      have hno : (¬ (cfr ((k : Int) + 1) = f ∧ cto ((k : Int) + 1) = t)) → Hid (∀ j : Int, 1 ≤ j → j < ((k + 1 : Nat) : Int) + 1 → ¬ (cfr j = f ∧ cto j = t)) := fun no j j1 j2 => by
        rcases Int.lt_or_eq_of_le (show j ≤ (k : Int) + 1 by omega) with q | q
        · exact HN.out j j1 (by omega)
        · subst q; exact no
      have HNO := Lib.hid hno
      have HEQ : Hid (cfr ((k : Int) + 1) = f → cto ((k : Int) + 1) = t → V = (k : Int) + 1) := fun e1 e2 => HV.out.symm.trans (be_at (by omega) (by omega) e1 e2)
      obtain ⟨m, hm⟩ : ∃ m : Int, (k : Int) + 1 = m := ⟨_, rfl⟩
      simp only [hm] at ci
      rw [hm] at HNO HEQ
      have HM := Lib.hid hm
      have h0 := CBlk.new wr 0
      have hB0 := hB.alloc (o := .cells (cvC 0) 50) hB.size
      have hsz := hB.size
      obtain ⟨a, ha⟩ : ∃ a, cfr m = a := ⟨_, rfl⟩
      obtain ⟨b, hb2⟩ : ∃ b, cto m = b := ⟨_, rfl⟩
      rw [ha, hb2] at HNO HEQ
      have HA := Lib.hid (And.intro ha hb2)
      clear hno hm ha hb2 HN
      have q : (a = f ∧ b = t) ∨ (a = f ∧ b ≠ t) ∨ a ≠ f := by
        by_cases g1 : a = f
        · by_cases g2 : b = t
          · exact .inl ⟨g1, g2⟩
          · exact .inr (.inl ⟨g1, g2⟩)
        · exact .inr (.inr g1)
      rcases q with ⟨rfl, rfl⟩ | ⟨rfl, g2⟩ | g1
      · have HE : Hid (V = m) := HEQ.out rfl rfl
        clear HEQ HNO
        go_wp2_with (refine wpList_store_cv rfl (.tmp 6) (.tmp 11) rfl wr.heap.size 0 m rfl rfl h0 ?_; intro w9 h9 t9; obtain ⟨q0, q1, q2, q3⟩ := h9.cells; rw [HA.out.1] at q0; rw [HA.out.2] at q1)
        go_ret
        have e : Ending.returned (.int .i64 ((k : Int) + 1)) = Ending.returned (.int .i64 V) := by rw [HE.out, ← HM.out]
        exact ⟨e, hB0.trans (t9.below hsz)⟩
      · have g2' : (b == t) = false := by simpa using g2
        go_wp2_with (refine wpList_store_cv rfl (.tmp 6) (.tmp 11) rfl wr.heap.size 0 m rfl rfl h0 ?_; intro w9 h9 t9; obtain ⟨q0, q1, q2, q3⟩ := h9.cells; rw [HA.out.1] at q0; rw [HA.out.2] at q1)
        go_roundw
        case rel => exact ⟨k + 1, by omega, by go_num, hB0.trans (t9.below hsz), HNO.out fun q => g2 q.2⟩
        case measure => simp [intOf]; omega
      · have g1' : (a == f) = false := by simpa using g1
        go_wp2_with (refine wpList_store_cv rfl (.tmp 6) (.tmp 11) rfl wr.heap.size 0 m rfl rfl h0 ?_; intro w9 h9 t9; obtain ⟨q0, q1, q2, q3⟩ := h9.cells; rw [HA.out.1] at q0; rw [HA.out.2] at q1)
        go_roundw
        case rel => exact ⟨k + 1, by omega, by go_num, hB0.trans (t9.below hsz), HNO.out fun q => g1 q.1⟩
        case measure => simp [intOf]; omega
theorem cbase_any {w0 w : World} (h : CSt w0 w) : Calls Tryd.prog 25 #[] w fun e w' => e = .returned (.int .i64 5) ∧ Below w.heap.size w w' := by
  have hc := h.v.bs
  go_enter Tryd.func25, Tryd.ntmps25
  go_wp2
  go_ret
  exact ⟨rfl, Below.refl _ _⟩
theorem ccount_any {w0 w : World} (_ : CSt w0 w) : Calls Tryd.prog 26 #[] w fun e w' => e = .returned (.int .i64 12) ∧ Below w.heap.size w w' := by
  go_enter Tryd.func26, Tryd.ntmps26
  go_wp2
  go_ret
  exact ⟨rfl, Below.refl _ _⟩
end Go.Proofs.YtijgcfnjbfaelaaDoor
