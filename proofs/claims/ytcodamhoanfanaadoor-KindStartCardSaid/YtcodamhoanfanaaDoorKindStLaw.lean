/- The walk of KindStart. -/
import Derived.Test.YtcodamhoanfanaaDoorKindSame
import Derived.Test.YtcodamhoanfanaaDoorStart
import Derived.Test.YtcodamhoanfanaaDoorStructs
import Derived.Deep.RegionHeld3
namespace Go.Proofs.YtcodamhoanfanaaDoor
open Go.RowKit

/-- the five entries -/
def enL : List En := [⟨1, 1, ⟨#[117, 105, 110, 116]⟩, 10⟩, ⟨1, 2, ⟨#[105, 110, 116]⟩, 10⟩, ⟨1, 3, ⟨#[98, 111, 111, 108]⟩, 1⟩, ⟨1, 4, ⟨#[116, 101, 120, 116]⟩, 0⟩, ⟨1, 5, ⟨#[98, 121, 116, 101, 115]⟩, 0⟩]
/-- what the sizes are together -/
def zs : List En → Int
  | [] => 0
  | e :: l => e.z + zs l
theorem zs_app : ∀ (l m : List En), zs (l ++ m) = zs l + zs m
  | [], m => by show zs m = 0 + zs m; omega
  | e :: l, m => by show e.z + zs (l ++ m) = e.z + zs l + zs m; rw [zs_app l m]; omega
theorem zs_step {l : List En} {k : Nat} {e : En} (h : l[k]? = some e) : zs (l.take (k + 1)) = zs (l.take k) + e.z := by
  rw [List.take_add_one, h]
  show zs (l.take k ++ [e]) = _
  rw [zs_app]
  show _ + (e.z + 0) = _
  omega
theorem zs_bound (k : Nat) (h : k ≤ 5) : 0 ≤ zs (enL.take k) ∧ zs (enL.take k) ≤ 21 := by
  have : k = 0 ∨ k = 1 ∨ k = 2 ∨ k = 3 ∨ k = 4 ∨ k = 5 := by omega
  rcases this with rfl | rfl | rfl | rfl | rfl | rfl <;> decide
theorem en_facts (k : Nat) (e : En) (h : enL[k]? = some e) : (⟨(nameL e.n).toArray⟩ : ByteArray) = e.s ∧ ofL e.s.data.toList = e.n ∧ 0 ≤ e.z ∧ e.z ≤ 10 := by
  have hk : k < 5 := (List.getElem?_eq_some_iff.1 h).1
  have : k = 0 ∨ k = 1 ∨ k = 2 ∨ k = 3 ∨ k = 4 := by omega
  rcases this with rfl | rfl | rfl | rfl | rfl
  all_goals
    cases h
    exact ⟨rfl, by decide, by decide, by decide⟩
theorem enL_cells : enL.flatMap En.cells = entriesC.toList := rfl
theorem base_any {w : World} (h : w.cell? ⟨5, 0, none⟩ = some (.int .i64 0)) : Calls Tryd.prog 21 #[] w fun e w' => e = .returned (.int .i64 0) ∧ w' = w := by
  go_enter Tryd.func21, Tryd.ntmps21
  go_wp2
  go_ret
  exact ⟨rfl, rfl⟩

/-- the table's beginning stands in memory of the call's own -/
def WantIs (w : World) (e : Ending) (w' : World) : Prop := ∃ g c, e = .returned (.slice (some ⟨g, 0, none⟩) 36 c) ∧ 36 ≤ c ∧ w.heap.size ≤ g ∧ g < w'.heap.size ∧ ERow w' g 0 enL ∧ Below w.heap.size w w'
theorem want_any (w : World) : Calls Tryd.prog 18 #[] w (WantIs w) :=
  (start_any w).mono fun e w' ⟨v, he, ho⟩ => by
    obtain ⟨g, c, hv, hc, _, hg, hlt, hcell⟩ := ho.form (by decide)
    subst hv
    refine ⟨g, c, he, hc, hg, hlt, ERow.of_cells (n := 20) rfl fun j hj => ?_, ho.below⟩
    rw [hcell j (by omega), enL_cells]
    unfold startL
    rw [List.append_assoc, List.append_assoc, List.append_assoc, List.append_assoc, List.getElem?_append_left (by exact hj)]
    rfl
def EntsIs (w : World) (e : Ending) (w' : World) : Prop := ∃ g, e = .returned (.slice (some ⟨g, 0, none⟩) 5 5) ∧ w.heap.size ≤ g ∧ g < w'.heap.size ∧ ERow w' g 0 enL ∧ w'.there g 0 20 ∧ Below w.heap.size w w'
theorem ents_any (w : World) : Calls Tryd.prog 19 #[] w (EntsIs w) :=
  (kentries_any w).mono fun e w' ⟨g, he, hg, hlt, hc, hb⟩ => by
    refine ⟨g, he, hg, hlt, ERow.of_cells (n := 20) rfl fun j hj => ?_, fun j hj => ?_, hb⟩
    · rw [(hc j hj).1, enL_cells]
    · rw [Nat.zero_add]
      refine ⟨?_, (hc j hj).2⟩
      rw [(hc j hj).1, List.getElem?_eq_getElem (by exact hj)]
      rfl

/-- only the block g has been written -/
structure Only (g : Nat) (a w : World) : Prop where
  below : Below g a w
  others : ∀ k, k ≠ g → w.heap[k]? = a.heap[k]?
  size : w.heap.size = a.heap.size
theorem Only.refl (g : Nat) (w : World) : Only g w w := ⟨Below.refl _ _, fun _ _ => rfl, rfl⟩
theorem Only.setCell {g : Nat} {a w : World} (h : Only g a w) (o : Nat) (v : Value) : Only g a (w.setCell ⟨g, o, none⟩ v) :=
  ⟨h.below.setCell (Nat.le_refl _) _, fun k hk => (Below.heap_setCell w ⟨g, o, none⟩ v k hk).trans (h.others k hk), by rw [← h.size]; simp⟩
theorem Only.setCells {g : Nat} {a : World} : ∀ (vs : List Value) (o : Nat) (w : World), Only g a w → Only g a (w.setCells g o vs)
  | [], _, _, h => h
  | v :: r, o, w, h => by
    rw [World.setCells]
    exact Only.setCells r (o + 1) _ (h.setCell o v)
theorem Only.cell {g b : Nat} {a w : World} (h : Only g a w) (hb : b ≠ g) (j : Nat) : w.cell? ⟨b, j, none⟩ = a.cell? ⟨b, j, none⟩ := World.cell?_of_block (w := a) (h.others b hb)

/-- the list that grows: the five entries that were handed out, or a row of the loop's own -/
def Gr (w7 wr : World) (gA : Nat) (v : Value) (n : Nat) : Prop :=
  (Below w7.heap.size w7 wr ∧ n = 5 ∧ v = .slice (some ⟨gA, 0, none⟩) 5 5) ∨ ∃ xs, Own4 34 w7 wr v n xs
theorem Gr.below {w7 wr : World} {gA : Nat} {v : Value} {n : Nat} (h : Gr w7 wr gA v n) : Below w7.heap.size w7 wr := by
  rcases h with ⟨h, _⟩ | ⟨_, h⟩
  · exact h
  · exact h.below
theorem gr_append {w7 W : World} {gA : Nat} {v : Value} {n : Nat} (h : Gr w7 W gA v n) (hA : gA < w7.heap.size) (ht : w7.there gA 0 20) (i : TypeInfo) (z : Value) (hi : Tryd.prog.info? 34 = some i) (hz : i.zero = some z) (hs : i.size = 4) (hby : i.bytes = 40) (hzs : z.cells.size = 4)
    (x0 x1 x2 x3 : Value) (h1 : ∀ u ∈ [x0, x1, x2, x3], u.oneCell' = true) (hl : n + 1 ≤ 1000) :
    ∃ v' w', (Builtin.append_ #[35, 35] 35 #[v, .slice (some ⟨W.heap.size, 0, none⟩) 1 1]).run Tryd.prog (W.alloc (.cells #[x0, x1, x2, x3] 34)) = .ok v' w' ∧ Gr w7 w' gA v' (n + 1) := by
  rcases h with ⟨hb, rfl, rfl⟩ | ⟨xs, ho⟩
  · obtain ⟨olds, hol, hold⟩ := list_of (fun j v => w7.cell? ⟨gA, j, none⟩ = some v) 20 (fun j hj => by
      have := (ht j hj).1
      rw [Nat.zero_add] at this
      exact Option.isSome_iff_exists.1 this)
    obtain ⟨v', w', hr, ho⟩ := first_append (P := Tryd.prog) hb 35 35 i z Tryd.underlying35 hi hz hs hby hzs gA 5 olds (by rw [hol]) (fun j v hv => by rw [(Below.cells hb).1 gA j hA]; exact hold j v hv) (Nat.lt_of_lt_of_le hA hb.size) #[x0, x1, x2, x3] 1 rfl (by decide) (by omega)
    exact ⟨v', w', hr, .inr ⟨_, ho⟩⟩
  · obtain ⟨v', w', hr, ho'⟩ := own4_append (P := Tryd.prog) ho 35 35 i z Tryd.underlying35 hi hz hs hby hzs #[x0, x1, x2, x3] 1 rfl h1 hl
    exact ⟨v', w', hr, .inr ⟨_, ho'⟩⟩
theorem Gr.cast {w7 wr : World} {gA : Nat} {v : Value} {n m : Nat} (h : Gr w7 wr gA v n) (e : n = m) : Gr w7 wr gA v m := e ▸ h
theorem Gr.form {w7 wr : World} {gA : Nat} {v : Value} (h : Gr w7 wr gA v 14) : ∃ g c, v = .slice (some ⟨g, 0, none⟩) 14 c := by
  rcases h with ⟨_, h, _⟩ | ⟨_, h⟩
  · exact absurd h (by decide)
  · obtain ⟨g, c, hv, _⟩ := h.form (by decide)
    exact ⟨g, c, hv⟩

set_option maxRecDepth 100000 in
set_option maxHeartbeats 4000000 in
theorem startlaw_any {w : World} (h : KAll w w) (hbase : w.cell? ⟨5, 0, none⟩ = some (.int .i64 0)) (f n : Int) (s : ByteArray) (z : Int) :
    Calls Tryd.prog 5 #[.agg #[.int .i64 f, .int .i64 n, .string s, .int .i64 z]] w (Yes w) := by
  obtain ⟨w0, hw0⟩ : ∃ w0, w.alloc (.cells #[.int .i64 f, .int .i64 n, .string s, .int .i64 z] 34) = w0 := ⟨_, rfl⟩
  have k0 : KAll w0 w0 := by rw [← hw0]; exact (h.new _).self
  have hB0 : Below w.heap.size w w0 := by rw [← hw0]; exact (Below.refl _ _).alloc (Nat.le_refl _) _
  have hz0 : w.heap.size < w0.heap.size := by rw [← hw0]; simp
  have x0 : w0.heap[w.heap.size]? = some (.cells #[.int .i64 f, .int .i64 n, .string s, .int .i64 z] 34 (0, 0)) := by rw [← hw0]; exact heap_alloc_new w _
  have hs1 := fun {w1 : World} {g g' c c' : Nat} (a : ERow w1 g 0 enL) (b : ERow w1 g' 0 enL) => same_any w1 g 0 g' 0 c c' enL a b (by decide)
  have HW0 := Lib.hid hw0
  have HB0 := Lib.hid hB0
  have HX0 := Lib.hid x0
  have HBA := Lib.hid hbase
  clear x0 hB0 hbase
  go_enter Tryd.func5, Tryd.ntmps5
  go_wp2_with fail
  refine (awake_any k0).mono ?_
  rintro e w1 ⟨rfl, k1⟩
  go_wp2_with fail
  refine (want_any w1).mono ?_
  rintro e w2 ⟨gW, cW, rfl, hc, hgW, hW2, eW, b2⟩
  have k2 := k1.then_ b2
  have hcz : (5 : Int) ≤ (cW : Int) := by omega
  have hcn : 5 ≤ cW := by omega
  have h36 : 36 ≤ cW := hc
  clear hc b2
  go_wp2_with fail
  refine (ents_any w2).mono ?_
  rintro e w3 ⟨gA, rfl, hgA, hA3, eA, tA, b3⟩
  have k3 := k2.then_ b3
  have eW3 := eW.below hW2 b3
  have hW3 : gW < w3.heap.size := Nat.lt_of_lt_of_le hW2 b3.size
  clear b3
  go_wp2_with fail
  refine (ents_any w3).mono ?_
  rintro e w4 ⟨gB, rfl, hgB, hB4, eB, tB, b4⟩
  have k4 := k3.then_ b4
  have eW4 := eW3.below hW3 b4
  have eA4 := eA.below hA3 b4
  have tA4 : w4.there gA 0 20 := fun j hj => by
    have := tA j hj
    have c := (Below.cells b4).1 gA (0 + j) hA3
    have c' := (Below.cells b4).2 gA (0 + j) hA3
    rw [c, c']; exact this
  have hW4 : gW < w4.heap.size := Nat.lt_of_lt_of_le hW3 b4.size
  have hA4 : gA < w4.heap.size := Nat.lt_of_lt_of_le hA3 b4.size
  have nAB : gB ≠ gA := by omega
  have nAW : gW ≠ gA := by omega
  have g0A : w0.heap.size ≤ gA := by have := k2.below.size; omega
  have g0B : w0.heap.size ≤ gB := by have := k3.below.size; omega
  clear b4 tA tB eA eW eW3 hA3 hW3 hW2
  go_wp2_with fail
  refine (hs1 eA4 eW4).mono ?_
  rintro e w5 ⟨rfl, b5⟩
  have k5 := k4.then_ b5
  have eW5 := eW4.below hW4 b5
  have eB5 := eB.below hB4 b5
  have tA5 : w5.there gA 0 20 := fun j hj => by
    have := tA4 j hj
    have c := (Below.cells b5).1 gA (0 + j) hA4
    have c' := (Below.cells b5).2 gA (0 + j) hA4
    rw [c, c']; exact this
  have hW5 : gW < w5.heap.size := Nat.lt_of_lt_of_le hW4 b5.size
  have hA5 : gA < w5.heap.size := Nat.lt_of_lt_of_le hA4 b5.size
  have hB5 : gB < w5.heap.size := Nat.lt_of_lt_of_le hB4 b5.size
  clear b5
  go_wp2_with fail
  refine (hs1 eB5 eW5).mono ?_
  rintro e w6 ⟨rfl, b6⟩
  have k6 := k5.then_ b6
  have eW6 := eW5.below hW5 b6
  have eB6 := eB5.below hB5 b6
  have tA6 : w6.there gA 0 20 := fun j hj => by
    have := tA5 j hj
    have c := (Below.cells b6).1 gA (0 + j) hA5
    have c' := (Below.cells b6).2 gA (0 + j) hA5
    rw [c, c']; exact this
  have hW6 : gW < w6.heap.size := Nat.lt_of_lt_of_le hW5 b6.size
  have hA6 : gA < w6.heap.size := Nat.lt_of_lt_of_le hA5 b6.size
  have hB6 : gB < w6.heap.size := Nat.lt_of_lt_of_le hB5 b6.size
  clear b6 k1 k2 k3 k4 k5 eW4 eW5 eB eB5 eA4 tA4 tA5 hW4 hW5 hA4 hA5 hB4 hB5 hgW hgA hgB
  have TA := Lib.hid tA6
  clear tA6
  go_wp2_with fail
  go_loopw [6] (fun i wr => ∃ k : Nat, i = .int .i64 k ∧ k ≤ 5 ∧ Only gA w6 wr ∧ Hid (wr.there gA 0 20)) (fun i _ => 5 - (intOf i).toNat)
  case atStart => exact ⟨0, rfl, by omega, Only.refl _ _, TA⟩
  case round =>
    obtain ⟨k, rfl, hk, ho, TH⟩ := hrel
    by_cases hlt : k < 5
    · have hne : w.heap.size ≠ gA := by omega
      have d0 : wr.cell? ⟨w.heap.size, 0, none⟩ = some (.int .i64 f) := (ho.cell hne 0).trans (row_cells k6.below HX0.out 0 _ rfl)
      have d1 : wr.cell? ⟨w.heap.size, 1, none⟩ = some (.int .i64 n) := (ho.cell hne 1).trans (row_cells k6.below HX0.out 1 _ rfl)
      have d2 : wr.cell? ⟨w.heap.size, 2, none⟩ = some (.string s) := (ho.cell hne 2).trans (row_cells k6.below HX0.out 2 _ rfl)
      have d3 : wr.cell? ⟨w.heap.size, 3, none⟩ = some (.int .i64 z) := (ho.cell hne 3).trans (row_cells k6.below HX0.out 3 _ rfl)
      have HT : Hid (wr.there gA (k * 4) 4) := fun j hj => by have := TH.out (k * 4 + j) (by omega); rwa [Nat.zero_add] at this
      have hltz : (k : Int) < 5 := by omega
      clear hw0
      go_wp2_with (refine wpList_store_mid rfl 34 (.tmp 36) (.tmp 35) rfl gA (k * 4) #[.int .i64 f, .int .i64 n, .string s, .int .i64 z] rfl rfl HT.out ?s3 ?s5 ?s4; (case s3 => kernel_rfl); (case s5 => kernel_rfl))
      go_roundw
      case rel => exact ⟨k + 1, by go_num, by omega, Only.setCells _ _ _ ho, World.there_setCells TH.out _ _ _⟩
      case measure => simp [intOf]; omega
    · have hk5 : (k : Int) = 5 := by omega
      rw [hk5]
      clear hk5
      have nW6 := hW6
      have eW7 : ERow wr gW 0 enL := eW6.keep fun j => ho.cell nAW j
      have eB7 : ERow wr gB 0 enL := eB6.keep fun j => ho.cell nAB j
      have k7 : KAll w0 wr := k0.then_ (k6.below.trans (ho.below.mono g0A))
      have hW7 : gW < wr.heap.size := by rw [ho.size]; exact hW6
      have hB7 : gB < wr.heap.size := by rw [ho.size]; exact hB6
      have hA7 : gA < wr.heap.size := by rw [ho.size]; exact hA6
      have hne : w.heap.size ≠ gA := by omega
      have x7 : ∀ j v, #[Value.int .i64 f, .int .i64 n, .string s, .int .i64 z][j]? = some v → wr.cell? ⟨w.heap.size, j, none⟩ = some v := fun j v hv => (ho.cell hne j).trans (row_cells k6.below HX0.out j v hv)
      have X7 := Lib.hid x7
      have hx7 : w.heap.size < wr.heap.size := by rw [ho.size]; omega
      obtain ⟨ie, hie, hiz, h4, h40⟩ := info_of (P := Tryd.prog) (T := 34) (z := .agg #[.int .i64 0, .int .i64 0, .string ⟨#[]⟩, .int .i64 0]) (by kernel_rfl)
      have HI := Lib.hid hie
      have HZ := Lib.hid hiz
      have H4 := Lib.hid h4
      have H40 := Lib.hid h40
      have HEW := Lib.hid eW7
      have HEB := Lib.hid eB7
      clear eW6 eB6 k6 hW6 hB6 hA6 ho TA nW6 x7 hie hiz h4 h40 eW7 eB7
      obtain ⟨w7, e7⟩ : ∃ w7 : World, w7 = wr := ⟨_, rfl⟩
      subst e7
      clear hw0
      go_wp2_with fail
      go_loopw [7, 8] (fun v i w2 => ∃ k : Nat, i = .int .i64 k ∧ k ≤ 9 ∧ Gr w7 w2 gA v (5 + k)) (fun _ i _ => 9 - (intOf i).toNat)
      case atStart => exact ⟨0, rfl, by omega, .inl ⟨Below.refl _ _, rfl, rfl⟩⟩
      case round =>
        obtain ⟨k, rfl, hk9, hG⟩ := hrel
        have hb2 := hG.below
        by_cases hlt9 : k < 9
        · have hltz : (k : Int) < 9 := by omega
          have d0 : wr.cell? ⟨w.heap.size, 0, none⟩ = some (.int .i64 f) := ((Below.cells hb2).1 _ _ hx7).trans (X7.out 0 _ rfl)
          have d1 : wr.cell? ⟨w.heap.size, 1, none⟩ = some (.int .i64 n) := ((Below.cells hb2).1 _ _ hx7).trans (X7.out 1 _ rfl)
          have d2 : wr.cell? ⟨w.heap.size, 2, none⟩ = some (.string s) := ((Below.cells hb2).1 _ _ hx7).trans (X7.out 2 _ rfl)
          have d3 : wr.cell? ⟨w.heap.size, 3, none⟩ = some (.int .i64 z) := ((Below.cells hb2).1 _ _ hx7).trans (X7.out 3 _ rfl)
          obtain ⟨v9, w9, hrun, hG9⟩ := gr_append hG hA7 TH.out ie _ HI.out HZ.out H4.out H40.out rfl (.int .i64 f) (.int .i64 n) (.string s) (.int .i64 z) (by simp [Value.oneCell']) (by omega)
          have HRUN := Lib.hid hrun
          clear hrun
          go_wp2_with (first
            | (refine wpList_list rfl 35 34 1 _ rfl #[.int .i64 f, .int .i64 n, .string s, .int .i64 z] ie _ Tryd.underlying35 HI.out HZ.out H4.out (by decide) (by decide) ?_ ?_; kernel_rfl)
            | (at_builtin; refine wpList_append_run rfl (.tmp 42) (.tmp 44) 35 rfl rfl rfl HRUN.out ?_))
          go_roundw
          case rel => exact ⟨k + 1, by go_num, by omega, hG9⟩
          case measure => simp [intOf]; omega
        · have hk9' : (k : Int) = 9 := by omega
          have hG9 := hG.cast (show 5 + k = 14 by omega)
          rw [hk9']
          obtain ⟨g9, c9, rfl⟩ := hG9.form
          obtain ⟨w8, e8⟩ : ∃ w8 : World, w8 = wr := ⟨_, rfl⟩
          subst e8
          have k8 := k7.then_ hb2
          have eW8 := HEW.out.below hW7 hb2
          have eB8 := HEB.out.below hB7 hb2
          have hW8 : gW < w8.heap.size := Nat.lt_of_lt_of_le hW7 hb2.size
          clear hk9' hG hG9 hb2 hk9 hlt9 k7 hW7 hB7 hA7 hx7 X7 HEW HEB TH HI HZ H4 H40
          go_wp2_with fail
          refine (hs1 eB8 eW8).mono ?_
          rintro e w9 ⟨rfl, b9⟩
          have k9 := k8.then_ b9
          have eW9 := eW8.below hW8 b9
          have hW9 : gW < w9.heap.size := Nat.lt_of_lt_of_le hW8 b9.size
          clear b9 k8 eW8 eB8 hW8
          go_wp2_with fail
          refine (ents_any w9).mono ?_
          rintro e w10 ⟨gC, rfl, hgC, hC10, eC, tC, b10⟩
          have k10 := k9.then_ b10
          have eW10 := eW9.below hW9 b10
          have hW10 : gW < w10.heap.size := Nat.lt_of_lt_of_le hW9 b10.size
          clear b10 k9 eW9 hW9 tC hgC hC10
          go_wp2_with fail
          refine (hs1 eC eW10).mono ?_
          rintro e w11 ⟨rfl, b11⟩
          have k11 := k10.then_ b11
          have eW11 := eW10.below hW10 b11
          have hW11 : gW < w11.heap.size := Nat.lt_of_lt_of_le hW10 b11.size
          clear b11 k10 eW10 hW10 eC hs1
          have HE := Lib.hid eW11
          clear eW11
          go_wp2_with fail
          go_loopw [9, 10] (fun sm i w3 => ∃ k : Nat, i = .int .i64 k ∧ k ≤ 5 ∧ sm = .int .i64 (zs (enL.take k)) ∧ Below w11.heap.size w11 w3) (fun _ i _ => 5 - (intOf i).toNat)
          case atStart => exact ⟨0, rfl, by omega, rfl, Below.refl _ _⟩
          case round =>
            obtain ⟨k, rfl, hk5, rfl, hb3⟩ := hrel
            by_cases hlt5 : k < 5
            · obtain ⟨e, he⟩ : ∃ e, enL[k]? = some e := ⟨enL[k]'(by exact hlt5), List.getElem?_eq_getElem (by exact hlt5)⟩
              have hzs := zs_step he
              have hb0 := zs_bound k hk5
              obtain ⟨hnm, hof, hz0', hz1'⟩ := en_facts k e he
              obtain ⟨_, c1, c2, c3⟩ := HE.out k e he
              have cn := fun {w1 : World} (q : Below w11.heap.size w11 w1) => (name_any w1 e.n).mono fun _ _ ⟨he, hb⟩ => And.intro he (Below.both q hb)
              have co := fun {w1 : World} (q : Below w11.heap.size w11 w1) => (of_any w1 e.s).mono fun _ _ ⟨he, hb⟩ => And.intro he (Below.both q hb)
              simp only [hnm] at cn
              simp only [hof] at co
              obtain ⟨ef, en, es, ez⟩ := e
              dsimp only at hzs hz0' hz1' c1 c2 c3 cn co
              rw [Nat.zero_add] at c1 c2 c3
              obtain ⟨sm, hsm⟩ : ∃ sm, zs (enL.take k) = sm := ⟨_, rfl⟩
              rw [hsm] at hzs hb0 ⊢
              have HZS := Lib.hid hzs
              obtain ⟨b1, b2⟩ := hb0
              have HC : Hid (∀ W, Below w11.heap.size w11 W → (Below w11.heap.size w11 W ∧ W.cell? ⟨gW, k * 4 + 1, none⟩ = some (.int .i64 en) ∧ W.cell? ⟨gW, k * 4 + 2, none⟩ = some (.string es) ∧ W.cell? ⟨gW, k * 4 + 3, none⟩ = some (.int .i64 ez))) := fun W hW => ⟨hW, ((Below.cells hW).1 _ _ hW11).trans c1, ((Below.cells hW).1 _ _ hW11).trans c2, ((Below.cells hW).1 _ _ hW11).trans c3⟩
              have hltz : (k : Int) < 5 := by omega
              have k0' : (0 : Int) ≤ (k : Int) := by omega
              clear he hnm hof c1 c2 c3 hsm hzs
              go_wp2
              go_region_held3 (fun W => Below w11.heap.size w11 W ∧ W.cell? ⟨gW, k * 4 + 1, none⟩ = some (.int .i64 en) ∧ W.cell? ⟨gW, k * 4 + 2, none⟩ = some (.string es) ∧ W.cell? ⟨gW, k * 4 + 3, none⟩ = some (.int .i64 ez))
                (first | (exact HC.out _ (by assumption)) | (exact HC.out _ (Below.drew (by assumption))))
                (first
                  | (go_at_call 12; with_reducible refine (cn (by first | assumption | exact Below.drew (by assumption) | exact And.left (by assumption))).mono ?_; rintro e w' ⟨rfl, hst⟩)
                  | (go_at_call 10; with_reducible refine (co (by first | assumption | exact Below.drew (by assumption) | exact And.left (by assumption))).mono ?_; rintro e w' ⟨rfl, hst⟩; have d3 := (HC.out _ hst).2.2.2))
              go_wp2
              go_roundw
              case rel => exact ⟨k + 1, by go_num, by omega, by rw [HZS.out], by first | assumption | exact Below.drew (by assumption)⟩
              case measure => simp [intOf]; omega
            · have hk5' : k = 5 := by omega
              have hz21 : zs (enL.take k) = 21 := by rw [hk5']; decide
              have hkz : (k : Int) = 5 := by omega
              rw [hz21, hkz]
              clear hz21 hk5' hkz hlt5 hk5
              have k12 := k11.then_ hb3
              have hbase : wr.cell? ⟨5, 0, none⟩ = some (.int .i64 0) := by
                have hg : 5 < w.heap.size := World.block_lt_of_cell? w ⟨_, _, none⟩ HBA.out
                rw [(Below.cells k12.below).1 _ _ (by omega), (Below.cells HB0.out).1 _ _ hg]
                exact HBA.out
              have HBS := Lib.hid hbase
              clear hbase
              have o1 := fun {w1 : World} (q : KAll w0 w1) => q.of (of_any w1 ⟨#[117, 105, 110, 116]⟩)
              have o2 := fun {w1 : World} (q : KAll w0 w1) => q.of (of_any w1 ⟨#[105, 110, 116]⟩)
              have o3 := fun {w1 : World} (q : KAll w0 w1) => q.of (of_any w1 ⟨#[98, 111, 111, 108]⟩)
              have o4 := fun {w1 : World} (q : KAll w0 w1) => q.of (of_any w1 ⟨#[116, 101, 120, 116]⟩)
              have o5 := fun {w1 : World} (q : KAll w0 w1) => q.of (of_any w1 ⟨#[98, 121, 116, 101, 115]⟩)
              simp only [show ofL (⟨#[117, 105, 110, 116]⟩ : ByteArray).data.toList = 1 by decide] at o1
              simp only [show ofL (⟨#[105, 110, 116]⟩ : ByteArray).data.toList = 2 by decide] at o2
              simp only [show ofL (⟨#[98, 111, 111, 108]⟩ : ByteArray).data.toList = 3 by decide] at o3
              simp only [show ofL (⟨#[116, 101, 120, 116]⟩ : ByteArray).data.toList = 4 by decide] at o4
              simp only [show ofL (⟨#[98, 121, 116, 101, 115]⟩ : ByteArray).data.toList = 5 by decide] at o5
              have e1 := fun {w1 : World} (q : KAll w0 w1) => q.ofS (uint_any q.st.k)
              have e2 := fun {w1 : World} (q : KAll w0 w1) => q.ofS (int_any q.st.k)
              have e3 := fun {w1 : World} (q : KAll w0 w1) => q.ofS (bool_any q.st.k)
              have e4 := fun {w1 : World} (q : KAll w0 w1) => q.ofS (text_any q.st.k)
              have e5 := fun {w1 : World} (q : KAll w0 w1) => q.ofS (bytes_any q.st.k)
              have e6 := fun {w1 : World} (q : KAll w0 w1) => q.ofS (width_any q.wid)
              clear k11 hb3 HE
              go_wp2_with (first
                | (go_at_call 21; refine (base_any HBS.out).mono ?_; rintro e w' ⟨rfl, rfl⟩)
                | (go_at_call 22; refine (e6 (by assumption)).mono ?_; rintro e w' ⟨rfl, hst⟩)
                | (go_at_call 23; refine (e1 (by assumption)).mono ?_; rintro e w' ⟨rfl, hst⟩)
                | (go_at_call 24; refine (e2 (by assumption)).mono ?_; rintro e w' ⟨rfl, hst⟩)
                | (go_at_call 25; refine (e3 (by assumption)).mono ?_; rintro e w' ⟨rfl, hst⟩)
                | (go_at_call 26; refine (e4 (by assumption)).mono ?_; rintro e w' ⟨rfl, hst⟩)
                | (go_at_call 27; refine (e5 (by assumption)).mono ?_; rintro e w' ⟨rfl, hst⟩)
                | (go_at_call 10; with_reducible refine (o1 (by assumption)).mono ?_; rintro e w' ⟨rfl, hst⟩)
                | (go_at_call 10; with_reducible refine (o2 (by assumption)).mono ?_; rintro e w' ⟨rfl, hst⟩)
                | (go_at_call 10; with_reducible refine (o3 (by assumption)).mono ?_; rintro e w' ⟨rfl, hst⟩)
                | (go_at_call 10; with_reducible refine (o4 (by assumption)).mono ?_; rintro e w' ⟨rfl, hst⟩)
                | (go_at_call 10; with_reducible refine (o5 (by assumption)).mono ?_; rintro e w' ⟨rfl, hst⟩)
                | (go_at_call 9; refine (awake_any (by assumption : KAll w0 _)).mono ?_; rintro e w' ⟨rfl, hst⟩))
              go_ret
              exact ⟨rfl, Below.both HB0.out (KAll.below (by assumption))⟩
end Go.Proofs.YtcodamhoanfanaaDoor
