/- The walk of conv's Entries: the list in memory of its own. -/
import Derived.Test.YtijgcfnjbfaelaaDoorConvTab
import Derived.Test.YtijgcfnjbfaelaaDoorKindNames
import Derived.Test.YtijgcfnjbfaelaaDoorEnRow
import Derived.Test.YtijgcfnjbfaelaaDoorOwn4
import Derived.Laws.MakeOwn
import Derived.Deep.RegionHeld3
namespace Go.Proofs.YtijgcfnjbfaelaaDoor
open Go.RowKit

/-- the entry of a conversion -/
def cnm (m : Int) : ByteArray := ⟨(nameL (cfr m)).toArray⟩ ++ ⟨#[45]⟩ ++ ⟨(nameL (cto m)).toArray⟩
def entN (m : Int) : En := ⟨2, m, cnm m, 8 * cfr m + cto m⟩
/-- the first k entries -/
def entK (k : Nat) : List En := (List.range k).map fun (i : Nat) => entN ((i : Int) + 1)
theorem entK_succ (k : Nat) : entK (k + 1) = entK k ++ [entN ((k : Int) + 1)] := by
  unfold entK; rw [List.range_succ, List.map_append]; rfl
theorem entK_get {k i : Nat} (h : i < k) : (entK k)[i]? = some (entN ((i : Int) + 1)) := by
  unfold entK
  rw [List.getElem?_map, List.getElem?_range h]; rfl
def flatK (k : Nat) : List Value := (entK k).flatMap En.cells
theorem flatK_succ (k : Nat) : flatK (k + 1) = flatK k ++ (entN ((k : Int) + 1)).cells := by
  unfold flatK; rw [entK_succ, List.flatMap_append]; simp
theorem entK_len (k : Nat) : (entK k).length = k := by unfold entK; simp
theorem kinds_lt (m : Int) : 0 ≤ cfr m ∧ cfr m ≤ 5 ∧ 0 ≤ cto m ∧ cto m ≤ 5 := by
  unfold cfr cto
  refine ⟨?_, ?_, ?_, ?_⟩ <;> (repeat' split) <;> omega

theorem name_len (k : Int) : (⟨(nameL k).toArray⟩ : ByteArray).size ≤ 5 := by
  show (nameL k).length ≤ 5
  unfold nameL
  repeat' split
  all_goals decide
/-- the list in memory of the call's own -/
def EntOwn (w : World) (e : Ending) (w' : World) : Prop := ∃ v, e = .returned v ∧ Own4 54 w w' v 12 (flatK 12)
theorem infoEn : (Tryd.prog.info? 54).map (fun i => (i.zero, i.size, i.bytes)) = some (some (.agg #[.int .i64 0, .int .i64 0, .string ⟨#[]⟩, .int .i64 0]), 4, 40) := by kernel_rfl

/-- append of one struct that was just laid, at a step of a region that draws -/
theorem step_own4 {T : TypeId} {P : Program} {ops : Array Oper} {o : Oper} {a : Act} {K : Act → World → Prop} {Q : Exit → Act → World → Prop} {E : Prop} (hgd : o.guard = none) (s x : Operand) (t : TypeId)
    (ho : o.op = .call { callee := .builtin .append, args := #[s, x], argTypes := #[t, t] }) (i : TypeInfo) (z : Value) (ht : P.underlying t = some (.slice T)) (hi : P.info? T = some i) (hz : i.zero = some z) (hs : i.size = 4) (hby : i.bytes = 40) (hzs : z.cells.size = 4)
    {w0 w : World} {n : Nat} {xs : List Value} (v : Value) (hv : a.eval s = v) (hown : Own4 T w0 w v n xs) (cs : Array Value) (hx : a.eval x = .slice (some ⟨w.heap.size, 0, none⟩) 1 1) (hc : cs.size = 4) (h1 : ∀ u ∈ cs.toList, u.oneCell' = true) (hl : n + 1 ≤ 1000)
    (h : ∀ g cap w9, Own4 T w0 w9 (.slice (some ⟨g, 0, none⟩) (n + 1) cap) (n + 1) (xs ++ cs.toList) → (w.alloc (.cells cs T)).grownBy w9 v.ownBlock → K (a.put o.dst (.slice (some ⟨g, 0, none⟩) (n + 1) cap)) w9) :
    if Region.wanted o (yielded ops a.tmps) = true then Oper.wp P o a (w.alloc (.cells cs T)) K Q else E := by
  have h2 := hown.new (.cells cs T)
  refine step_append_lies _ hgd s x t ho w0.heap.size T i z 4 40 ht hi hz hs hby hzs (by decide) v n xs hv h2.own ⟨w.heap.size, 0, none⟩ 1 1 cs.toList hx (by simpa using hc) (World.news_of_block (heap_alloc_new w _)) h1 (by decide) (by simp only [maxLen]; omega) (by omega) h2.below.size _ rfl ?_
  intro g cap w9 hown9 hgrow _ _
  exact h g cap w9 ⟨h2.below.grown hgrow h2.below.size fun k hk => (World.ownsRow.lt h2.own k hk).1, hown9⟩ hgrow

set_option maxRecDepth 100000 in
set_option maxHeartbeats 4000000 in
theorem centries_any {w : World} (h : KVars w) : Calls Tryd.prog 28 #[] w (EntOwn w) := by
  obtain ⟨ie, hie, hiz, h4, h40⟩ := info_of (P := Tryd.prog) (T := 54) (z := .agg #[.int .i64 0, .int .i64 0, .string ⟨#[]⟩, .int .i64 0]) infoEn
  obtain ⟨Z, hZ⟩ : ∃ Z, Z = madeCells (Value.agg #[.int .i64 0, .int .i64 0, .string ⟨#[]⟩, .int .i64 0]).cells (12 * ie.size) := ⟨_, rfl⟩
  have hmk : ∀ W : World, (Instr.makeSlice 46 (.int .i64 0) (.int .i64 12)).run Tryd.prog W = .ok (.slice (some ⟨W.heap.size, 0, none⟩) 0 12) (W.alloc (.cells Z 54)) := fun W => by
    have := run_make (P := Tryd.prog) W 46 54 ie _ Tryd.underlying46 hie hiz .i64 .i64 0 12 (by decide) (by decide) (by rw [h40]; decide) (by decide)
    rw [this, hZ]; rfl
  have hZs : Z.size = 48 := by rw [hZ, h4]; simp [madeCells]
  have o0 : Own4 54 w (w.alloc (.cells Z 54)) (.slice (some ⟨w.heap.size, 0, none⟩) 0 12) 0 [] :=
    ⟨(Below.refl _ _).alloc (Nat.le_refl _) _, rfl, .inr ⟨w.heap.size, 12, Z, rfl, Nat.le_refl _, heap_alloc_new w _, by omega, by decide, hZs, rfl⟩⟩
  have cc := convs_any (h.below o0.below)
  have HI := Lib.hid (And.intro hie (And.intro hiz (And.intro h4 h40)))
  clear hie hiz h4 h40 hZ hZs h
  go_enter Tryd.func28, Tryd.ntmps28
  go_wp2_with (go_at_call 30; refine cc.mono ?_; rintro e w' ⟨rfl, hb⟩)
  go_loopw [1, 6] (fun v i wr => ∃ k : Nat, i = .int .i64 k ∧ k ≤ 12 ∧ Own4 54 w wr v k (flatK k)) (fun _ i _ => 12 - (intOf i).toNat)
  case atStart => exact ⟨0, rfl, by omega, o0.then_ hb⟩
  case round =>
    obtain ⟨k, rfl, hk, ho⟩ := hrel
    by_cases hlt : k < 12
    · have hltz : (k : Int) < 12 := by omega
      have ci := fun w => cv_all (i := (k : Int)) (by omega) hltz w
      have hfl := flatK_succ k
      have hkb := kinds_lt ((k : Int) + 1)
      have hcn : cnm ((k : Int) + 1) = ⟨(nameL (cfr ((k : Int) + 1))).toArray⟩ ++ ⟨#[45]⟩ ++ ⟨(nameL (cto ((k : Int) + 1))).toArray⟩ := rfl
      have hen : (entN ((k : Int) + 1)).cells = [.int .i64 2, .int .i64 ((k : Int) + 1), .string (cnm ((k : Int) + 1)), .int .i64 (8 * cfr ((k : Int) + 1) + cto ((k : Int) + 1))] := rfl
      rw [hcn] at hen
      rw [hen] at hfl
      obtain ⟨m, hm⟩ : ∃ m : Int, (k : Int) + 1 = m := ⟨_, rfl⟩
      simp only [hm] at ci
      rw [hm] at hkb hfl
      obtain ⟨F, hF⟩ : ∃ F, cfr m = F := ⟨_, rfl⟩
      obtain ⟨T, hT⟩ : ∃ T, cto m = T := ⟨_, rfl⟩
      obtain ⟨A, hA⟩ : ∃ A : ByteArray, (⟨(nameL F).toArray⟩ : ByteArray) = A := ⟨_, rfl⟩
      obtain ⟨B, hB⟩ : ∃ B : ByteArray, (⟨(nameL T).toArray⟩ : ByteArray) = B := ⟨_, rfl⟩
      rw [hF, hT] at hkb
      rw [hF, hT, hA, hB] at hfl
      have cF : ∀ W, Calls Tryd.prog 41 #[.int .i64 F] W fun e w' => e = .returned (.string A) ∧ Below W.heap.size W w' := fun W => by rw [← hA]; exact name_any W F
      have cT : ∀ W, Calls Tryd.prog 41 #[.int .i64 T] W fun e w' => e = .returned (.string B) ∧ Below W.heap.size W w' := fun W => by rw [← hB]; exact name_any W T
      obtain ⟨b1, b2, b3, b4⟩ := hkb
      have sA : A.size ≤ 5 := hA ▸ name_len F
      have sB : B.size ≤ 5 := hB ▸ name_len T
      have v1 : IntKind.i64.wrap ((k : Int) + 1) = (k : Int) + 1 := by rw [IntKind.wrap_i64]; omega
      have v2 : IntKind.i64.wrap (8 * F) = 8 * F := by rw [IntKind.wrap_i64]; omega
      have v3 : IntKind.i64.wrap (8 * F + T) = 8 * F + T := by rw [IntKind.wrap_i64]; omega
      have n1 : ¬ 9223372036854775807 < A.size + 1 := by omega
      have n2 : ¬ 9223372036854775807 < A.size + 1 + B.size := by omega
      rw [← hm] at hfl
      have HFL := Lib.hid hfl
      have HM := Lib.hid hm
      have HFT := Lib.hid (And.intro hF hT)
      have HO := Lib.hid ho
      have h0 := CBlk.new wr 0
      clear hfl hm hF hT hA hB hcn hen
      go_wp2_with (refine wpList_store_cv rfl (.tmp 3) (.tmp 9) rfl wr.heap.size 0 m rfl rfl h0 ?_; intro w5 h5 t5)
      obtain ⟨q0, q1, q2, q3⟩ := h5.cells
      rw [HFT.out.1] at q0
      rw [HFT.out.2] at q1
      have ho5 : Own4 54 w w5 u1 k (flatK k) := HO.out.then_ (((Below.refl _ _).alloc (Nat.le_refl _) (.cells (cvC 0) 50)).trans (t5.below (Nat.le_refl _)))
      have ho5' : Own4 54 w w5.drew u1 k (flatK k) := ho5.then_ (Below.thenN (Below.refl _ _) 1)
      have HC : Hid (∀ W, Below w5.heap.size w5 W → W.cell? ⟨wr.heap.size, 0, none⟩ = some (.int .i64 F) ∧ W.cell? ⟨wr.heap.size, 1, none⟩ = some (.int .i64 T)) := fun W hb => ⟨((Below.cells hb).1 _ _ h5.len).trans q0, ((Below.cells hb).1 _ _ h5.len).trans q1⟩
      have hself : Below w5.heap.size w5 w5 := Below.refl _ _
      have hd5 : Below w5.heap.size w5 w5.drew := Below.thenN (Below.refl _ _) 1
      have HIE := HI.out
      obtain ⟨hie, hiz, h4, h40⟩ := HIE
      have HI1 := Lib.hid hie
      have HI2 := Lib.hid hiz
      have HI3 := Lib.hid h4
      have HI4 := Lib.hid h40
      clear hie hiz h4 h40 q0 q1 q2 q3
      have HON : ∀ u ∈ (#[.int .i64 2, .int .i64 ((k : Int) + 1), .string (A ++ ⟨#[45]⟩ ++ B), .int .i64 (8 * F + T)] : Array Value).toList, u.oneCell' = true := by simp [Value.oneCell']
      have hk1 : k + 1 ≤ 1000 := by omega
      have HNE : Hid (some wr.heap.size ≠ u1.ownBlock) := fun e => absurd (World.ownsRow.lt HO.out.own _ e.symm).2 (by omega)
      have HG : Hid (∀ (W W8 : World) (ob : Obj), Below w5.heap.size w5 W8 → (W8.alloc ob).grownBy W u1.ownBlock → W.cell? ⟨wr.heap.size, 0, none⟩ = some (.int .i64 F) ∧ W.cell? ⟨wr.heap.size, 1, none⟩ = some (.int .i64 T)) := fun W W8 ob hb hg => by
        have c := HC.out _ (hb.alloc hb.size ob)
        have hlt : wr.heap.size < (W8.alloc ob).heap.size := by have := hb.size; have := h5.len; simp; omega
        exact ⟨(hg.cell_far ⟨wr.heap.size, 0, none⟩ hlt HNE.out).trans c.1, (hg.cell_far ⟨wr.heap.size, 1, none⟩ hlt HNE.out).trans c.2⟩
      go_wp2_with fail
      go_region_held3 (fun W => W.cell? ⟨wr.heap.size, 0, none⟩ = some (.int .i64 F) ∧ W.cell? ⟨wr.heap.size, 1, none⟩ = some (.int .i64 T))
        (first | assumption | (exact HC.out _ (by assumption)) | (exact HC.out _ (Below.drew (by assumption))) | (exact HC.out _ (Below.alloc (by assumption) (Below.size (by assumption)) _)) | fail)
        (first
          | (go_at_call 41; with_reducible refine (cF _).mono ?_; rintro e w7 ⟨rfl, hb7⟩; have ho7 := ho5'.then_ hb7; have hb7' : Below w5.heap.size w5 w7 := Below.both hd5 hb7)
          | (go_at_call 41; with_reducible refine (cT _).mono ?_; rintro e w8 ⟨rfl, hb8⟩; have ho8 := ho7.then_ hb8; have hb8' : Below w5.heap.size w5 w8 := Below.both hb7' hb8)
          | (refine step_own4 rfl (.tmp 10) (.tmp 28) 46 rfl ie _ Tryd.underlying46 HI1.out HI2.out HI3.out HI4.out rfl u1 rfl ho8 #[.int .i64 2, .int .i64 ((k : Int) + 1), .string (A ++ ⟨#[45]⟩ ++ B), .int .i64 (8 * F + T)] rfl rfl HON hk1 ?_; intro gg cap w9 ho9 hg9; rw [← HFL.out] at ho9; have s9 := HG.out w9 w8 _ hb8' hg9)
          | fail)
      go_wp2
      go_roundw
      case rel => exact ⟨k + 1, by go_num, by omega, ho9⟩
      case measure => simp [intOf]; omega
    · have hk12 : k = 12 := by omega
      subst hk12
      go_wp2
      go_ret
      exact ⟨u1, rfl, ho⟩
end Go.Proofs.YtijgcfnjbfaelaaDoor
