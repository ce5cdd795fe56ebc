/- The walk of ConvBack. -/
import Derived.Test.YtijgcfnjbfaelaaDoorConvAwake
import Derived.Test.YtijgcfnjbfaelaaDoorConvFacts
import Derived.Deep.RegionHeld3
namespace Go.Proofs.YtijgcfnjbfaelaaDoor
open Go.RowKit

/-- one conversion of a value, boxed -/
def OBlk (w : World) (g : Nat) (n : Int) (v : Val) : Prop := w.heap[g]? = some (.cells #[.int .i64 n, .int .i64 v.k, .int .u64 v.n, .string v.s] 26 (0, 0))
section
variable {w w' : World} {g : Nat} {n : Int} {v : Val}
theorem OBlk.new (w : World) (n : Int) (v : Val) : OBlk (w.alloc (.cells #[.int .i64 n, .int .i64 v.k, .int .u64 v.n, .string v.s] 26)) w.heap.size n v := heap_alloc_new w _
theorem OBlk.len (h : OBlk w g n v) : g < w.heap.size := (Array.getElem?_eq_some_iff.1 h).1
theorem OBlk.cells (h : OBlk w g n v) : w.cell? ⟨g, 0, none⟩ = some (.int .i64 n) ∧ w.cell? ⟨g, 1, none⟩ = some (.int .i64 v.k) ∧ w.cell? ⟨g, 2, none⟩ = some (.int .u64 v.n) ∧ w.cell? ⟨g, 3, none⟩ = some (.string v.s) := by
  have q := fun j => cell_of_row w g j _ 26 (0, 0) h
  exact ⟨q 0, q 1, q 2, q 3⟩
theorem OBlk.below (h : OBlk w g n v) (hb : Below w.heap.size w w') : OBlk w' g n v := (hb.block g h.len).trans h
theorem OBlk.new_ (h : OBlk w g n v) (o : Obj) : OBlk (w.alloc o) g n v := (heap_alloc_old w _ h.len).trans h
end

theorem fit0 {v : Val} (h : v.n = 0) : Fit64 v := by unfold Fit64; rw [h]; decide
/-- what is answered is a value of 64 bits, its text no longer than what came in, or short -/
theorem cap_fit {n : Int} {v : Val} (hf : Fit64 v) (hs : v.s.size ≤ 140737488355328) (h : 1 ≤ n ∧ n ≤ 12 ∧ okV v = true ∧ v.k = cfr n) : Fit64 (cap n v).2 ∧ (cap n v).2.s.size ≤ 140737488355328 := by
  obtain ⟨h1, h2, h3, h4⟩ := h
  obtain ⟨f1, f2⟩ := hf
  have q0 : Fit64 v0 ∧ v0.s.size ≤ 140737488355328 := ⟨⟨by decide, by decide⟩, by decide⟩
  rcases twelve h1 h2 with rfl | rfl | rfl | rfl | rfl | rfl | rfl | rfl | rfl | rfl | rfl | rfl
  · rw [cap1]; split
    · exact q0
    · exact ⟨⟨f1, f2⟩, by show (⟨#[]⟩ : ByteArray).size ≤ _; decide⟩
  · rw [cap2]; split
    · exact q0
    · exact ⟨⟨f1, f2⟩, by show (⟨#[]⟩ : ByteArray).size ≤ _; decide⟩
  · rw [cap3]
    exact ⟨fit0 rfl, by have := size_dg (n := v.n.toNat) (by omega); show (tx (dg v.n.toNat)).size ≤ _; omega⟩
  · rw [cap4]
    refine ⟨fit0 rfl, ?_⟩
    show (tx (ditx v.n.toNat)).size ≤ _
    rw [size_tx]
    unfold ditx
    split
    · rw [List.length_cons]; have := dg_len64 (n := 18446744073709551616 - v.n.toNat) (by omega); omega
    · have := dg_len64 (n := v.n.toNat) (by omega); omega
  · rw [cap5]; split
    · refine ⟨⟨Int.natCast_nonneg _, ?_⟩, by show (⟨#[]⟩ : ByteArray).size ≤ _; decide⟩
      show ((rdN 18446744073709551615 (ls v.s) : Nat) : Int) ≤ _
      rcases rd_three 18446744073709551615 (ls v.s) with ⟨_, e⟩ | ⟨_, e⟩ | ⟨_, e⟩ <;> omega
    · exact q0
  · rw [cap6]; split
    · refine ⟨⟨Int.natCast_nonneg _, ?_⟩, by show (⟨#[]⟩ : ByteArray).size ≤ _; decide⟩
      show ((riN (ls v.s) : Nat) : Int) ≤ _
      have := ri_lt (ls v.s); omega
    · exact q0
  · rw [cap7]
    refine ⟨fit0 rfl, ?_⟩
    show (tx (if v.n = 0 then bFalse else bTrue)).size ≤ _
    split <;> (rw [size_tx]; decide)
  · rw [cap8]; split
    · exact ⟨⟨by decide, by decide⟩, by show (⟨#[]⟩ : ByteArray).size ≤ _; decide⟩
    · split
      · exact ⟨⟨by decide, by decide⟩, by show (⟨#[]⟩ : ByteArray).size ≤ _; decide⟩
      · exact q0
  · rw [cap9]
    exact ⟨⟨f1, f2⟩, by show (⟨#[]⟩ : ByteArray).size ≤ _; decide⟩
  · rw [cap10]; split
    · exact q0
    · exact ⟨⟨f1, f2⟩, by show (⟨#[]⟩ : ByteArray).size ≤ _; decide⟩
  · rw [cap11]
    exact ⟨fit0 rfl, hs⟩
  · rw [cap12]; split
    · exact ⟨fit0 rfl, hs⟩
    · exact q0
/-- there and back, in the form of the statement -/
theorem back_of {n : Int} {v X : Val} (hf : Fit64 v) (hs : v.s.size ≤ 140737488355328) (he : capp n v = (0, X)) (h5 : n ≠ 5) (h6 : n ≠ 6) :
    cbe (cto n) (cfr n) ≠ 0 ∧ capp (cbe (cto n) (cfr n)) X = (0, v) ∧ Fit64 X ∧ X.s.size ≤ 140737488355328 := by
  by_cases h : 1 ≤ n ∧ n ≤ 12 ∧ okV v = true ∧ v.k = cfr n
  · rw [capp_yes h] at he
    have e1 : (cap n v).1 = 0 := by rw [he]
    have e2 : (cap n v).2 = X := by rw [he]
    have q := cap_back hf h e1 h5 h6
    have r := cap_fit hf hs h
    rw [e2] at q r
    exact ⟨q.1, q.2, r.1, r.2⟩
  · rw [capp_no h] at he
    have := congrArg Prod.fst he
    exact absurd (show (1 : Int) = 0 from this) (by decide)

section
variable {w : World}
set_option maxRecDepth 100000 in
set_option maxHeartbeats 2000000 in
theorem backlaw_any (h : CSt w w) (n k m : Int) (s : ByteArray) (hf : Fit64 ⟨k, m, s⟩) (hs : s.size ≤ 140737488355328) :
    Calls Tryd.prog 6 #[.agg #[.int .i64 n, .int .i64 k, .int .u64 m, .string s]] w (Yes w) := by
  obtain ⟨wb, hwb⟩ : ∃ wb, wb = w.alloc (.cells #[.int .i64 n, .int .i64 k, .int .u64 m, .string s] 26) := ⟨_, rfl⟩
  have kb : CSt w wb := by rw [hwb]; exact h.new _
  have ob : OBlk wb w.heap.size n ⟨k, m, s⟩ := by rw [hwb]; exact OBlk.new w n ⟨k, m, s⟩
  have HWB := Lib.hid hwb
  clear h hwb
  by_cases hbig : 16777216 < s.size
  · have hbz : (16777216 : Int) < (s.size : Int) := by omega
    clear hf hs
    go_enter Tryd.func6, Tryd.ntmps6
    go_wp2_with fail
    rw [← HWB.out]
    refine (awake_self kb.self).mono ?_
    rintro e w1 ⟨rfl, k1⟩
    obtain ⟨p0, p1, p2, p3⟩ := (ob.below k1.below).cells
    dsimp only at p3
    go_wp2_with fail
    go_ret
    exact ⟨rfl, (kb.then_ k1.below).below⟩
  · have hbz : ¬ (16777216 : Int) < (s.size : Int) := by omega
    obtain ⟨E, x, y, z, hc⟩ : ∃ E x y z, capp n ⟨k, m, s⟩ = (E, ⟨x, y, z⟩) := ⟨_, _, _, _, rfl⟩
    have c1 := fun {W : World} (q : CSt w W) => c_apply q hf hs hc
    obtain ⟨T, hT⟩ : ∃ T, cto n = T := ⟨_, rfl⟩
    obtain ⟨F, hF⟩ : ∃ F, cfr n = F := ⟨_, rfl⟩
    obtain ⟨B, hB⟩ : ∃ B, cbe T F = B := ⟨_, rfl⟩
    have HQ := Lib.hid (fun (e : E = 0) (h5 : n ≠ 5) (h6 : n ≠ 6) => back_of hf hs (e ▸ hc) h5 h6)
    rw [hT, hF, hB] at HQ
    have HT := Lib.hid hT
    have HF := Lib.hid hF
    have HB := Lib.hid hB
    clear hf hs hc hT hF hB
    go_enter Tryd.func6, Tryd.ntmps6
    go_wp2_with fail
    rw [← HWB.out]
    refine (awake_self kb.self).mono ?_
    rintro e w1 ⟨rfl, k1⟩
    have ka := kb.then_ k1.below
    have oa := ob.below k1.below
    obtain ⟨p0, p1, p2, p3⟩ := oa.cells
    dsimp only at p0 p1 p2 p3
    go_wp2_with fail
    refine (c1 ka).mono ?_
    rintro e w2 ⟨rfl, k2, b2⟩
    obtain ⟨W3, hW3⟩ : ∃ W3, W3 = w2.alloc (.cells #[.int .i64 x, .int .u64 y, .string z] 24) := ⟨_, rfl⟩
    have k3 : CSt w W3 := by rw [hW3]; exact k2.new _
    have o3 : OBlk W3 w.heap.size n ⟨k, m, s⟩ := by rw [hW3]; exact (oa.below b2).new_ _
    have v3 : VBlk W3 w2.heap.size ⟨x, y, z⟩ := by rw [hW3]; exact VBlk.new w2 ⟨x, y, z⟩
    have HW3 := Lib.hid hW3
    clear p0 p1 p2 p3 oa ka k1 kb ob k2 b2 hW3 c1
    go_wp2_with fail
    rw [← HW3.out]
    have hself : Below W3.heap.size W3 W3 := Below.refl _ _
    have HCW : Hid (∀ W, Below W3.heap.size W3 W → Below W3.heap.size W3 W ∧ W.cell? ⟨w.heap.size, 0, none⟩ = some (.int .i64 n)) := fun W q => ⟨q, (o3.below q).cells.1⟩
    have ct : ∀ {W : World}, Below W3.heap.size W3 W → Calls Tryd.prog 17 #[.int .i64 n] W fun e w' => e = .returned (.int .i64 T) ∧ Below W3.heap.size W3 w' := fun {W} q => by
      rw [← HT.out]; exact (cto_any (k3.then_ q).self n).mono fun _ _ ⟨a, b⟩ => ⟨a, Below.both q b⟩
    have cf : ∀ {W : World}, Below W3.heap.size W3 W → Calls Tryd.prog 15 #[.int .i64 n] W fun e w' => e = .returned (.int .i64 F) ∧ Below W3.heap.size W3 w' := fun {W} q => by
      rw [← HF.out]; exact (cfrom_any (k3.then_ q).self n).mono fun _ _ ⟨a, b⟩ => ⟨a, Below.both q b⟩
    have cb : ∀ {W : World}, Below W3.heap.size W3 W → Calls Tryd.prog 13 #[.int .i64 T, .int .i64 F] W fun e w' => e = .returned (.int .i64 B) ∧ Below W3.heap.size W3 w' := fun {W} q => by
      rw [← HB.out]; exact (cbetween_any (k3.then_ q).self T F).mono fun _ _ ⟨a, b⟩ => ⟨a, Below.both q b⟩
    obtain ⟨p0, _, _, _⟩ := o3.cells
    go_region_held3 (fun W => Below W3.heap.size W3 W ∧ W.cell? ⟨w.heap.size, 0, none⟩ = some (.int .i64 n))
      (first | (exact HCW.out _ (by assumption)) | (exact HCW.out _ (Below.drew (by assumption))))
      (first
        | (go_at_call 17; with_reducible refine (ct (by first | assumption | exact Below.drew (by assumption) | exact And.left (by assumption))).mono ?_; rintro e w' ⟨rfl, hst⟩)
        | (go_at_call 15; with_reducible refine (cf (by first | assumption | exact Below.drew (by assumption) | exact And.left (by assumption))).mono ?_; rintro e w' ⟨rfl, hst⟩)
        | (go_at_call 13; with_reducible refine (cb (by first | assumption | exact Below.drew (by assumption) | exact And.left (by assumption))).mono ?_; rintro e w' ⟨rfl, hst⟩))
    have k4 := k3.then_ hst
    have o4 := o3.below hst
    have v4 := v3.below hst
    obtain ⟨q0, q1, q2, q3⟩ := o4.cells
    dsimp only at q0 q1 q2 q3
    by_cases e0 : E = 0
    · by_cases e5 : n = 5
      · subst e0 e5
        go_wp2_with fail
        go_ret
        exact ⟨rfl, k4.below⟩
      · by_cases e6 : n = 6
        · subst e0 e6
          go_wp2_with fail
          go_ret
          exact ⟨rfl, k4.below⟩
        · obtain ⟨hB0, hcX, hfX, hsX⟩ := HQ.out e0 e5 e6
          have n5 : (n == 5) = false := beq_eq_false_iff_ne.2 e5
          have n6 : (n == 6) = false := beq_eq_false_iff_ne.2 e6
          have b0 : (B != 0) = true := by simpa using hB0
          have c2 := c_apply k4 hfX hsX hcX
          obtain ⟨r0, r1, r2⟩ := v4.cells
          dsimp only at r0 r1 r2
          subst e0
          clear HQ HT HF HB hB0 hcX hfX hsX e5 e6 p0 hself HCW ct cf cb k3 o3 v3
          go_wp2_with fail
          refine c2.mono ?_
          rintro e w5 ⟨rfl, k5, b5⟩
          obtain ⟨t0, t1, t2, t3⟩ := ((o4.below b5).new_ (.cells #[.int .i64 k, .int .u64 m, .string s] 24)).cells
          dsimp only at t0 t1 t2 t3
          have k6 := k5.new (.cells #[.int .i64 k, .int .u64 m, .string s] 24)
          go_wp2_with fail
          go_ret
          exact ⟨ret_bool (by simp), k6.below⟩
    · have gb : (E != 0) = true := by simpa using e0
      clear e0
      go_wp2_with fail
      go_ret
      exact ⟨rfl, k4.below⟩
end
end Go.Proofs.YtijgcfnjbfaelaaDoor
