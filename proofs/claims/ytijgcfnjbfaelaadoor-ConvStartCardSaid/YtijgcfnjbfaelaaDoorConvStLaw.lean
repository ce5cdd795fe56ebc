/- The walks of start and ConvStart. -/
import Derived.Test.YtijgcfnjbfaelaaDoorConvOwn
import Derived.Test.YtijgcfnjbfaelaaDoorConvBackLaw
namespace Go.Proofs.YtijgcfnjbfaelaaDoor
open Go.RowKit

set_option maxRecDepth 100000 in
set_option maxHeartbeats 2000000 in
theorem cstart_any {w : World} (h : CSt w w) : Calls Tryd.prog 10 #[] w fun e w' => e = .returned (.bool true) ∧ Below w.heap.size w w' := by
  have HK := Lib.hid h
  clear h
  go_enter Tryd.func10, Tryd.ntmps10
  go_wp2_with fail
  refine (cbase_any HK.out).mono ?_
  rintro e w1 ⟨rfl, b1⟩
  go_wp2_with fail
  refine (ccount_any (HK.out.then_ b1)).mono ?_
  rintro e w2 ⟨rfl, b2⟩
  have hB2 := Below.both b1 b2
  go_wp2_with fail
  refine (centries_any (HK.out.then_ hB2).k.k).mono ?_
  rintro e w3 ⟨v, rfl, o3⟩
  obtain ⟨g, c, hv, _, _, hg, hg3, hcell⟩ := o3.form (by decide)
  subst hv
  have hB3 := Below.both hB2 o3.below
  have ct := table_any (HK.out.then_ hB3).self g c (ERow.of_cells (n := 48) (by rw [entK_len]) fun j hj => hcell j (by omega)) hg3
  clear o3 hcell
  go_wp2_with fail
  refine ct.mono ?_
  rintro e w4 ⟨rfl, b4⟩
  go_wp2_with fail
  go_ret
  exact ⟨rfl, Below.both hB3 b4⟩

set_option maxRecDepth 100000 in
set_option maxHeartbeats 8000000 in
theorem convstart_any {w : World} (h : CSt w w) (n k m : Int) (so s : ByteArray) (f t : Int) (hf : Fit64 ⟨k, m, so⟩) (hs : so.size ≤ 140737488355328) :
    Calls Tryd.prog 3 #[.agg #[.int .i64 n, .int .i64 k, .int .u64 m, .string so], .string s, .int .i64 f, .int .i64 t] w (Yes w) := by
  obtain ⟨wb, hwb⟩ : ∃ wb, wb = w.alloc (.cells #[.int .i64 n, .int .i64 k, .int .u64 m, .string so] 26) := ⟨_, rfl⟩
  have kb : CSt w wb := by rw [hwb]; exact h.new _
  have ob : OBlk wb w.heap.size n ⟨k, m, so⟩ := by rw [hwb]; exact OBlk.new w n ⟨k, m, so⟩
  have HWB := Lib.hid hwb
  clear h hwb
  obtain ⟨E, x, y, z, hc⟩ : ∃ E x y z, capp n ⟨k, m, so⟩ = (E, ⟨x, y, z⟩) := ⟨_, _, _, _, rfl⟩
  have c1 := fun {W : World} (q : CSt w W) => c_apply q hf hs hc
  obtain ⟨F, hF⟩ : ∃ F, cfr n = F := ⟨_, rfl⟩
  obtain ⟨T, hT⟩ : ∃ T, cto n = T := ⟨_, rfl⟩
  obtain ⟨B, hB⟩ : ∃ B, cbe f t = B := ⟨_, rfl⟩
  obtain ⟨S, hS⟩ : ∃ S, csu n = S := ⟨_, rfl⟩
  have HF := Lib.hid hF
  have HT := Lib.hid hT
  have HB := Lib.hid hB
  have HS := Lib.hid hS
  clear hf hs hc hT hF hB hS
  go_enter Tryd.func3, Tryd.ntmps3
  go_wp2_with fail
  rw [← HWB.out]
  refine (awake_self kb.self).mono ?_
  rintro e w1 ⟨rfl, k1⟩
  have ka := kb.then_ k1.below
  have oa := ob.below k1.below
  go_wp2_with fail
  refine (cstart_any ka.self).mono ?_
  rintro e w2 ⟨rfl, b2⟩
  have k2 := ka.then_ b2
  have o2 := oa.below b2
  obtain ⟨p0, p1, p2, p3⟩ := o2.cells
  dsimp only at p0 p1 p2 p3
  go_wp2_with fail
  refine (c1 k2).mono ?_
  rintro e w3 ⟨rfl, k3, b3⟩
  have o3 := o2.below b3
  clear p0 p1 p2 p3 oa ka k1 kb ob k2 b2 o2 c1
  go_wp2_with fail
  have hself : Below w3.heap.size w3 w3 := Below.refl _ _
  have HCW : Hid (∀ W, Below w3.heap.size w3 W → Below w3.heap.size w3 W ∧ W.cell? ⟨w.heap.size, 0, none⟩ = some (.int .i64 n)) := fun W q => ⟨q, (o3.below q).cells.1⟩
  have cown : ∀ {W : World}, Below w3.heap.size w3 W → Calls Tryd.prog 12 #[.string s] W fun e w' => e = .returned (.bool true) ∧ Below w3.heap.size w3 w' := fun {W} q =>
    (own_any (k3.then_ q).self s).mono fun _ _ ⟨a, b⟩ => ⟨a, Below.both q b⟩
  have cb : ∀ {W : World}, Below w3.heap.size w3 W → Calls Tryd.prog 13 #[.int .i64 f, .int .i64 t] W fun e w' => e = .returned (.int .i64 B) ∧ Below w3.heap.size w3 w' := fun {W} q => by
    rw [← HB.out]; exact (cbetween_any (k3.then_ q).self f t).mono fun _ _ ⟨a, b⟩ => ⟨a, Below.both q b⟩
  have rb : ∀ {W : World}, Below w3.heap.size w3 W → Calls Tryd.prog 14 #[.int .i64 f, .int .i64 t] W fun e w' => e = .returned (.int .i64 B) ∧ Below w3.heap.size w3 w' := fun {W} q => by
    rw [← HB.out]; exact (rbetween_any W f t).mono fun _ _ ⟨a, b⟩ => ⟨a, Below.both q b⟩
  have cf : ∀ {W : World}, Below w3.heap.size w3 W → Calls Tryd.prog 15 #[.int .i64 n] W fun e w' => e = .returned (.int .i64 F) ∧ Below w3.heap.size w3 w' := fun {W} q => by
    rw [← HF.out]; exact (cfrom_any (k3.then_ q).self n).mono fun _ _ ⟨a, b⟩ => ⟨a, Below.both q b⟩
  have rf : ∀ {W : World}, Below w3.heap.size w3 W → Calls Tryd.prog 16 #[.int .i64 n] W fun e w' => e = .returned (.int .i64 F) ∧ Below w3.heap.size w3 w' := fun {W} q => by
    rw [← HF.out]; exact (rfrom_any W n).mono fun _ _ ⟨a, b⟩ => ⟨a, Below.both q b⟩
  have ct : ∀ {W : World}, Below w3.heap.size w3 W → Calls Tryd.prog 17 #[.int .i64 n] W fun e w' => e = .returned (.int .i64 T) ∧ Below w3.heap.size w3 w' := fun {W} q => by
    rw [← HT.out]; exact (cto_any (k3.then_ q).self n).mono fun _ _ ⟨a, b⟩ => ⟨a, Below.both q b⟩
  have rt : ∀ {W : World}, Below w3.heap.size w3 W → Calls Tryd.prog 18 #[.int .i64 n] W fun e w' => e = .returned (.int .i64 T) ∧ Below w3.heap.size w3 w' := fun {W} q => by
    rw [← HT.out]; exact (rto_any W n).mono fun _ _ ⟨a, b⟩ => ⟨a, Below.both q b⟩
  have cs : ∀ {W : World}, Below w3.heap.size w3 W → Calls Tryd.prog 19 #[.int .i64 n] W fun e w' => e = .returned (.bool S) ∧ Below w3.heap.size w3 w' := fun {W} q => by
    rw [← HS.out]; exact (csure_any (k3.then_ q).self n).mono fun _ _ ⟨a, b⟩ => ⟨a, Below.both q b⟩
  have rs : ∀ {W : World}, Below w3.heap.size w3 W → Calls Tryd.prog 20 #[.int .i64 n] W fun e w' => e = .returned (.bool S) ∧ Below w3.heap.size w3 w' := fun {W} q => by
    rw [← HS.out]; exact (rsure_any W n).mono fun _ _ ⟨a, b⟩ => ⟨a, b ▸ q⟩
  obtain ⟨p0, _, _, _⟩ := o3.cells
  go_region_held3 (fun W => Below w3.heap.size w3 W ∧ W.cell? ⟨w.heap.size, 0, none⟩ = some (.int .i64 n))
    (first | (exact HCW.out _ (by assumption)) | (exact HCW.out _ (Below.drew (by assumption))) | fail)
    (first
      | (go_at_call 12; with_reducible refine (cown (by first | assumption | exact Below.drew (by assumption) | exact And.left (by assumption))).mono ?_; rintro e w' ⟨rfl, hst⟩)
      | (go_at_call 13; with_reducible refine (cb (by first | assumption | exact Below.drew (by assumption) | exact And.left (by assumption))).mono ?_; rintro e w' ⟨rfl, hst⟩)
      | (go_at_call 14; with_reducible refine (rb (by first | assumption | exact Below.drew (by assumption) | exact And.left (by assumption))).mono ?_; rintro e w' ⟨rfl, hst⟩)
      | (go_at_call 15; with_reducible refine (cf (by first | assumption | exact Below.drew (by assumption) | exact And.left (by assumption))).mono ?_; rintro e w' ⟨rfl, hst⟩)
      | (go_at_call 16; with_reducible refine (rf (by first | assumption | exact Below.drew (by assumption) | exact And.left (by assumption))).mono ?_; rintro e w' ⟨rfl, hst⟩)
      | (go_at_call 17; with_reducible refine (ct (by first | assumption | exact Below.drew (by assumption) | exact And.left (by assumption))).mono ?_; rintro e w' ⟨rfl, hst⟩)
      | (go_at_call 18; with_reducible refine (rt (by first | assumption | exact Below.drew (by assumption) | exact And.left (by assumption))).mono ?_; rintro e w' ⟨rfl, hst⟩)
      | (go_at_call 19; with_reducible refine (cs (by first | assumption | exact Below.drew (by assumption) | exact And.left (by assumption))).mono ?_; rintro e w' ⟨rfl, hst⟩)
      | (go_at_call 20; with_reducible refine (rs (by first | assumption | exact Below.drew (by assumption) | exact And.left (by assumption))).mono ?_; rintro e w' ⟨rfl, hst⟩)
      | fail)
  have k4 := k3.then_ hst
  go_wp2_with fail
  refine (cstart_any k4.self).mono ?_
  rintro e w5 ⟨rfl, b5⟩
  go_wp2_with fail
  go_ret
  exact ⟨rfl, (k4.then_ b5).below⟩
end Go.Proofs.YtijgcfnjbfaelaaDoor
