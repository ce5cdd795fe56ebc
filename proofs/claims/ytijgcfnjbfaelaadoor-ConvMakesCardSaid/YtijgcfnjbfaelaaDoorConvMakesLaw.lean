/- The walk of ConvMakes. -/
import Derived.Test.YtijgcfnjbfaelaaDoorConvBackLaw
import Derived.Deep.QuietTactic
import Derived.BigQuiet
namespace Go.Proofs.YtijgcfnjbfaelaaDoor
open Go.RowKit

section
variable {w : World}
set_option maxRecDepth 100000 in
set_option maxHeartbeats 1000000 in
theorem makes_big (h : CSt w w) (n k m : Int) (s : ByteArray) (hbig : 16777216 < s.size) :
    Calls Tryd.prog 5 #[.agg #[.int .i64 n, .int .i64 k, .int .u64 m, .string s]] w (Yes w) := by
  obtain ⟨wb, hwb⟩ : ∃ wb, wb = w.alloc (.cells #[.int .i64 n, .int .i64 k, .int .u64 m, .string s] 26) := ⟨_, rfl⟩
  have kb : CSt w wb := by rw [hwb]; exact h.new _
  have ob : OBlk wb w.heap.size n ⟨k, m, s⟩ := by rw [hwb]; exact OBlk.new w n ⟨k, m, s⟩
  have HWB := Lib.hid hwb
  clear h hwb
  have hbz : (16777216 : Int) < (s.size : Int) := by omega
  go_enter Tryd.func5, Tryd.ntmps5
  go_wp2_with fail
  rw [← HWB.out]
  refine (awake_self kb.self).mono ?_
  rintro e w1 ⟨rfl, k1⟩
  obtain ⟨p0, p1, p2, p3⟩ := (ob.below k1.below).cells
  dsimp only at p3
  go_wp2_with fail
  go_ret
  exact ⟨rfl, (kb.then_ k1.below).below⟩
set_option maxRecDepth 100000 in
set_option maxHeartbeats 2000000 in
theorem makes_bad (h : CSt w w) (n k m : Int) (s : ByteArray) (hf : Fit64 ⟨k, m, s⟩) (hs : s.size ≤ 140737488355328) (hbig : ¬ 16777216 < s.size) (hg : n < 1 ∨ 12 < n ∨ okV ⟨k, m, s⟩ = false) :
    Calls Tryd.prog 5 #[.agg #[.int .i64 n, .int .i64 k, .int .u64 m, .string s]] w (Yes w) := by
  obtain ⟨wb, hwb⟩ : ∃ wb, wb = w.alloc (.cells #[.int .i64 n, .int .i64 k, .int .u64 m, .string s] 26) := ⟨_, rfl⟩
  have kb : CSt w wb := by rw [hwb]; exact h.new _
  have ob : OBlk wb w.heap.size n ⟨k, m, s⟩ := by rw [hwb]; exact OBlk.new w n ⟨k, m, s⟩
  have HWB := Lib.hid hwb
  clear h hwb
  have hbz : ¬ (16777216 : Int) < (s.size : Int) := by omega
  have hc : capp n ⟨k, m, s⟩ = (1, ⟨0, 0, ⟨#[]⟩⟩) := capp_no fun q => by
    rcases hg with g | g | g
    · omega
    · omega
    · rw [g] at q; exact absurd q.2.2.1 (by decide)
  obtain ⟨V, hV⟩ : ∃ V, okV ⟨k, m, s⟩ = V := ⟨_, rfl⟩
  rw [hV] at hg
  have h3 : n < 1 ∨ (¬ n < 1 ∧ 12 < n) ∨ (¬ n < 1 ∧ ¬ 12 < n ∧ V = false) := by
    rcases hg with g | g | g
    · exact .inl g
    · by_cases q : n < 1
      · exact .inl q
      · exact .inr (.inl ⟨q, g⟩)
    · by_cases q : n < 1
      · exact .inl q
      · by_cases q2 : 12 < n
        · exact .inr (.inl ⟨q, q2⟩)
        · exact .inr (.inr ⟨q, q2, g⟩)
  clear hg
  have c1 := fun {W : World} (q : CSt w W) => c_apply q hf hs hc
  have cv := fun {W : World} (q : CSt W W) => kvalid_any q.k ⟨k, m, s⟩ hf hs
  simp only [hV] at cv
  clear hf hs hc hV
  go_enter Tryd.func5, Tryd.ntmps5
  go_wp2_with fail
  rw [← HWB.out]
  refine (awake_self kb.self).mono ?_
  rintro e w1 ⟨rfl, k1⟩
  have ka := kb.then_ k1.below
  have oa := ob.below k1.below
  obtain ⟨p0, p1, p2, p3⟩ := oa.cells
  dsimp only at p0 p1 p2 p3
  go_wp2_with fail
  refine (c1 ka).mono ?_
  rintro e w2 ⟨rfl, k2, b2⟩
  have k3 := k2.new (.cells #[.int .i64 0, .int .u64 0, .string ⟨#[]⟩] 24)
  have o3 := (oa.below b2).new_ (.cells #[.int .i64 0, .int .u64 0, .string ⟨#[]⟩] 24)
  have v3 := VBlk.new w2 ⟨0, 0, ⟨#[]⟩⟩
  clear p0 p1 p2 p3
  obtain ⟨p0, p1, p2, p3⟩ := o3.cells
  dsimp only at p0 p1 p2 p3
  go_wp2_with fail
  refine (cv k3.self).mono ?_
  rintro e w4 ⟨rfl, k4'⟩
  have k4 := k3.then_ k4'.below
  have o4 := o3.below k4'.below
  have v4 := VBlk.below v3 k4'.below
  clear p0 p1 p2 p3 oa ka k1 kb ob k2 b2 c1 cv k3 o3 v3 k4'
  obtain ⟨p0, p1, p2, p3⟩ := o4.cells
  obtain ⟨q0, q1, q2⟩ := v4.cells
  dsimp only at p0 p1 p2 p3 q0 q1 q2
  rcases h3 with h1 | ⟨h1, h2⟩ | ⟨h1, h2, rfl⟩
  case' inl => have d1 : decide (n < 1) = true := decide_eq_true (by omega)
  case' inr.inl => have d1 : decide (n < 1) = false := decide_eq_false (by omega)
  case' inr.inl => have d2 : decide (12 < n) = true := decide_eq_true (by omega)
  case' inr.inr => have d1 : decide (n < 1) = false := decide_eq_false (by omega)
  case' inr.inr => have d2 : decide (12 < n) = false := decide_eq_false (by omega)
  all_goals
    go_wp2_with fail
    go_quiet (fail)
    go_wp2
    go_ret
    exact ⟨rfl, (k4.newN _).below⟩
set_option maxRecDepth 100000 in
set_option maxHeartbeats 2000000 in
theorem makes_other (h : CSt w w) (n k m : Int) (s : ByteArray) (hf : Fit64 ⟨k, m, s⟩) (hs : s.size ≤ 140737488355328) (hbig : ¬ 16777216 < s.size) (h1 : ¬ n < 1) (h2 : ¬ 12 < n) (hV : okV ⟨k, m, s⟩ = true) (hk : k ≠ cfr n) :
    Calls Tryd.prog 5 #[.agg #[.int .i64 n, .int .i64 k, .int .u64 m, .string s]] w (Yes w) := by
  obtain ⟨wb, hwb⟩ : ∃ wb, wb = w.alloc (.cells #[.int .i64 n, .int .i64 k, .int .u64 m, .string s] 26) := ⟨_, rfl⟩
  have kb : CSt w wb := by rw [hwb]; exact h.new _
  have ob : OBlk wb w.heap.size n ⟨k, m, s⟩ := by rw [hwb]; exact OBlk.new w n ⟨k, m, s⟩
  have HWB := Lib.hid hwb
  clear h hwb
  have hbz : ¬ (16777216 : Int) < (s.size : Int) := by omega
  have hc : capp n ⟨k, m, s⟩ = (1, ⟨0, 0, ⟨#[]⟩⟩) := capp_no fun q => hk q.2.2.2
  obtain ⟨F, hF⟩ : ∃ F, cfr n = F := ⟨_, rfl⟩
  rw [hF] at hk
  have HF := Lib.hid hF
  have hkb : (F != k) = true := bne_iff_ne.2 fun e => hk e.symm
  clear hk hF
  have c1 := fun {W : World} (q : CSt w W) => c_apply q hf hs hc
  have cv := fun {W : World} (q : CSt W W) => kvalid_any q.k ⟨k, m, s⟩ hf hs
  simp only [hV] at cv
  clear hf hs hc hV
  go_enter Tryd.func5, Tryd.ntmps5
  go_wp2_with fail
  rw [← HWB.out]
  refine (awake_self kb.self).mono ?_
  rintro e w1 ⟨rfl, k1⟩
  have ka := kb.then_ k1.below
  have oa := ob.below k1.below
  obtain ⟨p0, p1, p2, p3⟩ := oa.cells
  dsimp only at p0 p1 p2 p3
  go_wp2_with fail
  refine (c1 ka).mono ?_
  rintro e w2 ⟨rfl, k2, b2⟩
  have k3 := k2.new (.cells #[.int .i64 0, .int .u64 0, .string ⟨#[]⟩] 24)
  have o3 := (oa.below b2).new_ (.cells #[.int .i64 0, .int .u64 0, .string ⟨#[]⟩] 24)
  have v3 := VBlk.new w2 ⟨0, 0, ⟨#[]⟩⟩
  clear p0 p1 p2 p3
  obtain ⟨p0, p1, p2, p3⟩ := o3.cells
  dsimp only at p0 p1 p2 p3
  go_wp2_with fail
  refine (cv k3.self).mono ?_
  rintro e w4 ⟨rfl, k4'⟩
  have k4 := k3.then_ k4'.below
  have o4 := o3.below k4'.below
  have v4 := VBlk.below v3 k4'.below
  clear p0 p1 p2 p3 oa ka k1 kb ob k2 b2 c1 cv k3 o3 v3 k4'
  obtain ⟨p0, p1, p2, p3⟩ := o4.cells
  obtain ⟨q0, q1, q2⟩ := v4.cells
  dsimp only at p0 p1 p2 p3 q0 q1 q2
  have d1 : decide (n < 1) = false := decide_eq_false (by omega)
  have d2 : decide (12 < n) = false := decide_eq_false (by omega)
  have hself : Below w4.heap.size w4 w4 := Below.refl _ _
  have HCW : Hid (∀ W, Below w4.heap.size w4 W → Below w4.heap.size w4 W ∧ W.cell? ⟨w.heap.size, 0, none⟩ = some (.int .i64 n) ∧ W.cell? ⟨w.heap.size, 1, none⟩ = some (.int .i64 k)) := fun W q => ⟨q, (o4.below q).cells.1, (o4.below q).cells.2.1⟩
  have cf : ∀ {W : World}, Below w4.heap.size w4 W → Calls Tryd.prog 15 #[.int .i64 n] W fun e w' => e = .returned (.int .i64 F) ∧ Below w4.heap.size w4 w' := fun {W} q => by
    rw [← HF.out]; exact (cfrom_any (k4.then_ q).self n).mono fun _ _ ⟨a, b⟩ => ⟨a, Below.both q b⟩
  go_wp2_with fail
  go_region_held3 (fun W => Below w4.heap.size w4 W ∧ W.cell? ⟨w.heap.size, 0, none⟩ = some (.int .i64 n) ∧ W.cell? ⟨w.heap.size, 1, none⟩ = some (.int .i64 k))
    (first | (exact HCW.out _ (by assumption)) | (exact HCW.out _ (Below.drew (by assumption))))
    (first
      | (go_at_call 15; with_reducible refine (cf (by first | assumption | exact Below.drew (by assumption) | exact And.left (by assumption))).mono ?_; rintro e w' ⟨rfl, hst⟩))
  have k5 := k4.then_ hst
  have o5 := o4.below hst
  have v5 := v4.below hst
  clear p0 p1 p2 p3 q0 q1 q2 HCW cf hself
  obtain ⟨p0, p1, p2, p3⟩ := o5.cells
  obtain ⟨q0, q1, q2⟩ := v5.cells
  dsimp only at p0 p1 p2 p3 q0 q1 q2
  go_wp2
  go_ret
  exact ⟨rfl, k5.below⟩
set_option maxRecDepth 100000 in
set_option maxHeartbeats 2000000 in
theorem makes_no (h : CSt w w) (n k m : Int) (s : ByteArray) (hf : Fit64 ⟨k, m, s⟩) (hs : s.size ≤ 140737488355328) (hbig : ¬ 16777216 < s.size) (h1 : ¬ n < 1) (h2 : ¬ 12 < n) (hV : okV ⟨k, m, s⟩ = true) (hk : k = cfr n) (E : Int) (hc : capp n ⟨k, m, s⟩ = (E, ⟨0, 0, ⟨#[]⟩⟩)) (hsu : csu n = false) (hE : E = 60 ∨ E = 61 ∨ E = 62 ∨ E = 63) :
    Calls Tryd.prog 5 #[.agg #[.int .i64 n, .int .i64 k, .int .u64 m, .string s]] w (Yes w) := by
  obtain ⟨wb, hwb⟩ : ∃ wb, wb = w.alloc (.cells #[.int .i64 n, .int .i64 k, .int .u64 m, .string s] 26) := ⟨_, rfl⟩
  have kb : CSt w wb := by rw [hwb]; exact h.new _
  have ob : OBlk wb w.heap.size n ⟨k, m, s⟩ := by rw [hwb]; exact OBlk.new w n ⟨k, m, s⟩
  have HWB := Lib.hid hwb
  clear h hwb
  have hbz : ¬ (16777216 : Int) < (s.size : Int) := by omega
  obtain ⟨F, hF⟩ : ∃ F, cfr n = F := ⟨_, rfl⟩
  rw [hF] at hk
  have HF := Lib.hid hF
  have hkb : (F != k) = false := by rw [hk]; simp
  have HSU := Lib.hid hsu
  clear hk hF hsu
  have c1 := fun {W : World} (q : CSt w W) => c_apply q hf hs hc
  have cv := fun {W : World} (q : CSt W W) => kvalid_any q.k ⟨k, m, s⟩ hf hs
  simp only [hV] at cv
  clear hf hs hc hV
  go_enter Tryd.func5, Tryd.ntmps5
  go_wp2_with fail
  rw [← HWB.out]
  refine (awake_self kb.self).mono ?_
  rintro e w1 ⟨rfl, k1⟩
  have ka := kb.then_ k1.below
  have oa := ob.below k1.below
  obtain ⟨p0, p1, p2, p3⟩ := oa.cells
  dsimp only at p0 p1 p2 p3
  go_wp2_with fail
  refine (c1 ka).mono ?_
  rintro e w2 ⟨rfl, k2, b2⟩
  have k3 := k2.new (.cells #[.int .i64 0, .int .u64 0, .string ⟨#[]⟩] 24)
  have o3 := (oa.below b2).new_ (.cells #[.int .i64 0, .int .u64 0, .string ⟨#[]⟩] 24)
  have v3 := VBlk.new w2 ⟨0, 0, ⟨#[]⟩⟩
  clear p0 p1 p2 p3
  obtain ⟨p0, p1, p2, p3⟩ := o3.cells
  dsimp only at p0 p1 p2 p3
  go_wp2_with fail
  refine (cv k3.self).mono ?_
  rintro e w4 ⟨rfl, k4'⟩
  have k4 := k3.then_ k4'.below
  have o4 := o3.below k4'.below
  have v4 := VBlk.below v3 k4'.below
  clear p0 p1 p2 p3 oa ka k1 kb ob k2 b2 c1 cv k3 o3 v3 k4'
  obtain ⟨p0, p1, p2, p3⟩ := o4.cells
  obtain ⟨q0, q1, q2⟩ := v4.cells
  dsimp only at p0 p1 p2 p3 q0 q1 q2
  have d1 : decide (n < 1) = false := decide_eq_false (by omega)
  have d2 : decide (12 < n) = false := decide_eq_false (by omega)
  have hself : Below w4.heap.size w4 w4 := Below.refl _ _
  have HCW : Hid (∀ W, Below w4.heap.size w4 W → Below w4.heap.size w4 W ∧ W.cell? ⟨w.heap.size, 0, none⟩ = some (.int .i64 n) ∧ W.cell? ⟨w.heap.size, 1, none⟩ = some (.int .i64 k)) := fun W q => ⟨q, (o4.below q).cells.1, (o4.below q).cells.2.1⟩
  have cf : ∀ {W : World}, Below w4.heap.size w4 W → Calls Tryd.prog 15 #[.int .i64 n] W fun e w' => e = .returned (.int .i64 F) ∧ Below w4.heap.size w4 w' := fun {W} q => by
    rw [← HF.out]; exact (cfrom_any (k4.then_ q).self n).mono fun _ _ ⟨a, b⟩ => ⟨a, Below.both q b⟩
  go_wp2_with fail
  go_region_held3 (fun W => Below w4.heap.size w4 W ∧ W.cell? ⟨w.heap.size, 0, none⟩ = some (.int .i64 n) ∧ W.cell? ⟨w.heap.size, 1, none⟩ = some (.int .i64 k))
    (first | (exact HCW.out _ (by assumption)) | (exact HCW.out _ (Below.drew (by assumption))))
    (first
      | (go_at_call 15; with_reducible refine (cf (by first | assumption | exact Below.drew (by assumption) | exact And.left (by assumption))).mono ?_; rintro e w' ⟨rfl, hst⟩))
  have k5 := k4.then_ hst
  have o5 := o4.below hst
  have v5 := v4.below hst
  clear p0 p1 p2 p3 q0 q1 q2 HCW cf hself
  obtain ⟨p0, p1, p2, p3⟩ := o5.cells
  obtain ⟨q0, q1, q2⟩ := v5.cells
  dsimp only at p0 p1 p2 p3 q0 q1 q2
  have csx : Calls Tryd.prog 19 #[.int .i64 n] w' fun e w9 => e = .returned (.bool false) ∧ Below w'.heap.size w' w9 := by
    rw [← HSU.out]; exact csure_any k5.self n
  rcases hE with rfl | rfl | rfl | rfl
  all_goals
    go_wp2_with (go_at_call 19; refine csx.mono ?_; rintro e w9 ⟨rfl, b9⟩)
    go_ret
    exact ⟨rfl, (k5.then_ b9).below⟩
set_option maxRecDepth 100000 in
set_option maxHeartbeats 2000000 in
theorem makes_yes (h : CSt w w) (n k m : Int) (s : ByteArray) (hf : Fit64 ⟨k, m, s⟩) (hs : s.size ≤ 140737488355328) (hbig : ¬ 16777216 < s.size) (h1 : ¬ n < 1) (h2 : ¬ 12 < n) (hV : okV ⟨k, m, s⟩ = true) (hk : k = cfr n) (x y : Int) (z : ByteArray) (hc : capp n ⟨k, m, s⟩ = (0, ⟨x, y, z⟩)) (hok : okV ⟨x, y, z⟩ = true) (hx : x = cto n) (hfX : Fit64 ⟨x, y, z⟩) (hsX : z.size ≤ 140737488355328) :
    Calls Tryd.prog 5 #[.agg #[.int .i64 n, .int .i64 k, .int .u64 m, .string s]] w (Yes w) := by
  obtain ⟨wb, hwb⟩ : ∃ wb, wb = w.alloc (.cells #[.int .i64 n, .int .i64 k, .int .u64 m, .string s] 26) := ⟨_, rfl⟩
  have kb : CSt w wb := by rw [hwb]; exact h.new _
  have ob : OBlk wb w.heap.size n ⟨k, m, s⟩ := by rw [hwb]; exact OBlk.new w n ⟨k, m, s⟩
  have HWB := Lib.hid hwb
  clear h hwb
  have hbz : ¬ (16777216 : Int) < (s.size : Int) := by omega
  obtain ⟨F, hF⟩ : ∃ F, cfr n = F := ⟨_, rfl⟩
  rw [hF] at hk
  have HF := Lib.hid hF
  have hkb : (F != k) = false := by rw [hk]; simp
  have HX := Lib.hid hx.symm
  have cvx := fun {W : World} (q : CSt W W) => kvalid_any q.k ⟨x, y, z⟩ hfX hsX
  simp only [hok] at cvx
  clear hk hF hx hfX hsX hok
  have c1 := fun {W : World} (q : CSt w W) => c_apply q hf hs hc
  have cv := fun {W : World} (q : CSt W W) => kvalid_any q.k ⟨k, m, s⟩ hf hs
  simp only [hV] at cv
  clear hf hs hc hV
  go_enter Tryd.func5, Tryd.ntmps5
  go_wp2_with fail
  rw [← HWB.out]
  refine (awake_self kb.self).mono ?_
  rintro e w1 ⟨rfl, k1⟩
  have ka := kb.then_ k1.below
  have oa := ob.below k1.below
  obtain ⟨p0, p1, p2, p3⟩ := oa.cells
  dsimp only at p0 p1 p2 p3
  go_wp2_with fail
  refine (c1 ka).mono ?_
  rintro e w2 ⟨rfl, k2, b2⟩
  have k3 := k2.new (.cells #[.int .i64 x, .int .u64 y, .string z] 24)
  have o3 := (oa.below b2).new_ (.cells #[.int .i64 x, .int .u64 y, .string z] 24)
  have v3 := VBlk.new w2 ⟨x, y, z⟩
  clear p0 p1 p2 p3
  obtain ⟨p0, p1, p2, p3⟩ := o3.cells
  dsimp only at p0 p1 p2 p3
  go_wp2_with fail
  refine (cv k3.self).mono ?_
  rintro e w4 ⟨rfl, k4'⟩
  have k4 := k3.then_ k4'.below
  have o4 := o3.below k4'.below
  have v4 := VBlk.below v3 k4'.below
  clear p0 p1 p2 p3 oa ka k1 kb ob k2 b2 c1 cv k3 o3 v3 k4'
  obtain ⟨p0, p1, p2, p3⟩ := o4.cells
  obtain ⟨q0, q1, q2⟩ := v4.cells
  dsimp only at p0 p1 p2 p3 q0 q1 q2
  have d1 : decide (n < 1) = false := decide_eq_false (by omega)
  have d2 : decide (12 < n) = false := decide_eq_false (by omega)
  have hself : Below w4.heap.size w4 w4 := Below.refl _ _
  have HCW : Hid (∀ W, Below w4.heap.size w4 W → Below w4.heap.size w4 W ∧ W.cell? ⟨w.heap.size, 0, none⟩ = some (.int .i64 n) ∧ W.cell? ⟨w.heap.size, 1, none⟩ = some (.int .i64 k)) := fun W q => ⟨q, (o4.below q).cells.1, (o4.below q).cells.2.1⟩
  have cf : ∀ {W : World}, Below w4.heap.size w4 W → Calls Tryd.prog 15 #[.int .i64 n] W fun e w' => e = .returned (.int .i64 F) ∧ Below w4.heap.size w4 w' := fun {W} q => by
    rw [← HF.out]; exact (cfrom_any (k4.then_ q).self n).mono fun _ _ ⟨a, b⟩ => ⟨a, Below.both q b⟩
  go_wp2_with fail
  go_region_held3 (fun W => Below w4.heap.size w4 W ∧ W.cell? ⟨w.heap.size, 0, none⟩ = some (.int .i64 n) ∧ W.cell? ⟨w.heap.size, 1, none⟩ = some (.int .i64 k))
    (first | (exact HCW.out _ (by assumption)) | (exact HCW.out _ (Below.drew (by assumption))))
    (first
      | (go_at_call 15; with_reducible refine (cf (by first | assumption | exact Below.drew (by assumption) | exact And.left (by assumption))).mono ?_; rintro e w' ⟨rfl, hst⟩))
  have k5 := k4.then_ hst
  have o5 := o4.below hst
  have v5 := v4.below hst
  clear p0 p1 p2 p3 q0 q1 q2 HCW cf hself
  obtain ⟨p0, p1, p2, p3⟩ := o5.cells
  obtain ⟨q0, q1, q2⟩ := v5.cells
  dsimp only at p0 p1 p2 p3 q0 q1 q2
  go_wp2_with fail
  refine (cvx k5.self).mono ?_
  rintro e w6 ⟨rfl, k6'⟩
  have k6 := k5.then_ k6'.below
  have o6 := o5.below k6'.below
  have v6 := v5.below k6'.below
  clear p0 p1 p2 p3 q0 q1 q2
  have HCX : Hid (∀ W, Below w6.heap.size w6 W → Below w6.heap.size w6 W ∧ W.cell? ⟨w.heap.size, 0, none⟩ = some (.int .i64 n) ∧ W.cell? ⟨w2.heap.size, 0, none⟩ = some (.int .i64 x)) := fun W q => ⟨q, (o6.below q).cells.1, (v6.below q).cells.1⟩
  have ct : ∀ {W : World}, Below w6.heap.size w6 W → Calls Tryd.prog 17 #[.int .i64 n] W fun e w' => e = .returned (.int .i64 x) ∧ Below w6.heap.size w6 w' := fun {W} q => by
    have := cto_any (k6.then_ q).self n
    rw [HX.out] at this
    exact this.mono fun _ _ ⟨a, b⟩ => ⟨a, Below.both q b⟩
  have hself6 : Below w6.heap.size w6 w6 := Below.refl _ _
  obtain ⟨_, p0, q0⟩ := HCX.out w6 hself6
  go_wp2_with fail
  go_region_held3 (fun W => Below w6.heap.size w6 W ∧ W.cell? ⟨w.heap.size, 0, none⟩ = some (.int .i64 n) ∧ W.cell? ⟨w2.heap.size, 0, none⟩ = some (.int .i64 x))
    (first | (exact HCX.out _ (by assumption)) | (exact HCX.out _ (Below.drew (by assumption))))
    (first
      | (go_at_call 17; with_reducible refine (ct (by first | assumption | exact Below.drew (by assumption) | exact And.left (by assumption))).mono ?_; rintro e w' ⟨rfl, hst6⟩))
  go_wp2
  go_ret
  exact ⟨ret_bool (by simp), (k6.then_ (by assumption)).below⟩
theorem makeslaw_any (h : CSt w w) (n k m : Int) (s : ByteArray) (hf : Fit64 ⟨k, m, s⟩) (hs : s.size ≤ 140737488355328) :
    Calls Tryd.prog 5 #[.agg #[.int .i64 n, .int .i64 k, .int .u64 m, .string s]] w (Yes w) := by
  by_cases hbig : 16777216 < s.size
  · exact makes_big h n k m s hbig
  by_cases h1 : n < 1
  · exact makes_bad h n k m s hf hs hbig (.inl h1)
  by_cases h2 : 12 < n
  · exact makes_bad h n k m s hf hs hbig (.inr (.inl h2))
  cases hV : okV ⟨k, m, s⟩ with
  | false => exact makes_bad h n k m s hf hs hbig (.inr (.inr hV))
  | true =>
    by_cases hk : k = cfr n
    · have hg : 1 ≤ n ∧ n ≤ 12 ∧ okV ⟨k, m, s⟩ = true ∧ (⟨k, m, s⟩ : Val).k = cfr n := ⟨by omega, by omega, hV, hk⟩
      have hcy := capp_yes hg
      have q := cap_makes hg
      have r := cap_fit hf hs hg
      obtain ⟨E, x, y, z, hc⟩ : ∃ E x y z, cap n ⟨k, m, s⟩ = (E, ⟨x, y, z⟩) := ⟨_, _, _, _, rfl⟩
      rw [hc] at hcy q r
      rcases q with ⟨e0, ok, ek⟩ | ⟨e0, su, eE⟩
      · obtain rfl : E = 0 := e0
        exact makes_yes h n k m s hf hs hbig h1 h2 hV hk x y z hcy ok ek r.1 r.2
      · rw [show (⟨x, y, z⟩ : Val) = v0 from e0] at hcy
        exact makes_no h n k m s hf hs hbig h1 h2 hV hk E hcy su eE
    · exact makes_other h n k m s hf hs hbig h1 h2 hV hk
end
end Go.Proofs.YtijgcfnjbfaelaaDoor
