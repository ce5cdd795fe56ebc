/- The walk of the reference's Apply. -/
import Derived.Test.YtijgcfnjbfaelaaDoorConvText
import Derived.Deep.RegionHeld3
namespace Go.Proofs.YtijgcfnjbfaelaaDoor
open Go.RowKit

/-- what Apply answers -/
def CappAt (n : Int) (v : Val) (w : World) (e : Ending) (w' : World) : Prop := e = .returned (.tuple #[.agg (vaC (capp n v).2), .int .i64 (capp n v).1]) ∧ Below w.heap.size w w'
theorem capp_at {n : Int} {v x : Val} {E : Int} {w w' : World} (h : capp n v = (E, x)) (hb : Below w.heap.size w w') : CappAt n v w (.returned (.tuple #[.agg (vaC x), .int .i64 E])) w' := by
  unfold CappAt; rw [h]; exact ⟨rfl, hb⟩
theorem rtext_of (W : World) {n : Int} (s : ByteArray) (hs : s.size ≤ 140737488355328) (hn : n = 5 ∨ n = 6 ∨ n = 8 ∨ n = 11) : Calls Tryd.prog 33 #[.int .i64 n, .string s] W (CapAt n ⟨4, 0, s⟩ W) := by
  rcases hn with rfl | rfl | rfl | rfl
  · exact rtext5 W s hs
  · exact rtext6 W s hs
  · exact rtext8 W s hs
  · exact rtext11 W s hs
theorem rnum_of (W : World) {n : Int} (v : Val) (hf : Fit64 v) (hn : n = 1 ∨ n = 2 ∨ n = 3 ∨ n = 4 ∨ n = 7 ∨ n = 9 ∨ n = 10) : Calls Tryd.prog 35 #[.int .i64 n, .int .u64 v.n] W (CapAt n v W) := by
  rcases hn with rfl | rfl | rfl | rfl | rfl | rfl | rfl
  · exact rnum1 W v hf
  · exact rnum2 W v hf
  · exact rnum3 W v hf
  · exact rnum4 W v hf
  · exact rnum7 W v hf
  · exact rnum9 W v hf
  · exact rnum10 W v hf
theorem fr_num {n k : Int} (h : cfr n = k) : (k = 4 → n = 5 ∨ n = 6 ∨ n = 8 ∨ n = 11) ∧ (k = 5 → n = 12) ∧ (k = 1 ∨ k = 2 ∨ k = 3 → n = 1 ∨ n = 2 ∨ n = 3 ∨ n = 4 ∨ n = 7 ∨ n = 9 ∨ n = 10) := by
  unfold cfr at h
  refine ⟨fun e => ?_, fun e => ?_, fun e => ?_⟩ <;> (subst h; revert e; repeat' split) <;> intro e <;> omega

section
variable {w0 w : World}
set_option maxRecDepth 100000 in
set_option maxHeartbeats 2000000 in
theorem rapp_bad (h : KSt w0 w) (n k m : Int) (s : ByteArray) (hf : Fit64 ⟨k, m, s⟩) (hs : s.size ≤ 140737488355328) (hg : n < 1 ∨ 12 < n ∨ okV ⟨k, m, s⟩ = false) :
    Calls Tryd.prog 22 #[.int .i64 n, .agg #[.int .i64 k, .int .u64 m, .string s]] w (CappAt n ⟨k, m, s⟩ w) := by
  obtain ⟨W2, hW2⟩ : ∃ W2, W2 = (w.alloc (.cells #[.int .i64 k, .int .u64 m, .string s] 24)).alloc (.cells #[.int .i64 0, .int .u64 0, .string ⟨#[]⟩] 24) := ⟨_, rfl⟩
  have hp : VBlk W2 w.heap.size ⟨k, m, s⟩ := by rw [hW2]; exact (VBlk.new w ⟨k, m, s⟩).new_ _
  have hr : VBlk W2 (w.heap.size + 1) v0 := by
    have := VBlk.new (w.alloc (.cells #[.int .i64 k, .int .u64 m, .string s] 24)) v0
    rw [show (w.alloc (.cells #[.int .i64 k, .int .u64 m, .string s] 24)).heap.size = w.heap.size + 1 by simp] at this
    rw [hW2]; exact this
  have k2 : KSt w W2 := by rw [hW2]; exact (h.self.new _).new _
  have hB2 : Below w.heap.size w W2 := k2.below
  have cv := rkvalid_any k2.self ⟨k, m, s⟩ hf hs
  have HW := Lib.hid hW2
  clear h hW2
  have HC : Hid (capp n ⟨k, m, s⟩ = (1, v0)) := capp_no fun q => by
    rcases hg with g | g | g
    · omega
    · omega
    · rw [g] at q; exact absurd q.2.2.1 (by decide)
  obtain ⟨V, hV⟩ : ∃ V, okV ⟨k, m, s⟩ = V := ⟨_, rfl⟩
  rw [hV] at cv hg
  clear hV
  have h3 : n < 1 ∨ (¬ n < 1 ∧ 12 < n) ∨ (¬ n < 1 ∧ ¬ 12 < n ∧ V = false) := by
    rcases hg with g | g | g
    · exact .inl g
    · by_cases q : n < 1
      · exact .inl q
      · exact .inr (.inl ⟨q, g⟩)
    · by_cases q : n < 1
      · exact .inl q
      · by_cases q2 : 12 < n
        · exact .inr (.inl ⟨q, q2⟩)
        · exact .inr (.inr ⟨q, q2, g⟩)
  clear hg
  rcases h3 with h1 | ⟨h1, h2⟩ | ⟨h1, h2, rfl⟩
  case' inl => have d1 : decide (n < 1) = true := decide_eq_true h1
  case' inr.inl => have d1 : decide (n < 1) = false := decide_eq_false h1
  case' inr.inl => have d2 : decide (12 < n) = true := decide_eq_true h2
  case' inr.inr => have d1 : decide (n < 1) = false := decide_eq_false h1
  case' inr.inr => have d2 : decide (12 < n) = false := decide_eq_false h2
  all_goals
    go_enter Tryd.func22, Tryd.ntmps22
    go_wp2_with (first
      | (go_at_call 32; rw [← HW.out]; refine cv.mono ?_; rintro e w3 ⟨rfl, k3⟩; have hr3 := hr.below k3.below; have hp3 := hp.below k3.below; have hB3 := hB2.trans (k3.below.mono hB2.size)))
    go_quiet (fail)
    go_wp2_with (first
      | (refine wpList_store_val rfl (.tmp 4) (.tmp 27) rfl (w.heap.size + 1) v0 v0 rfl rfl hr3 ?_; intro w9 h9 t9))
    exact bodyPost_ret (v := .tuple #[.agg (vaC v0), .int .i64 1]) (results_val rfl _ _ _ _ _ rfl rfl h9) rfl (capp_at HC.out ((hB3.trans ((Below.newN w3 _).mono hB3.size)).trans (t9.below (by omega))))

set_option maxRecDepth 100000 in
set_option maxHeartbeats 2000000 in
theorem rapp_other (h : KSt w0 w) (n k m : Int) (s : ByteArray) (hf : Fit64 ⟨k, m, s⟩) (hs : s.size ≤ 140737488355328) (h1 : 1 ≤ n) (h2 : n ≤ 12) (hv : okV ⟨k, m, s⟩ = true) (hk : k ≠ cfr n) :
    Calls Tryd.prog 22 #[.int .i64 n, .agg #[.int .i64 k, .int .u64 m, .string s]] w (CappAt n ⟨k, m, s⟩ w) := by
  obtain ⟨W2, hW2⟩ : ∃ W2, W2 = (w.alloc (.cells #[.int .i64 k, .int .u64 m, .string s] 24)).alloc (.cells #[.int .i64 0, .int .u64 0, .string ⟨#[]⟩] 24) := ⟨_, rfl⟩
  have hp : VBlk W2 w.heap.size ⟨k, m, s⟩ := by rw [hW2]; exact (VBlk.new w ⟨k, m, s⟩).new_ _
  have hr : VBlk W2 (w.heap.size + 1) v0 := by
    have := VBlk.new (w.alloc (.cells #[.int .i64 k, .int .u64 m, .string s] 24)) v0
    rw [show (w.alloc (.cells #[.int .i64 k, .int .u64 m, .string s] 24)).heap.size = w.heap.size + 1 by simp] at this
    rw [hW2]; exact this
  have k2 : KSt w W2 := by rw [hW2]; exact (h.self.new _).new _
  have hB2 : Below w.heap.size w W2 := k2.below
  have cv := rkvalid_any k2.self ⟨k, m, s⟩ hf hs
  have HW := Lib.hid hW2
  clear h hW2
  obtain ⟨C, hC⟩ : ∃ C, cfr n = C := ⟨_, rfl⟩
  have HCF := Lib.hid hC
  rw [hv] at cv
  have d1 : decide (n < 1) = false := decide_eq_false (by omega)
  have d2 : decide (12 < n) = false := decide_eq_false (by omega)
  have e1 : ¬ n < 1 := by omega
  have e2 : ¬ 12 < n := by omega
  have HC : Hid (capp n ⟨k, m, s⟩ = (1, v0)) := capp_no fun q => hk q.2.2.2
  rw [hC] at hk
  have hkb : (k != C) = true := by simpa using hk
  clear hv hC hk h1 h2
  clear hs
  go_enter Tryd.func22, Tryd.ntmps22
  go_wp2_with (first
    | (go_at_call 32; rw [← HW.out]; refine cv.mono ?_; rintro e w3 ⟨rfl, k3⟩; have hr3 := hr.below k3.below; have hp3 := hp.below k3.below; have hB3 := hB2.trans (k3.below.mono hB2.size)))
  have HCW : Hid (∀ W, Below w3.heap.size w3 W → Below w3.heap.size w3 W ∧ W.cell? ⟨w.heap.size, 0, none⟩ = some (.int .i64 k)) := fun W hb => ⟨hb, (hp3.below hb).cells.1⟩
  have cf : ∀ {W : World}, Below w3.heap.size w3 W → Calls Tryd.prog 16 #[.int .i64 n] W fun e w' => e = .returned (.int .i64 C) ∧ Below w3.heap.size w3 w' := fun {W} hb => by
    rw [← HCF.out]; exact (rfrom_any W n).mono fun e w' ⟨a, b⟩ => ⟨a, Below.both hb b⟩
  obtain ⟨hpc, _, _⟩ := hp3.cells
  have hself : Below w3.heap.size w3 w3 := Below.refl _ _
  go_region_held3 (fun W => Below w3.heap.size w3 W ∧ W.cell? ⟨w.heap.size, 0, none⟩ = some (.int .i64 k))
    (first | (exact HCW.out _ (by assumption)) | (exact HCW.out _ (Below.drew (by assumption))))
    (first
      | (go_at_call 16; with_reducible refine (cf (by first | assumption | exact Below.drew (by assumption) | exact And.left (by assumption))).mono ?_; rintro e w' ⟨rfl, hst⟩))
  go_wp2_with (first
    | (refine wpList_store_val rfl (.tmp 4) (.tmp 27) rfl (w.heap.size + 1) v0 v0 rfl rfl (hr3.below hst) ?_; intro w9 h9 t9))
  exact bodyPost_ret (v := .tuple #[.agg (vaC v0), .int .i64 1]) (results_val rfl _ _ _ _ _ rfl rfl h9) rfl (capp_at HC.out ((hB3.trans (hst.mono hB3.size)).trans (t9.below (by omega))))
set_option maxRecDepth 100000 in
set_option maxHeartbeats 2000000 in
theorem rapp_text (h : KSt w0 w) (n k m : Int) (s : ByteArray) (hf : Fit64 ⟨k, m, s⟩) (hs : s.size ≤ 140737488355328) (hn : n = 5 ∨ n = 6 ∨ n = 8 ∨ n = 11) (hv : okV ⟨k, m, s⟩ = true) (hk : k = 4) :
    Calls Tryd.prog 22 #[.int .i64 n, .agg #[.int .i64 k, .int .u64 m, .string s]] w (CappAt n ⟨k, m, s⟩ w) := by
  obtain ⟨W2, hW2⟩ : ∃ W2, W2 = (w.alloc (.cells #[.int .i64 k, .int .u64 m, .string s] 24)).alloc (.cells #[.int .i64 0, .int .u64 0, .string ⟨#[]⟩] 24) := ⟨_, rfl⟩
  have hp : VBlk W2 w.heap.size ⟨k, m, s⟩ := by rw [hW2]; exact (VBlk.new w ⟨k, m, s⟩).new_ _
  have hr : VBlk W2 (w.heap.size + 1) v0 := by
    have := VBlk.new (w.alloc (.cells #[.int .i64 k, .int .u64 m, .string s] 24)) v0
    rw [show (w.alloc (.cells #[.int .i64 k, .int .u64 m, .string s] 24)).heap.size = w.heap.size + 1 by simp] at this
    rw [hW2]; exact this
  have k2 : KSt w W2 := by rw [hW2]; exact (h.self.new _).new _
  have hB2 : Below w.heap.size w W2 := k2.below
  have cv := rkvalid_any k2.self ⟨k, m, s⟩ hf hs
  have HW := Lib.hid hW2
  clear h hW2
  have hC : cfr n = 4 := by rcases hn with rfl | rfl | rfl | rfl <;> rfl
  obtain ⟨C, hCC⟩ : ∃ C : Int, C = 4 := ⟨_, rfl⟩
  have HCF : Hid (cfr n = C) := by rw [hCC]; exact hC
  subst hk
  have hm0 : m = 0 := (ok_text hv rfl).1
  subst hm0
  obtain ⟨E, X, hEX⟩ : ∃ E X, cap n ⟨4, 0, s⟩ = (E, X) := ⟨_, _, rfl⟩
  have HC : Hid (capp n ⟨4, 0, s⟩ = (E, X)) := by unfold Hid; rw [capp_yes ⟨by omega, by omega, hv, hC.symm⟩, hEX]
  have ctx : ∀ W, Calls Tryd.prog 33 #[.int .i64 n, .string s] W fun e w' => e = .returned (.tuple #[.agg (vaC X), .int .i64 E]) ∧ Below W.heap.size W w' := fun W => by
    have := rtext_of W s hs hn
    unfold CapAt at this
    rw [hEX] at this
    exact this
  rw [hv] at cv
  have d1 : decide (n < 1) = false := decide_eq_false (by omega)
  have d2 : decide (12 < n) = false := decide_eq_false (by omega)
  have e1 : ¬ n < 1 := by omega
  have e2 : ¬ 12 < n := by omega
  have hkb : ((4 : Int) != C) = false := by rw [hCC]; rfl
  clear hv hC hEX hn hCC
  clear hs
  go_enter Tryd.func22, Tryd.ntmps22
  go_wp2_with (first
    | (go_at_call 32; rw [← HW.out]; refine cv.mono ?_; rintro e w3 ⟨rfl, k3⟩; have hr3 := hr.below k3.below; have hp3 := hp.below k3.below; have hB3 := hB2.trans (k3.below.mono hB2.size)))
  have HCW : Hid (∀ W, Below w3.heap.size w3 W → Below w3.heap.size w3 W ∧ W.cell? ⟨w.heap.size, 0, none⟩ = some (.int .i64 4)) := fun W hb => ⟨hb, (hp3.below hb).cells.1⟩
  have cf : ∀ {W : World}, Below w3.heap.size w3 W → Calls Tryd.prog 16 #[.int .i64 n] W fun e w' => e = .returned (.int .i64 C) ∧ Below w3.heap.size w3 w' := fun {W} hb => by
    rw [← HCF.out]; exact (rfrom_any W n).mono fun e w' ⟨a, b⟩ => ⟨a, Below.both hb b⟩
  obtain ⟨hpc, _, _⟩ := hp3.cells
  have hself : Below w3.heap.size w3 w3 := Below.refl _ _
  go_region_held3 (fun W => Below w3.heap.size w3 W ∧ W.cell? ⟨w.heap.size, 0, none⟩ = some (.int .i64 4))
    (first | (exact HCW.out _ (by assumption)) | (exact HCW.out _ (Below.drew (by assumption))))
    (first
      | (go_at_call 16; with_reducible refine (cf (by first | assumption | exact Below.drew (by assumption) | exact And.left (by assumption))).mono ?_; rintro e w' ⟨rfl, hst⟩))
  obtain ⟨p0, p1, p2⟩ := (hp3.below hst).cells
  have hr4 := hr3.below hst
  dsimp only at p0 p1 p2
  go_wp2_with (first
    | (go_at_call 33; refine (ctx _).mono ?_; rintro e w5 ⟨rfl, hb5⟩; have hr5 := hr4.below hb5)
    | (refine wpList_store_val rfl (.tmp 4) (.tmp 36) rfl (w.heap.size + 1) v0 X rfl rfl hr5 ?_; intro w9 h9 t9))
  exact bodyPost_ret (v := .tuple #[.agg (vaC X), .int .i64 E]) (results_val rfl _ _ _ _ _ rfl rfl h9) rfl (capp_at HC.out (((hB3.trans (hst.mono hB3.size)).trans (hb5.mono (by have := hB3.size; have := hst.size; omega))).trans (t9.below (by omega))))
set_option maxRecDepth 100000 in
set_option maxHeartbeats 2000000 in
theorem rapp_num (h : KSt w0 w) (n k m : Int) (s : ByteArray) (hf : Fit64 ⟨k, m, s⟩) (hs : s.size ≤ 140737488355328) (hn : n = 1 ∨ n = 2 ∨ n = 3 ∨ n = 4 ∨ n = 7 ∨ n = 9 ∨ n = 10) (hv : okV ⟨k, m, s⟩ = true) (hk : k = 1 ∨ k = 2 ∨ k = 3) (hc : k = cfr n) :
    Calls Tryd.prog 22 #[.int .i64 n, .agg #[.int .i64 k, .int .u64 m, .string s]] w (CappAt n ⟨k, m, s⟩ w) := by
  obtain ⟨W2, hW2⟩ : ∃ W2, W2 = (w.alloc (.cells #[.int .i64 k, .int .u64 m, .string s] 24)).alloc (.cells #[.int .i64 0, .int .u64 0, .string ⟨#[]⟩] 24) := ⟨_, rfl⟩
  have hp : VBlk W2 w.heap.size ⟨k, m, s⟩ := by rw [hW2]; exact (VBlk.new w ⟨k, m, s⟩).new_ _
  have hr : VBlk W2 (w.heap.size + 1) v0 := by
    have := VBlk.new (w.alloc (.cells #[.int .i64 k, .int .u64 m, .string s] 24)) v0
    rw [show (w.alloc (.cells #[.int .i64 k, .int .u64 m, .string s] 24)).heap.size = w.heap.size + 1 by simp] at this
    rw [hW2]; exact this
  have k2 : KSt w W2 := by rw [hW2]; exact (h.self.new _).new _
  have hB2 : Below w.heap.size w W2 := k2.below
  have cv := rkvalid_any k2.self ⟨k, m, s⟩ hf hs
  have HW := Lib.hid hW2
  clear h hW2
  have hC : cfr n = k := hc.symm
  obtain ⟨C, hCC⟩ : ∃ C : Int, C = k := ⟨_, rfl⟩
  have HCF : Hid (cfr n = C) := by rw [hCC]; exact hC
  obtain ⟨E, X, hEX⟩ : ∃ E X, cap n ⟨k, m, s⟩ = (E, X) := ⟨_, _, rfl⟩
  have HC : Hid (capp n ⟨k, m, s⟩ = (E, X)) := by unfold Hid; rw [capp_yes ⟨by omega, by omega, hv, hC.symm⟩, hEX]
  have ctx : ∀ W, Calls Tryd.prog 35 #[.int .i64 n, .int .u64 m] W fun e w' => e = .returned (.tuple #[.agg (vaC X), .int .i64 E]) ∧ Below W.heap.size W w' := fun W => by
    have := rnum_of W ⟨k, m, s⟩ hf hn
    unfold CapAt at this
    rw [hEX] at this
    exact this
  rw [hv] at cv
  have d1 : decide (n < 1) = false := decide_eq_false (by omega)
  have d2 : decide (12 < n) = false := decide_eq_false (by omega)
  have e1 : ¬ n < 1 := by omega
  have e2 : ¬ 12 < n := by omega
  have hkb : (k != C) = false := by rw [hCC]; simp
  have k4 : (k == 4) = false := beq_eq_false_iff_ne.2 (by omega)
  have k5 : (k == 5) = false := beq_eq_false_iff_ne.2 (by omega)
  clear hv hC hEX hn hCC hc hk
  clear hs
  go_enter Tryd.func22, Tryd.ntmps22
  go_wp2_with (first
    | (go_at_call 32; rw [← HW.out]; refine cv.mono ?_; rintro e w3 ⟨rfl, k3⟩; have hr3 := hr.below k3.below; have hp3 := hp.below k3.below; have hB3 := hB2.trans (k3.below.mono hB2.size)))
  have HCW : Hid (∀ W, Below w3.heap.size w3 W → Below w3.heap.size w3 W ∧ W.cell? ⟨w.heap.size, 0, none⟩ = some (.int .i64 k)) := fun W hb => ⟨hb, (hp3.below hb).cells.1⟩
  have cf : ∀ {W : World}, Below w3.heap.size w3 W → Calls Tryd.prog 16 #[.int .i64 n] W fun e w' => e = .returned (.int .i64 C) ∧ Below w3.heap.size w3 w' := fun {W} hb => by
    rw [← HCF.out]; exact (rfrom_any W n).mono fun e w' ⟨a, b⟩ => ⟨a, Below.both hb b⟩
  obtain ⟨hpc, _, _⟩ := hp3.cells
  have hself : Below w3.heap.size w3 w3 := Below.refl _ _
  go_region_held3 (fun W => Below w3.heap.size w3 W ∧ W.cell? ⟨w.heap.size, 0, none⟩ = some (.int .i64 k))
    (first | (exact HCW.out _ (by assumption)) | (exact HCW.out _ (Below.drew (by assumption))))
    (first
      | (go_at_call 16; with_reducible refine (cf (by first | assumption | exact Below.drew (by assumption) | exact And.left (by assumption))).mono ?_; rintro e w' ⟨rfl, hst⟩))
  obtain ⟨p0, p1, p2⟩ := (hp3.below hst).cells
  have hr4 := hr3.below hst
  dsimp only at p0 p1 p2
  go_wp2_with (first
    | (go_at_call 35; refine (ctx _).mono ?_; rintro e w5 ⟨rfl, hb5⟩; have hr5 := hr4.below hb5)
    | (refine wpList_store_val rfl (.tmp 4) (.tmp 53) rfl (w.heap.size + 1) v0 X rfl rfl hr5 ?_; intro w9 h9 t9))
  exact bodyPost_ret (v := .tuple #[.agg (vaC X), .int .i64 E]) (results_val rfl _ _ _ _ _ rfl rfl h9) rfl (capp_at HC.out (((hB3.trans (hst.mono hB3.size)).trans (hb5.mono (by have := hB3.size; have := hst.size; omega))).trans (t9.below (by omega))))
set_option maxRecDepth 100000 in
set_option maxHeartbeats 2000000 in
theorem rapp_byts (h : KSt w0 w) (n k m : Int) (s : ByteArray) (hf : Fit64 ⟨k, m, s⟩) (hs : s.size ≤ 140737488355328) (hn : n = 12) (hv : okV ⟨k, m, s⟩ = true) (hk : k = 5) :
    Calls Tryd.prog 22 #[.int .i64 n, .agg #[.int .i64 k, .int .u64 m, .string s]] w (CappAt n ⟨k, m, s⟩ w) := by
  obtain ⟨W2, hW2⟩ : ∃ W2, W2 = (w.alloc (.cells #[.int .i64 k, .int .u64 m, .string s] 24)).alloc (.cells #[.int .i64 0, .int .u64 0, .string ⟨#[]⟩] 24) := ⟨_, rfl⟩
  have hp : VBlk W2 w.heap.size ⟨k, m, s⟩ := by rw [hW2]; exact (VBlk.new w ⟨k, m, s⟩).new_ _
  have hr : VBlk W2 (w.heap.size + 1) v0 := by
    have := VBlk.new (w.alloc (.cells #[.int .i64 k, .int .u64 m, .string s] 24)) v0
    rw [show (w.alloc (.cells #[.int .i64 k, .int .u64 m, .string s] 24)).heap.size = w.heap.size + 1 by simp] at this
    rw [hW2]; exact this
  have k2 : KSt w W2 := by rw [hW2]; exact (h.self.new _).new _
  have hB2 : Below w.heap.size w W2 := k2.below
  have cv := rkvalid_any k2.self ⟨k, m, s⟩ hf hs
  have HW := Lib.hid hW2
  clear h hW2
  subst hn hk
  obtain ⟨C, hCC⟩ : ∃ C : Int, C = 5 := ⟨_, rfl⟩
  have HCF : Hid (cfr 12 = C) := by rw [hCC]; rfl
  have hm0 : m = 0 := ok_byts hv rfl
  subst hm0
  have HS := Lib.hid hs
  have HY := Lib.hid (show capp 12 ⟨5, 0, s⟩ = cap 12 ⟨5, 0, s⟩ from capp_yes ⟨by decide, by decide, hv, rfl⟩)
  rw [hv] at cv
  have hkb : ((5 : Int) != C) = false := by rw [hCC]; rfl
  clear hv hCC
  clear hs
  go_enter Tryd.func22, Tryd.ntmps22
  go_wp2_with (first
    | (go_at_call 32; rw [← HW.out]; refine cv.mono ?_; rintro e w3 ⟨rfl, k3⟩; have hr3 := hr.below k3.below; have hp3 := hp.below k3.below; have hB3 := hB2.trans (k3.below.mono hB2.size)))
  have HCW : Hid (∀ W, Below w3.heap.size w3 W → Below w3.heap.size w3 W ∧ W.cell? ⟨w.heap.size, 0, none⟩ = some (.int .i64 5)) := fun W hb => ⟨hb, (hp3.below hb).cells.1⟩
  have cf : ∀ {W : World}, Below w3.heap.size w3 W → Calls Tryd.prog 16 #[.int .i64 12] W fun e w' => e = .returned (.int .i64 C) ∧ Below w3.heap.size w3 w' := fun {W} hb => by
    rw [← HCF.out]; exact (rfrom_any W 12).mono fun e w' ⟨a, b⟩ => ⟨a, Below.both hb b⟩
  obtain ⟨hpc, _, _⟩ := hp3.cells
  have hself : Below w3.heap.size w3 w3 := Below.refl _ _
  go_region_held3 (fun W => Below w3.heap.size w3 W ∧ W.cell? ⟨w.heap.size, 0, none⟩ = some (.int .i64 5))
    (first | (exact HCW.out _ (by assumption)) | (exact HCW.out _ (Below.drew (by assumption))))
    (first
      | (go_at_call 16; with_reducible refine (cf (by first | assumption | exact Below.drew (by assumption) | exact And.left (by assumption))).mono ?_; rintro e w' ⟨rfl, hst⟩))
  have k4 : St w' w' := (k3.then_ hst).self.st
  have cu := rvalid_any k4 s HS.out
  by_cases g : okL (ls s) = true
  · have HC : Hid (capp 12 ⟨5, 0, s⟩ = (0, ⟨4, 0, s⟩)) := by unfold Hid; rw [HY.out, cap12, if_pos g]
    rw [g] at cu
    obtain ⟨p0, p1, p2⟩ := (hp3.below hst).cells
    have hr4 := hr3.below hst
    dsimp only at p0 p1 p2
    go_wp2_with (first
      | (go_at_call 34; refine cu.mono ?_; rintro e w5 ⟨rfl, k5⟩; have hr5 := hr4.below k5.below; obtain ⟨q0, q1, q2⟩ := ((hp3.below hst).below k5.below).cells)
      | (refine wpList_store_val rfl (.tmp 4) (.tmp 48) rfl (w.heap.size + 1) v0 ⟨4, 0, s⟩ rfl rfl hr5 ?_; intro w9 h9 t9))
    exact bodyPost_ret (v := .tuple #[.agg (vaC ⟨4, 0, s⟩), .int .i64 0]) (results_val rfl _ _ _ _ _ rfl rfl h9) rfl (capp_at HC.out (((hB3.trans (hst.mono hB3.size)).trans (k5.below.mono (by have := hB3.size; have := hst.size; omega))).trans (t9.below (by omega))))
  · have HC : Hid (capp 12 ⟨5, 0, s⟩ = (62, v0)) := by unfold Hid; rw [HY.out, cap12, if_neg g]
    have g2 : okL (ls s) = false := by simpa using g
    rw [g2] at cu
    obtain ⟨p0, p1, p2⟩ := (hp3.below hst).cells
    have hr4 := hr3.below hst
    dsimp only at p0 p1 p2
    go_wp2_with (first
      | (go_at_call 34; refine cu.mono ?_; rintro e w5 ⟨rfl, k5⟩; have hr5 := hr4.below k5.below)
      | (refine wpList_store_val rfl (.tmp 4) (.tmp 45) rfl (w.heap.size + 1) v0 v0 rfl rfl hr5 ?_; intro w9 h9 t9))
    exact bodyPost_ret (v := .tuple #[.agg (vaC v0), .int .i64 62]) (results_val rfl _ _ _ _ _ rfl rfl h9) rfl (capp_at HC.out (((hB3.trans (hst.mono hB3.size)).trans (k5.below.mono (by have := hB3.size; have := hst.size; omega))).trans (t9.below (by omega))))
theorem rapply_any (h : KSt w0 w) (n : Int) (v : Val) (hf : Fit64 v) (hs : v.s.size ≤ 140737488355328) :
    Calls Tryd.prog 22 #[.int .i64 n, .agg (vaC v)] w (CappAt n v w) := by
  obtain ⟨k, m, s⟩ := v
  show Calls Tryd.prog 22 #[.int .i64 n, .agg #[.int .i64 k, .int .u64 m, .string s]] w (CappAt n ⟨k, m, s⟩ w)
  by_cases h1 : n < 1
  · exact rapp_bad h n k m s hf hs (.inl h1)
  by_cases h2 : 12 < n
  · exact rapp_bad h n k m s hf hs (.inr (.inl h2))
  cases hv : okV ⟨k, m, s⟩ with
  | false => exact rapp_bad h n k m s hf hs (.inr (.inr hv))
  | true =>
    by_cases hk : k = cfr n
    · obtain ⟨a, b, c⟩ := fr_num (n := n) (k := k) hk.symm
      have hk5 : k = 1 ∨ k = 2 ∨ k = 3 ∨ k = 4 ∨ k = 5 := by
        rw [hk]; rcases twelve (n := n) (by omega) (by omega) with rfl | rfl | rfl | rfl | rfl | rfl | rfl | rfl | rfl | rfl | rfl | rfl <;> decide
      rcases hk5 with q | q | q | q | q
      · exact rapp_num h n k m s hf hs (c (.inl q)) hv (.inl q) hk
      · exact rapp_num h n k m s hf hs (c (.inr (.inl q))) hv (.inr (.inl q)) hk
      · exact rapp_num h n k m s hf hs (c (.inr (.inr q))) hv (.inr (.inr q)) hk
      · exact rapp_text h n k m s hf hs (a q) hv q
      · exact rapp_byts h n k m s hf hs (b q) hv q
    · exact rapp_other h n k m s hf hs (by omega) (by omega) hv hk
end
end Go.Proofs.YtijgcfnjbfaelaaDoor
