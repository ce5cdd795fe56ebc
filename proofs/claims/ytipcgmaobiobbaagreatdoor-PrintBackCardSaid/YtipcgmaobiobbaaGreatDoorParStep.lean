/- The walks of the code: a step, by its kind. -/
import Derived.Test.YtipcgmaobiobbaaGreatDoorParGh
import Derived.Deep.DeepCutAuto
namespace Go.Proofs.YtipcgmaobiobbaaGreatDoor
open Go.RowKit

theorem ls_to : ls "to".toUTF8 = [116, 111] := by decide +kernel
theorem ls_at : ls "at".toUTF8 = [97, 116] := by decide +kernel
theorem ls_into : ls "into".toUTF8 = [105, 110, 116, 111] := by decide +kernel
theorem ls_with : ls "with".toUTF8 = [119, 105, 116, 104] := by decide +kernel
/-- what a step answers -/
def StepAt (g : Nat) (A : Option Addr) (c : Nat) (T : List Tk) (p : PS) (w : World) (e : Ending) (w' : World) : Prop :=
  ∃ x : LSt, e = .returned (.agg x.C) ∧ RS w' g A c T (p.step T).1 ∧ Gn g w w' ∧ StLev.H w' w.heap.size x ∧ ((p.step T).1.flt = 0 → x.s = (p.step T).2)
theorem step_pre {w : World} {g : Nat} {A : Option Addr} {c : Nat} {T : List Tk} {p : PS} (h : RS w g A c T p) {K : Nat} (hK : stepK T p = K) (h0 : K ≠ 0) : p.flt = 0 ∧ (p.tok T).k = 1 ∧ kindOf (p.tok T) = K := by
  have hz : p.flt = 0 := Decidable.byContradiction fun z => by
    unfold stepK at hK
    rw [is_stuck z, is_stuck z, is_stuck z, is_stuck z, is_stuck z, is_stuck z] at hK
    exact h0 hK.symm
  have hk := kindOf_step h.ends h.inn
  rw [hK, ct_ok hz] at hk
  refine ⟨hz, Decidable.byContradiction fun z => ?_, hk.symm⟩
  unfold kindOf at hk
  rw [if_pos z] at hk
  exact h0 hk

set_option maxRecDepth 100000 in
set_option maxHeartbeats 8000000 in
theorem cstep1_any {w : World} {g : Nat} {A : Option Addr} {c : Nat} {T : List Tk} {p : PS} (h : RS w g A c T p) (hK : stepK T p = 1) (hb : (((p.next.name T).1.mark T 58).name T).1.is T 4 [61] = false) :
    Calls Tryz.prog 91 #[.pointer (some ⟨g, 0, none⟩)] w (StepAt g A c T p w) := by
  obtain ⟨h0, hk1, hko⟩ := step_pre h hK (by decide)
  obtain ⟨t, ht⟩ : ∃ t, p.tok T = t := ⟨_, rfl⟩
  rw [ht] at hk1 hko
  have hgl := h.len
  have ck : ∀ W, Calls Tryz.prog 90 #[.agg #[.int .i64 (t.k : Nat), .string (str t.t), .int .u64 (t.n : Nat), .int .i64 (t.a : Nat), .int .i64 (t.e : Nat)]] W fun e w' => e = .returned (.int .i64 1) ∧ Below W.heap.size W w' := fun W => by
    have := stepKind_any W t
    rw [hko] at this
    exact this
  obtain ⟨q0, nA, hq0⟩ : ∃ q nm, p.next.name T = (q, nm) := ⟨_, _, rfl⟩
  obtain ⟨q1, hq1⟩ : ∃ q, q0.mark T 58 = q := ⟨_, rfl⟩
  obtain ⟨q2, n2, hq2⟩ : ∃ q nm, q1.name T = (q, nm) := ⟨_, _, rfl⟩
  obtain ⟨q3, hq3⟩ : ∃ q, q2.mark T 59 = q := ⟨_, rfl⟩
  have hb2 : q2.is T 4 [61] = false := by rw [hq0] at hb; dsimp only at hb; rw [hq1, hq2] at hb; exact hb
  have hS : p.step T = (q3, ⟨1, nA, [], [], [], n2, [], t.a⟩) := by
    unfold PS.step
    rw [hK]
    dsimp only
    rw [if_neg (by decide), hq0]
    dsimp only
    rw [if_pos rfl]
    rw [hq1]
    rw [hq2]
    dsimp only
    rw [hb2, if_neg (by decide)]
    rw [hq3]
    rw [ht]
  have HS := Lib.hid hS
  have hb1 : Below w.heap.size w (w.alloc (.cells #[.int .i64 0, .string ⟨#[]⟩, .string ⟨#[]⟩, .string ⟨#[]⟩, .string ⟨#[]⟩, .string ⟨#[]⟩, .slice none 0 0, .int .i64 0] 42)) := (Below.refl _ w).alloc (Nat.le_refl _) _
  have hc1 : CB (w.alloc (.cells #[.int .i64 0, .string ⟨#[]⟩, .string ⟨#[]⟩, .string ⟨#[]⟩, .string ⟨#[]⟩, .string ⟨#[]⟩, .slice none 0 0, .int .i64 0] 42)) w.heap.size 42 (stC st0 (.slice none 0 0)) := CB.new w _ _
  have ct := take_parts (h.below hb1) h0 (by rw [ht, hk1]; decide) ht
  have CN : Hid (∀ W, RS W g A c T p.next → Calls Tryz.prog 64 #[.pointer (some ⟨g, 0, none⟩)] W fun e w' => e = .returned (.string (str nA)) ∧ RS w' g A c T q0 ∧ Gn g W w') := fun W hr => by
    have := cname_any hr
    rw [hq0] at this
    exact this
  have START : Hid (∀ w6, RS w6 g A c T q0 → CB w6 w.heap.size 42 (stC st0 (.slice none 0 0)) → Gn g w w6 → SF w (w6.alloc (.cells #[.int .i64 1, .string (str nA), .string ⟨#[]⟩, .string ⟨#[]⟩, .string ⟨#[]⟩, .string ⟨#[]⟩, .slice none 0 0, .int .i64 (t.a : Nat)] 42)) g A c T q0 w.heap.size w6.heap.size ⟨⟨1, nA, [], [], [], [], [], t.a⟩, none, 0⟩) :=
    fun w6 hr hc hg => sf_start hr hc hg hgl (Nat.le_refl _) ⟨⟨1, nA, [], [], [], [], [], t.a⟩, none, 0⟩ ⟨rfl, rfl, rfl⟩
  have hs1 : (w.alloc (.cells #[.int .i64 0, .string ⟨#[]⟩, .string ⟨#[]⟩, .string ⟨#[]⟩, .string ⟨#[]⟩, .string ⟨#[]⟩, .slice none 0 0, .int .i64 0] 42)).heap.size = w.heap.size + 1 := by simp
  clear h hK h0 ht hk1 hko hS hb
  go_enter Tryz.func91, Tryz.ntmps91
  go_wp2_with (go_at_call 72; refine ct.mono ?_; rintro e w2 ⟨rfl, hr2, hg2⟩; have hg12 := (Gn.of hb1).trans hg2; have hc2 := hc1.keep (hg2.other hc1.len (by omega)); have hb3 : Below w2.heap.size w2 (w2.alloc (.cells #[.int .i64 (t.k : Nat), .string (str t.t), .int .u64 (t.n : Nat), .int .i64 (t.a : Nat), .int .i64 (t.e : Nat)] 84)).drew := Below.thenN ((Below.refl _ w2).alloc (Nat.le_refl _) _) 1; have HT3 : Hid (TBlk (w2.alloc (.cells #[.int .i64 (t.k : Nat), .string (str t.t), .int .u64 (t.n : Nat), .int .i64 (t.a : Nat), .int .i64 (t.e : Nat)] 84)).drew w2.heap.size t) := TBlk.new w2 t; have k3' := HT3.out.cells; have HR3 := Lib.hid (hr2.below hb3); have HC3 := Lib.hid (hc2.below hb3); have HG3 := Lib.hid (hg12.trans (Gn.of hb3)); have hl2 := hc2.len; have hs3 : (w2.alloc (.cells #[.int .i64 (t.k : Nat), .string (str t.t), .int .u64 (t.n : Nat), .int .i64 (t.a : Nat), .int .i64 (t.e : Nat)] 84)).heap.size = w2.heap.size + 1 := (by simp); have HT4 : Hid (TBlk ((w2.alloc (.cells #[.int .i64 (t.k : Nat), .string (str t.t), .int .u64 (t.n : Nat), .int .i64 (t.a : Nat), .int .i64 (t.e : Nat)] 84)).alloc (.cells #[.int .i64 0, .string ⟨#[]⟩, .string ⟨#[]⟩, .string ⟨#[]⟩, .string ⟨#[]⟩, .string ⟨#[]⟩, .slice none 0 0, .int .i64 0] 42)).drew w2.heap.size t) := (TBlk.new w2 t).new_ _; clear hr2 hc2 hg2 hg12)
  go_cut [4] (fun s4 wx => ∃ b4 : Nat, s4 = .pointer (some ⟨b4, 0, none⟩) ∧ Hid (SF w wx g A c T q0 w.heap.size b4 ⟨⟨1, nA, [], [], [], [], [], t.a⟩, none, 0⟩))
  case first =>
    go_region_held3 (fun W => W.cell? ⟨w2.heap.size, 0, none⟩ = some (.int .i64 (t.k : Nat)) ∧ W.cell? ⟨w2.heap.size, 1, none⟩ = some (.string (str t.t)) ∧ W.cell? ⟨w2.heap.size, 2, none⟩ = some (.int .u64 (t.n : Nat)) ∧ W.cell? ⟨w2.heap.size, 3, none⟩ = some (.int .i64 (t.a : Nat)) ∧ W.cell? ⟨w2.heap.size, 4, none⟩ = some (.int .i64 (t.e : Nat))) (first | (with_reducible exact HT3.out.cells) | (with_reducible exact HT5.out.cells) | (with_reducible exact HT6.out.cells) | (with_reducible exact (HT6.out.new_ _).cells) | (with_reducible exact (HT5.out.new_ _).cells) | (with_reducible exact HT4.out.cells) | (with_reducible exact HT8.out.cells) | (with_reducible assumption) | fail)
      (first
        | (go_at_call 90; refine (ck _).mono ?_; rintro e w5 ⟨rfl, hb5⟩; have hb35 : Below (w2.alloc (.cells #[.int .i64 (t.k : Nat), .string (str t.t), .int .u64 (t.n : Nat), .int .i64 (t.a : Nat), .int .i64 (t.e : Nat)] 84)).drew.heap.size (w2.alloc (.cells #[.int .i64 (t.k : Nat), .string (str t.t), .int .u64 (t.n : Nat), .int .i64 (t.a : Nat), .int .i64 (t.e : Nat)] 84)).drew w5 := (by first | (with_reducible exact hb5) | (with_reducible exact below_al2 hb5) | fail); have HT5 := Lib.hid (HT3.out.below hb35); have HR5 := Lib.hid (HR3.out.below hb35); have HC5 := Lib.hid (HC3.out.below hb35); have HG5 := Lib.hid (HG3.out.trans (Gn.of hb35)); first
            | (have HZ5 : Hid (CB w5 (w2.heap.size + 1) 42 (stC st0 (.slice none 0 0))) := (by with_reducible exact cb_after3 hs3 hb5))
            | skip)
        | (go_at_call 64; first
            | (with_reducible refine (CN.out w5 HR5.out).mono ?_)
            | (with_reducible refine (CN.out _ (HR5.out.below ((Below.refl _ w5).alloc (Nat.le_refl _) _))).mono ?_)
            | fail
           rintro e w6 ⟨rfl, hr6, hg6⟩
           have hg56 : Gn g w5 w6 := (by first | (with_reducible exact hg6) | (with_reducible exact (Gn.of ((Below.refl _ w5).alloc (Nat.le_refl _) _)).trans hg6) | fail)
           have HT6 := Lib.hid (HT5.out.keep (hg56.other HT5.out.len (by have := HC5.out.len; omega)))
           have HC6 := Lib.hid (HC5.out.keep (hg56.other HC5.out.len (by omega)))
           have HG6 := Lib.hid (HG5.out.trans hg56)
           have HR6 := Lib.hid hr6
           clear hr6
           first
            | (have HZ6 := Lib.hid (HZ5.out.keep (hg6.other HZ5.out.len (by omega))); have HF := Lib.hid (sf_start3 HR6.out HC6.out HZ6.out HG6.out hgl (Nat.le_refl _) (by omega) (by omega) 1 1 rfl nA t.a); have HT8 := Lib.hid (tb_over HT6.out (b := w2.heap.size + 1) (by omega) (.int .i64 1) (.string (str nA)) (.string ⟨#[]⟩) (.string ⟨#[]⟩) (.string ⟨#[]⟩) (.string ⟨#[]⟩) (.slice none 0 0) (.int .i64 (t.a : Nat))); obtain ⟨⟨z0, z1, z2, z3, z4, z5, z6, z7⟩, y0, y1, y2, y3, y4, y5, y6, y7⟩ := HZ6.out.zst)
            | (have HZ6 : Hid (CB w6 w5.heap.size 42 (stC st0 (.slice none 0 0))) := (by with_reducible exact cb_after2 hg6 HR5.out.len); have HF := Lib.hid (sf_start3 HR6.out HC6.out HZ6.out HG6.out hgl (Nat.le_refl _) HG5.out.size (by have := HC5.out.len; omega) 1 1 rfl nA t.a); have HT8 := Lib.hid (tb_over HT6.out (b := w5.heap.size) (by have := HT5.out.len; omega) (.int .i64 1) (.string (str nA)) (.string ⟨#[]⟩) (.string ⟨#[]⟩) (.string ⟨#[]⟩) (.string ⟨#[]⟩) (.slice none 0 0) (.int .i64 (t.a : Nat))); obtain ⟨⟨z0, z1, z2, z3, z4, z5, z6, z7⟩, y0, y1, y2, y3, y4, y5, y6, y7⟩ := HZ6.out.zst)
            | skip)
        | fail)
    all_goals (go_wp2_with fail; go_meet; first
      | (with_reducible exact ⟨_, rfl, Lib.hid (START.out w6 HR6.out HC6.out HG6.out)⟩)
      | (with_reducible exact ⟨_, rfl, HF⟩)
      | fail)
  case rest =>
    obtain ⟨b4, rfl, F0⟩ := hcut
    have s0 : wc.cell? ⟨b4, 0, none⟩ = some (.int .i64 1) := (F0.out.at_ 0).1
    clear k3' HT3 HR3 HC3 HG3 START CN ck hb3
    go_wp2_with (first
      | (go_at_call 65; (with_reducible refine (sf_mark F0.out 58 hq1).mono ?_); rintro e v1 ⟨rfl, F1⟩)
      | (go_at_call 64; (with_reducible refine (sf_name F1.out hq2 5 ⟨⟨1, nA, [], [], [], n2, [], t.a⟩, none, 0⟩ (.string ⟨#[]⟩) rfl rfl rfl rfl rfl).mono ?_); rintro e v2 ⟨rfl, c2, f2, F2⟩)
      | (go_at_call 71; (with_reducible refine (sf_is F2.out 61 hb2).mono ?_); rintro e v3 ⟨rfl, F3⟩)
      | (go_at_call 65; (with_reducible refine (sf_mark F3.out 59 hq3).mono ?_); rintro e v4 ⟨rfl, F4⟩)
      | (refine wpList_load_cb rfl 42 (.tmp 4) rfl _ _ rfl F4.out.s4 Tryz.underlying42 rfl (by kernel_rfl) ?_)
      | (refine wpList_store_cb rfl 42 (.tmp 2) (.tmp 80) rfl w.heap.size (stC st0 (.slice none 0 0)) _ rfl rfl F4.out.r2 rfl (by kernel_rfl) (by kernel_rfl) ?_; intro w9 h9 t9))
    obtain ⟨z1, z2, z3⟩ := F4.out.close t9
    refine bodyPost_ret (results_cb rfl _ _ _ _ rfl h9 Tryz.underlying42 rfl (by kernel_rfl)) rfl ?_
    refine ⟨⟨⟨1, nA, [], [], [], n2, [], t.a⟩, none, 0⟩, rfl, by rw [HS.out]; exact z1, z2, z3, fun zf => ?_⟩
    rw [HS.out]

set_option maxRecDepth 100000 in
set_option maxHeartbeats 8000000 in
theorem cstep1v_any {w : World} {g : Nat} {A : Option Addr} {c : Nat} {T : List Tk} {p : PS} (h : RS w g A c T p) (hK : stepK T p = 1) (hb : (((p.next.name T).1.mark T 58).name T).1.is T 4 [61] = true) :
    Calls Tryz.prog 91 #[.pointer (some ⟨g, 0, none⟩)] w (StepAt g A c T p w) := by
  obtain ⟨h0, hk1, hko⟩ := step_pre h hK (by decide)
  obtain ⟨t, ht⟩ : ∃ t, p.tok T = t := ⟨_, rfl⟩
  rw [ht] at hk1 hko
  have hgl := h.len
  have ck : ∀ W, Calls Tryz.prog 90 #[.agg #[.int .i64 (t.k : Nat), .string (str t.t), .int .u64 (t.n : Nat), .int .i64 (t.a : Nat), .int .i64 (t.e : Nat)]] W fun e w' => e = .returned (.int .i64 1) ∧ Below W.heap.size W w' := fun W => by
    have := stepKind_any W t
    rw [hko] at this
    exact this
  obtain ⟨q0, nA, hq0⟩ : ∃ q nm, p.next.name T = (q, nm) := ⟨_, _, rfl⟩
  obtain ⟨q1, hq1⟩ : ∃ q, q0.mark T 58 = q := ⟨_, rfl⟩
  obtain ⟨q2, n2, hq2⟩ : ∃ q nm, q1.name T = (q, nm) := ⟨_, _, rfl⟩
  obtain ⟨q3, hq3⟩ : ∃ q, q2.next = q := ⟨_, rfl⟩
  obtain ⟨q4, hq4⟩ : ∃ q, q3.value T = q := ⟨_, rfl⟩
  obtain ⟨q5, hq5⟩ : ∃ q, q4.mark T 59 = q := ⟨_, rfl⟩
  have hb2 : q2.is T 4 [61] = true := by rw [hq0] at hb; dsimp only at hb; rw [hq1, hq2] at hb; exact hb
  have hS : p.step T = (q5, ⟨1, nA, [], [], [], n2, q4.nds, t.a⟩) := by
    unfold PS.step
    rw [hK]
    dsimp only
    rw [if_neg (by decide), hq0]
    dsimp only
    rw [if_pos rfl]
    rw [hq1]
    rw [hq2]
    dsimp only
    rw [hb2, if_pos rfl]
    rw [hq3]
    rw [hq4]
    rw [hq5]
    rw [ht]
  have HS := Lib.hid hS
  have hb1 : Below w.heap.size w (w.alloc (.cells #[.int .i64 0, .string ⟨#[]⟩, .string ⟨#[]⟩, .string ⟨#[]⟩, .string ⟨#[]⟩, .string ⟨#[]⟩, .slice none 0 0, .int .i64 0] 42)) := (Below.refl _ w).alloc (Nat.le_refl _) _
  have hc1 : CB (w.alloc (.cells #[.int .i64 0, .string ⟨#[]⟩, .string ⟨#[]⟩, .string ⟨#[]⟩, .string ⟨#[]⟩, .string ⟨#[]⟩, .slice none 0 0, .int .i64 0] 42)) w.heap.size 42 (stC st0 (.slice none 0 0)) := CB.new w _ _
  have ct := take_parts (h.below hb1) h0 (by rw [ht, hk1]; decide) ht
  have CN : Hid (∀ W, RS W g A c T p.next → Calls Tryz.prog 64 #[.pointer (some ⟨g, 0, none⟩)] W fun e w' => e = .returned (.string (str nA)) ∧ RS w' g A c T q0 ∧ Gn g W w') := fun W hr => by
    have := cname_any hr
    rw [hq0] at this
    exact this
  have START : Hid (∀ w6, RS w6 g A c T q0 → CB w6 w.heap.size 42 (stC st0 (.slice none 0 0)) → Gn g w w6 → SF w (w6.alloc (.cells #[.int .i64 1, .string (str nA), .string ⟨#[]⟩, .string ⟨#[]⟩, .string ⟨#[]⟩, .string ⟨#[]⟩, .slice none 0 0, .int .i64 (t.a : Nat)] 42)) g A c T q0 w.heap.size w6.heap.size ⟨⟨1, nA, [], [], [], [], [], t.a⟩, none, 0⟩) :=
    fun w6 hr hc hg => sf_start hr hc hg hgl (Nat.le_refl _) ⟨⟨1, nA, [], [], [], [], [], t.a⟩, none, 0⟩ ⟨rfl, rfl, rfl⟩
  have hs1 : (w.alloc (.cells #[.int .i64 0, .string ⟨#[]⟩, .string ⟨#[]⟩, .string ⟨#[]⟩, .string ⟨#[]⟩, .string ⟨#[]⟩, .slice none 0 0, .int .i64 0] 42)).heap.size = w.heap.size + 1 := by simp
  have h61 := is_ok q2 hb2
  have CT : Hid (q2.flt = 0 ∧ (q2.tok T).k ≠ 0) := ⟨h61.1, by rw [h61.2.1]; decide⟩
  clear h61
  clear h hK h0 ht hk1 hko hS hb
  go_enter Tryz.func91, Tryz.ntmps91
  go_wp2_with (go_at_call 72; refine ct.mono ?_; rintro e w2 ⟨rfl, hr2, hg2⟩; have hg12 := (Gn.of hb1).trans hg2; have hc2 := hc1.keep (hg2.other hc1.len (by omega)); have hb3 : Below w2.heap.size w2 (w2.alloc (.cells #[.int .i64 (t.k : Nat), .string (str t.t), .int .u64 (t.n : Nat), .int .i64 (t.a : Nat), .int .i64 (t.e : Nat)] 84)).drew := Below.thenN ((Below.refl _ w2).alloc (Nat.le_refl _) _) 1; have HT3 : Hid (TBlk (w2.alloc (.cells #[.int .i64 (t.k : Nat), .string (str t.t), .int .u64 (t.n : Nat), .int .i64 (t.a : Nat), .int .i64 (t.e : Nat)] 84)).drew w2.heap.size t) := TBlk.new w2 t; have k3' := HT3.out.cells; have HR3 := Lib.hid (hr2.below hb3); have HC3 := Lib.hid (hc2.below hb3); have HG3 := Lib.hid (hg12.trans (Gn.of hb3)); have hl2 := hc2.len; have hs3 : (w2.alloc (.cells #[.int .i64 (t.k : Nat), .string (str t.t), .int .u64 (t.n : Nat), .int .i64 (t.a : Nat), .int .i64 (t.e : Nat)] 84)).heap.size = w2.heap.size + 1 := (by simp); have HT4 : Hid (TBlk ((w2.alloc (.cells #[.int .i64 (t.k : Nat), .string (str t.t), .int .u64 (t.n : Nat), .int .i64 (t.a : Nat), .int .i64 (t.e : Nat)] 84)).alloc (.cells #[.int .i64 0, .string ⟨#[]⟩, .string ⟨#[]⟩, .string ⟨#[]⟩, .string ⟨#[]⟩, .string ⟨#[]⟩, .slice none 0 0, .int .i64 0] 42)).drew w2.heap.size t) := (TBlk.new w2 t).new_ _; clear hr2 hc2 hg2 hg12)
  go_cut [4] (fun s4 wx => ∃ b4 : Nat, s4 = .pointer (some ⟨b4, 0, none⟩) ∧ Hid (SF w wx g A c T q0 w.heap.size b4 ⟨⟨1, nA, [], [], [], [], [], t.a⟩, none, 0⟩))
  case first =>
    go_region_held3 (fun W => W.cell? ⟨w2.heap.size, 0, none⟩ = some (.int .i64 (t.k : Nat)) ∧ W.cell? ⟨w2.heap.size, 1, none⟩ = some (.string (str t.t)) ∧ W.cell? ⟨w2.heap.size, 2, none⟩ = some (.int .u64 (t.n : Nat)) ∧ W.cell? ⟨w2.heap.size, 3, none⟩ = some (.int .i64 (t.a : Nat)) ∧ W.cell? ⟨w2.heap.size, 4, none⟩ = some (.int .i64 (t.e : Nat))) (first | (with_reducible exact HT3.out.cells) | (with_reducible exact HT5.out.cells) | (with_reducible exact HT6.out.cells) | (with_reducible exact (HT6.out.new_ _).cells) | (with_reducible exact (HT5.out.new_ _).cells) | (with_reducible exact HT4.out.cells) | (with_reducible exact HT8.out.cells) | (with_reducible assumption) | fail)
      (first
        | (go_at_call 90; refine (ck _).mono ?_; rintro e w5 ⟨rfl, hb5⟩; have hb35 : Below (w2.alloc (.cells #[.int .i64 (t.k : Nat), .string (str t.t), .int .u64 (t.n : Nat), .int .i64 (t.a : Nat), .int .i64 (t.e : Nat)] 84)).drew.heap.size (w2.alloc (.cells #[.int .i64 (t.k : Nat), .string (str t.t), .int .u64 (t.n : Nat), .int .i64 (t.a : Nat), .int .i64 (t.e : Nat)] 84)).drew w5 := (by first | (with_reducible exact hb5) | (with_reducible exact below_al2 hb5) | fail); have HT5 := Lib.hid (HT3.out.below hb35); have HR5 := Lib.hid (HR3.out.below hb35); have HC5 := Lib.hid (HC3.out.below hb35); have HG5 := Lib.hid (HG3.out.trans (Gn.of hb35)); first
            | (have HZ5 : Hid (CB w5 (w2.heap.size + 1) 42 (stC st0 (.slice none 0 0))) := (by with_reducible exact cb_after3 hs3 hb5))
            | skip)
        | (go_at_call 64; first
            | (with_reducible refine (CN.out w5 HR5.out).mono ?_)
            | (with_reducible refine (CN.out _ (HR5.out.below ((Below.refl _ w5).alloc (Nat.le_refl _) _))).mono ?_)
            | fail
           rintro e w6 ⟨rfl, hr6, hg6⟩
           have hg56 : Gn g w5 w6 := (by first | (with_reducible exact hg6) | (with_reducible exact (Gn.of ((Below.refl _ w5).alloc (Nat.le_refl _) _)).trans hg6) | fail)
           have HT6 := Lib.hid (HT5.out.keep (hg56.other HT5.out.len (by have := HC5.out.len; omega)))
           have HC6 := Lib.hid (HC5.out.keep (hg56.other HC5.out.len (by omega)))
           have HG6 := Lib.hid (HG5.out.trans hg56)
           have HR6 := Lib.hid hr6
           clear hr6
           first
            | (have HZ6 := Lib.hid (HZ5.out.keep (hg6.other HZ5.out.len (by omega))); have HF := Lib.hid (sf_start3 HR6.out HC6.out HZ6.out HG6.out hgl (Nat.le_refl _) (by omega) (by omega) 1 1 rfl nA t.a); have HT8 := Lib.hid (tb_over HT6.out (b := w2.heap.size + 1) (by omega) (.int .i64 1) (.string (str nA)) (.string ⟨#[]⟩) (.string ⟨#[]⟩) (.string ⟨#[]⟩) (.string ⟨#[]⟩) (.slice none 0 0) (.int .i64 (t.a : Nat))); obtain ⟨⟨z0, z1, z2, z3, z4, z5, z6, z7⟩, y0, y1, y2, y3, y4, y5, y6, y7⟩ := HZ6.out.zst)
            | (have HZ6 : Hid (CB w6 w5.heap.size 42 (stC st0 (.slice none 0 0))) := (by with_reducible exact cb_after2 hg6 HR5.out.len); have HF := Lib.hid (sf_start3 HR6.out HC6.out HZ6.out HG6.out hgl (Nat.le_refl _) HG5.out.size (by have := HC5.out.len; omega) 1 1 rfl nA t.a); have HT8 := Lib.hid (tb_over HT6.out (b := w5.heap.size) (by have := HT5.out.len; omega) (.int .i64 1) (.string (str nA)) (.string ⟨#[]⟩) (.string ⟨#[]⟩) (.string ⟨#[]⟩) (.string ⟨#[]⟩) (.slice none 0 0) (.int .i64 (t.a : Nat))); obtain ⟨⟨z0, z1, z2, z3, z4, z5, z6, z7⟩, y0, y1, y2, y3, y4, y5, y6, y7⟩ := HZ6.out.zst)
            | skip)
        | fail)
    all_goals (go_wp2_with fail; go_meet; first
      | (with_reducible exact ⟨_, rfl, Lib.hid (START.out w6 HR6.out HC6.out HG6.out)⟩)
      | (with_reducible exact ⟨_, rfl, HF⟩)
      | fail)
  case rest =>
    obtain ⟨b4, rfl, F0⟩ := hcut
    have s0 : wc.cell? ⟨b4, 0, none⟩ = some (.int .i64 1) := (F0.out.at_ 0).1
    clear k3' HT3 HR3 HC3 HG3 START CN ck hb3
    go_wp2_with (first
      | (go_at_call 65; (with_reducible refine (sf_mark F0.out 58 hq1).mono ?_); rintro e v1 ⟨rfl, F1⟩)
      | (go_at_call 64; (with_reducible refine (sf_name F1.out hq2 5 ⟨⟨1, nA, [], [], [], n2, [], t.a⟩, none, 0⟩ (.string ⟨#[]⟩) rfl rfl rfl rfl rfl).mono ?_); rintro e v2 ⟨rfl, c2, f2, F2⟩)
      | (go_at_call 71; (with_reducible refine (sf_is F2.out 61 hb2).mono ?_); rintro e v3 ⟨rfl, F3⟩)
      | (go_at_call 72; (with_reducible refine (sf_take F3.out CT.out.1 CT.out.2).mono ?_); rintro e v4 ⟨rfl, h5⟩; have F4 := h5; rw [hq3] at F4; clear h5)
      | (go_at_call 23; (with_reducible refine (sf_value F4.out ⟨rfl, rfl, rfl⟩ hq4).mono ?_); rintro e v5 ⟨An, cn, l, rfl, c5, f5, h5⟩; have F5 := Lib.hid h5.out.1; have HV := Lib.hid h5.out.2; clear h5)
      | (go_at_call 65; (with_reducible refine (sf_mark F5.out 59 hq5).mono ?_); rintro e v6 ⟨rfl, F6⟩)
      | (refine wpList_load_cb rfl 42 (.tmp 4) rfl _ _ rfl F6.out.s4 Tryz.underlying42 rfl (by kernel_rfl) ?_)
      | (refine wpList_store_cb rfl 42 (.tmp 2) (.tmp 80) rfl w.heap.size (stC st0 (.slice none 0 0)) _ rfl rfl F6.out.r2 rfl (by kernel_rfl) (by kernel_rfl) ?_; intro w9 h9 t9))
    obtain ⟨z1, z2, z3⟩ := F6.out.close t9
    refine bodyPost_ret (results_cb rfl _ _ _ _ rfl h9 Tryz.underlying42 rfl (by kernel_rfl)) rfl ?_
    refine ⟨⟨⟨1, nA, [], [], [], n2, l, t.a⟩, An, cn⟩, rfl, by rw [HS.out]; exact z1, z2, z3, fun zf => ?_⟩
    rw [HS.out] at zf ⊢
    have hv := HV.out (flt_back (go_want (T := T) q4 4 [59]) (by change (q4.mark T 59).flt = 0; rw [hq5]; exact zf))
    show (⟨1, nA, [], [], [], n2, l, t.a⟩ : St) = _
    rw [hv]

set_option maxRecDepth 100000 in
set_option maxHeartbeats 8000000 in
theorem cstep2_any {w : World} {g : Nat} {A : Option Addr} {c : Nat} {T : List Tk} {p : PS} (h : RS w g A c T p) (hK : stepK T p = 2) :
    Calls Tryz.prog 91 #[.pointer (some ⟨g, 0, none⟩)] w (StepAt g A c T p w) := by
  obtain ⟨h0, hk1, hko⟩ := step_pre h hK (by decide)
  obtain ⟨t, ht⟩ : ∃ t, p.tok T = t := ⟨_, rfl⟩
  rw [ht] at hk1 hko
  have hgl := h.len
  have ck : ∀ W, Calls Tryz.prog 90 #[.agg #[.int .i64 (t.k : Nat), .string (str t.t), .int .u64 (t.n : Nat), .int .i64 (t.a : Nat), .int .i64 (t.e : Nat)]] W fun e w' => e = .returned (.int .i64 2) ∧ Below W.heap.size W w' := fun W => by
    have := stepKind_any W t
    rw [hko] at this
    exact this
  obtain ⟨q0, nA, hq0⟩ : ∃ q nm, p.next.name T = (q, nm) := ⟨_, _, rfl⟩
  obtain ⟨q1, hq1⟩ : ∃ q, q0.word T [116, 111] = q := ⟨_, rfl⟩
  obtain ⟨q2, n2, hq2⟩ : ∃ q nm, q1.name T = (q, nm) := ⟨_, _, rfl⟩
  obtain ⟨q3, hq3⟩ : ∃ q, q2.mark T 59 = q := ⟨_, rfl⟩
  have hS : p.step T = (q3, ⟨2, nA, n2, [], [], [], [], t.a⟩) := by
    unfold PS.step
    rw [hK]
    dsimp only
    rw [if_neg (by decide), hq0]
    dsimp only
    rw [if_neg (by decide)]
    rw [if_pos rfl]
    rw [ls_to, hq1]
    rw [hq2]
    dsimp only
    rw [hq3]
    rw [ht]
  have HS := Lib.hid hS
  have hb1 : Below w.heap.size w (w.alloc (.cells #[.int .i64 0, .string ⟨#[]⟩, .string ⟨#[]⟩, .string ⟨#[]⟩, .string ⟨#[]⟩, .string ⟨#[]⟩, .slice none 0 0, .int .i64 0] 42)) := (Below.refl _ w).alloc (Nat.le_refl _) _
  have hc1 : CB (w.alloc (.cells #[.int .i64 0, .string ⟨#[]⟩, .string ⟨#[]⟩, .string ⟨#[]⟩, .string ⟨#[]⟩, .string ⟨#[]⟩, .slice none 0 0, .int .i64 0] 42)) w.heap.size 42 (stC st0 (.slice none 0 0)) := CB.new w _ _
  have ct := take_parts (h.below hb1) h0 (by rw [ht, hk1]; decide) ht
  have CN : Hid (∀ W, RS W g A c T p.next → Calls Tryz.prog 64 #[.pointer (some ⟨g, 0, none⟩)] W fun e w' => e = .returned (.string (str nA)) ∧ RS w' g A c T q0 ∧ Gn g W w') := fun W hr => by
    have := cname_any hr
    rw [hq0] at this
    exact this
  have START : Hid (∀ w6, RS w6 g A c T q0 → CB w6 w.heap.size 42 (stC st0 (.slice none 0 0)) → Gn g w w6 → SF w (w6.alloc (.cells #[.int .i64 2, .string (str nA), .string ⟨#[]⟩, .string ⟨#[]⟩, .string ⟨#[]⟩, .string ⟨#[]⟩, .slice none 0 0, .int .i64 (t.a : Nat)] 42)) g A c T q0 w.heap.size w6.heap.size ⟨⟨2, nA, [], [], [], [], [], t.a⟩, none, 0⟩) :=
    fun w6 hr hc hg => sf_start hr hc hg hgl (Nat.le_refl _) ⟨⟨2, nA, [], [], [], [], [], t.a⟩, none, 0⟩ ⟨rfl, rfl, rfl⟩
  have hs1 : (w.alloc (.cells #[.int .i64 0, .string ⟨#[]⟩, .string ⟨#[]⟩, .string ⟨#[]⟩, .string ⟨#[]⟩, .string ⟨#[]⟩, .slice none 0 0, .int .i64 0] 42)).heap.size = w.heap.size + 1 := by simp
  clear h hK h0 ht hk1 hko hS
  go_enter Tryz.func91, Tryz.ntmps91
  go_wp2_with (go_at_call 72; refine ct.mono ?_; rintro e w2 ⟨rfl, hr2, hg2⟩; have hg12 := (Gn.of hb1).trans hg2; have hc2 := hc1.keep (hg2.other hc1.len (by omega)); have hb3 : Below w2.heap.size w2 (w2.alloc (.cells #[.int .i64 (t.k : Nat), .string (str t.t), .int .u64 (t.n : Nat), .int .i64 (t.a : Nat), .int .i64 (t.e : Nat)] 84)).drew := Below.thenN ((Below.refl _ w2).alloc (Nat.le_refl _) _) 1; have HT3 : Hid (TBlk (w2.alloc (.cells #[.int .i64 (t.k : Nat), .string (str t.t), .int .u64 (t.n : Nat), .int .i64 (t.a : Nat), .int .i64 (t.e : Nat)] 84)).drew w2.heap.size t) := TBlk.new w2 t; have k3' := HT3.out.cells; have HR3 := Lib.hid (hr2.below hb3); have HC3 := Lib.hid (hc2.below hb3); have HG3 := Lib.hid (hg12.trans (Gn.of hb3)); have hl2 := hc2.len; have hs3 : (w2.alloc (.cells #[.int .i64 (t.k : Nat), .string (str t.t), .int .u64 (t.n : Nat), .int .i64 (t.a : Nat), .int .i64 (t.e : Nat)] 84)).heap.size = w2.heap.size + 1 := (by simp); have HT4 : Hid (TBlk ((w2.alloc (.cells #[.int .i64 (t.k : Nat), .string (str t.t), .int .u64 (t.n : Nat), .int .i64 (t.a : Nat), .int .i64 (t.e : Nat)] 84)).alloc (.cells #[.int .i64 0, .string ⟨#[]⟩, .string ⟨#[]⟩, .string ⟨#[]⟩, .string ⟨#[]⟩, .string ⟨#[]⟩, .slice none 0 0, .int .i64 0] 42)).drew w2.heap.size t) := (TBlk.new w2 t).new_ _; clear hr2 hc2 hg2 hg12)
  go_cut [4] (fun s4 wx => ∃ b4 : Nat, s4 = .pointer (some ⟨b4, 0, none⟩) ∧ Hid (SF w wx g A c T q0 w.heap.size b4 ⟨⟨2, nA, [], [], [], [], [], t.a⟩, none, 0⟩))
  case first =>
    go_region_held3 (fun W => W.cell? ⟨w2.heap.size, 0, none⟩ = some (.int .i64 (t.k : Nat)) ∧ W.cell? ⟨w2.heap.size, 1, none⟩ = some (.string (str t.t)) ∧ W.cell? ⟨w2.heap.size, 2, none⟩ = some (.int .u64 (t.n : Nat)) ∧ W.cell? ⟨w2.heap.size, 3, none⟩ = some (.int .i64 (t.a : Nat)) ∧ W.cell? ⟨w2.heap.size, 4, none⟩ = some (.int .i64 (t.e : Nat))) (first | (with_reducible exact HT3.out.cells) | (with_reducible exact HT5.out.cells) | (with_reducible exact HT6.out.cells) | (with_reducible exact (HT6.out.new_ _).cells) | (with_reducible exact (HT5.out.new_ _).cells) | (with_reducible exact HT4.out.cells) | (with_reducible exact HT8.out.cells) | (with_reducible assumption) | fail)
      (first
        | (go_at_call 90; refine (ck _).mono ?_; rintro e w5 ⟨rfl, hb5⟩; have hb35 : Below (w2.alloc (.cells #[.int .i64 (t.k : Nat), .string (str t.t), .int .u64 (t.n : Nat), .int .i64 (t.a : Nat), .int .i64 (t.e : Nat)] 84)).drew.heap.size (w2.alloc (.cells #[.int .i64 (t.k : Nat), .string (str t.t), .int .u64 (t.n : Nat), .int .i64 (t.a : Nat), .int .i64 (t.e : Nat)] 84)).drew w5 := (by first | (with_reducible exact hb5) | (with_reducible exact below_al2 hb5) | fail); have HT5 := Lib.hid (HT3.out.below hb35); have HR5 := Lib.hid (HR3.out.below hb35); have HC5 := Lib.hid (HC3.out.below hb35); have HG5 := Lib.hid (HG3.out.trans (Gn.of hb35)); first
            | (have HZ5 : Hid (CB w5 (w2.heap.size + 1) 42 (stC st0 (.slice none 0 0))) := (by with_reducible exact cb_after3 hs3 hb5))
            | skip)
        | (go_at_call 64; first
            | (with_reducible refine (CN.out w5 HR5.out).mono ?_)
            | (with_reducible refine (CN.out _ (HR5.out.below ((Below.refl _ w5).alloc (Nat.le_refl _) _))).mono ?_)
            | fail
           rintro e w6 ⟨rfl, hr6, hg6⟩
           have hg56 : Gn g w5 w6 := (by first | (with_reducible exact hg6) | (with_reducible exact (Gn.of ((Below.refl _ w5).alloc (Nat.le_refl _) _)).trans hg6) | fail)
           have HT6 := Lib.hid (HT5.out.keep (hg56.other HT5.out.len (by have := HC5.out.len; omega)))
           have HC6 := Lib.hid (HC5.out.keep (hg56.other HC5.out.len (by omega)))
           have HG6 := Lib.hid (HG5.out.trans hg56)
           have HR6 := Lib.hid hr6
           clear hr6
           first
            | (have HZ6 := Lib.hid (HZ5.out.keep (hg6.other HZ5.out.len (by omega))); have HF := Lib.hid (sf_start3 HR6.out HC6.out HZ6.out HG6.out hgl (Nat.le_refl _) (by omega) (by omega) 2 2 rfl nA t.a); have HT8 := Lib.hid (tb_over HT6.out (b := w2.heap.size + 1) (by omega) (.int .i64 2) (.string (str nA)) (.string ⟨#[]⟩) (.string ⟨#[]⟩) (.string ⟨#[]⟩) (.string ⟨#[]⟩) (.slice none 0 0) (.int .i64 (t.a : Nat))); obtain ⟨⟨z0, z1, z2, z3, z4, z5, z6, z7⟩, y0, y1, y2, y3, y4, y5, y6, y7⟩ := HZ6.out.zst)
            | (have HZ6 : Hid (CB w6 w5.heap.size 42 (stC st0 (.slice none 0 0))) := (by with_reducible exact cb_after2 hg6 HR5.out.len); have HF := Lib.hid (sf_start3 HR6.out HC6.out HZ6.out HG6.out hgl (Nat.le_refl _) HG5.out.size (by have := HC5.out.len; omega) 2 2 rfl nA t.a); have HT8 := Lib.hid (tb_over HT6.out (b := w5.heap.size) (by have := HT5.out.len; omega) (.int .i64 2) (.string (str nA)) (.string ⟨#[]⟩) (.string ⟨#[]⟩) (.string ⟨#[]⟩) (.string ⟨#[]⟩) (.slice none 0 0) (.int .i64 (t.a : Nat))); obtain ⟨⟨z0, z1, z2, z3, z4, z5, z6, z7⟩, y0, y1, y2, y3, y4, y5, y6, y7⟩ := HZ6.out.zst)
            | skip)
        | fail)
    all_goals (go_wp2_with fail; go_meet; first
      | (with_reducible exact ⟨_, rfl, Lib.hid (START.out w6 HR6.out HC6.out HG6.out)⟩)
      | (with_reducible exact ⟨_, rfl, HF⟩)
      | fail)
  case rest =>
    obtain ⟨b4, rfl, F0⟩ := hcut
    have s0 : wc.cell? ⟨b4, 0, none⟩ = some (.int .i64 2) := (F0.out.at_ 0).1
    clear k3' HT3 HR3 HC3 HG3 START CN ck hb3
    go_wp2_with (first
      | (go_at_call 63; (with_reducible refine (sf_word F0.out [116, 111] ⟨#[116, 111]⟩ rfl hq1).mono ?_); rintro e v1 ⟨a1, rfl, F1⟩)
      | (go_at_call 64; (with_reducible refine (sf_name F1.out hq2 2 ⟨⟨2, nA, n2, [], [], [], [], t.a⟩, none, 0⟩ (.string ⟨#[]⟩) rfl rfl rfl rfl rfl).mono ?_); rintro e v2 ⟨rfl, c2, f2, F2⟩)
      | (go_at_call 65; (with_reducible refine (sf_mark F2.out 59 hq3).mono ?_); rintro e v3 ⟨rfl, F3⟩)
      | (refine wpList_load_cb rfl 42 (.tmp 4) rfl _ _ rfl F3.out.s4 Tryz.underlying42 rfl (by kernel_rfl) ?_)
      | (refine wpList_store_cb rfl 42 (.tmp 2) (.tmp 80) rfl w.heap.size (stC st0 (.slice none 0 0)) _ rfl rfl F3.out.r2 rfl (by kernel_rfl) (by kernel_rfl) ?_; intro w9 h9 t9))
    obtain ⟨z1, z2, z3⟩ := F3.out.close t9
    refine bodyPost_ret (results_cb rfl _ _ _ _ rfl h9 Tryz.underlying42 rfl (by kernel_rfl)) rfl ?_
    refine ⟨⟨⟨2, nA, n2, [], [], [], [], t.a⟩, none, 0⟩, rfl, by rw [HS.out]; exact z1, z2, z3, fun zf => ?_⟩
    rw [HS.out]

set_option maxRecDepth 100000 in
set_option maxHeartbeats 8000000 in
theorem cstep3_any {w : World} {g : Nat} {A : Option Addr} {c : Nat} {T : List Tk} {p : PS} (h : RS w g A c T p) (hK : stepK T p = 3) :
    Calls Tryz.prog 91 #[.pointer (some ⟨g, 0, none⟩)] w (StepAt g A c T p w) := by
  obtain ⟨h0, hk1, hko⟩ := step_pre h hK (by decide)
  obtain ⟨t, ht⟩ : ∃ t, p.tok T = t := ⟨_, rfl⟩
  rw [ht] at hk1 hko
  have hgl := h.len
  have ck : ∀ W, Calls Tryz.prog 90 #[.agg #[.int .i64 (t.k : Nat), .string (str t.t), .int .u64 (t.n : Nat), .int .i64 (t.a : Nat), .int .i64 (t.e : Nat)]] W fun e w' => e = .returned (.int .i64 3) ∧ Below W.heap.size W w' := fun W => by
    have := stepKind_any W t
    rw [hko] at this
    exact this
  obtain ⟨q0, nA, hq0⟩ : ∃ q nm, p.next.name T = (q, nm) := ⟨_, _, rfl⟩
  obtain ⟨q1, hq1⟩ : ∃ q, q0.word T [97, 116] = q := ⟨_, rfl⟩
  obtain ⟨q2, n2, hq2⟩ : ∃ q nm, q1.text T = (q, nm) := ⟨_, _, rfl⟩
  obtain ⟨q3, hq3⟩ : ∃ q, q2.word T [105, 110, 116, 111] = q := ⟨_, rfl⟩
  obtain ⟨q4, n4, hq4⟩ : ∃ q nm, q3.name T = (q, nm) := ⟨_, _, rfl⟩
  obtain ⟨q5, hq5⟩ : ∃ q, q4.mark T 44 = q := ⟨_, rfl⟩
  obtain ⟨q6, n6, hq6⟩ : ∃ q nm, q5.name T = (q, nm) := ⟨_, _, rfl⟩
  obtain ⟨q7, hq7⟩ : ∃ q, q6.mark T 59 = q := ⟨_, rfl⟩
  have hS : p.step T = (q7, ⟨3, nA, n4, n6, n2, [], [], t.a⟩) := by
    unfold PS.step
    rw [hK]
    dsimp only
    rw [if_neg (by decide), hq0]
    dsimp only
    rw [if_neg (by decide)]
    rw [if_neg (by decide)]
    rw [if_pos rfl]
    rw [ls_at, hq1]
    rw [hq2]
    dsimp only
    rw [ls_into, hq3]
    rw [hq4]
    dsimp only
    rw [hq5]
    rw [hq6]
    dsimp only
    rw [hq7]
    rw [ht]
  have HS := Lib.hid hS
  have hb1 : Below w.heap.size w (w.alloc (.cells #[.int .i64 0, .string ⟨#[]⟩, .string ⟨#[]⟩, .string ⟨#[]⟩, .string ⟨#[]⟩, .string ⟨#[]⟩, .slice none 0 0, .int .i64 0] 42)) := (Below.refl _ w).alloc (Nat.le_refl _) _
  have hc1 : CB (w.alloc (.cells #[.int .i64 0, .string ⟨#[]⟩, .string ⟨#[]⟩, .string ⟨#[]⟩, .string ⟨#[]⟩, .string ⟨#[]⟩, .slice none 0 0, .int .i64 0] 42)) w.heap.size 42 (stC st0 (.slice none 0 0)) := CB.new w _ _
  have ct := take_parts (h.below hb1) h0 (by rw [ht, hk1]; decide) ht
  have CN : Hid (∀ W, RS W g A c T p.next → Calls Tryz.prog 64 #[.pointer (some ⟨g, 0, none⟩)] W fun e w' => e = .returned (.string (str nA)) ∧ RS w' g A c T q0 ∧ Gn g W w') := fun W hr => by
    have := cname_any hr
    rw [hq0] at this
    exact this
  have START : Hid (∀ w6, RS w6 g A c T q0 → CB w6 w.heap.size 42 (stC st0 (.slice none 0 0)) → Gn g w w6 → SF w (w6.alloc (.cells #[.int .i64 3, .string (str nA), .string ⟨#[]⟩, .string ⟨#[]⟩, .string ⟨#[]⟩, .string ⟨#[]⟩, .slice none 0 0, .int .i64 (t.a : Nat)] 42)) g A c T q0 w.heap.size w6.heap.size ⟨⟨3, nA, [], [], [], [], [], t.a⟩, none, 0⟩) :=
    fun w6 hr hc hg => sf_start hr hc hg hgl (Nat.le_refl _) ⟨⟨3, nA, [], [], [], [], [], t.a⟩, none, 0⟩ ⟨rfl, rfl, rfl⟩
  have hs1 : (w.alloc (.cells #[.int .i64 0, .string ⟨#[]⟩, .string ⟨#[]⟩, .string ⟨#[]⟩, .string ⟨#[]⟩, .string ⟨#[]⟩, .slice none 0 0, .int .i64 0] 42)).heap.size = w.heap.size + 1 := by simp
  clear h hK h0 ht hk1 hko hS
  go_enter Tryz.func91, Tryz.ntmps91
  go_wp2_with (go_at_call 72; refine ct.mono ?_; rintro e w2 ⟨rfl, hr2, hg2⟩; have hg12 := (Gn.of hb1).trans hg2; have hc2 := hc1.keep (hg2.other hc1.len (by omega)); have hb3 : Below w2.heap.size w2 (w2.alloc (.cells #[.int .i64 (t.k : Nat), .string (str t.t), .int .u64 (t.n : Nat), .int .i64 (t.a : Nat), .int .i64 (t.e : Nat)] 84)).drew := Below.thenN ((Below.refl _ w2).alloc (Nat.le_refl _) _) 1; have HT3 : Hid (TBlk (w2.alloc (.cells #[.int .i64 (t.k : Nat), .string (str t.t), .int .u64 (t.n : Nat), .int .i64 (t.a : Nat), .int .i64 (t.e : Nat)] 84)).drew w2.heap.size t) := TBlk.new w2 t; have k3' := HT3.out.cells; have HR3 := Lib.hid (hr2.below hb3); have HC3 := Lib.hid (hc2.below hb3); have HG3 := Lib.hid (hg12.trans (Gn.of hb3)); have hl2 := hc2.len; have hs3 : (w2.alloc (.cells #[.int .i64 (t.k : Nat), .string (str t.t), .int .u64 (t.n : Nat), .int .i64 (t.a : Nat), .int .i64 (t.e : Nat)] 84)).heap.size = w2.heap.size + 1 := (by simp); have HT4 : Hid (TBlk ((w2.alloc (.cells #[.int .i64 (t.k : Nat), .string (str t.t), .int .u64 (t.n : Nat), .int .i64 (t.a : Nat), .int .i64 (t.e : Nat)] 84)).alloc (.cells #[.int .i64 0, .string ⟨#[]⟩, .string ⟨#[]⟩, .string ⟨#[]⟩, .string ⟨#[]⟩, .string ⟨#[]⟩, .slice none 0 0, .int .i64 0] 42)).drew w2.heap.size t) := (TBlk.new w2 t).new_ _; clear hr2 hc2 hg2 hg12)
  go_cut [4] (fun s4 wx => ∃ b4 : Nat, s4 = .pointer (some ⟨b4, 0, none⟩) ∧ Hid (SF w wx g A c T q0 w.heap.size b4 ⟨⟨3, nA, [], [], [], [], [], t.a⟩, none, 0⟩))
  case first =>
    go_region_held3 (fun W => W.cell? ⟨w2.heap.size, 0, none⟩ = some (.int .i64 (t.k : Nat)) ∧ W.cell? ⟨w2.heap.size, 1, none⟩ = some (.string (str t.t)) ∧ W.cell? ⟨w2.heap.size, 2, none⟩ = some (.int .u64 (t.n : Nat)) ∧ W.cell? ⟨w2.heap.size, 3, none⟩ = some (.int .i64 (t.a : Nat)) ∧ W.cell? ⟨w2.heap.size, 4, none⟩ = some (.int .i64 (t.e : Nat))) (first | (with_reducible exact HT3.out.cells) | (with_reducible exact HT5.out.cells) | (with_reducible exact HT6.out.cells) | (with_reducible exact (HT6.out.new_ _).cells) | (with_reducible exact (HT5.out.new_ _).cells) | (with_reducible exact HT4.out.cells) | (with_reducible exact HT8.out.cells) | (with_reducible assumption) | fail)
      (first
        | (go_at_call 90; refine (ck _).mono ?_; rintro e w5 ⟨rfl, hb5⟩; have hb35 : Below (w2.alloc (.cells #[.int .i64 (t.k : Nat), .string (str t.t), .int .u64 (t.n : Nat), .int .i64 (t.a : Nat), .int .i64 (t.e : Nat)] 84)).drew.heap.size (w2.alloc (.cells #[.int .i64 (t.k : Nat), .string (str t.t), .int .u64 (t.n : Nat), .int .i64 (t.a : Nat), .int .i64 (t.e : Nat)] 84)).drew w5 := (by first | (with_reducible exact hb5) | (with_reducible exact below_al2 hb5) | fail); have HT5 := Lib.hid (HT3.out.below hb35); have HR5 := Lib.hid (HR3.out.below hb35); have HC5 := Lib.hid (HC3.out.below hb35); have HG5 := Lib.hid (HG3.out.trans (Gn.of hb35)); first
            | (have HZ5 : Hid (CB w5 (w2.heap.size + 1) 42 (stC st0 (.slice none 0 0))) := (by with_reducible exact cb_after3 hs3 hb5))
            | skip)
        | (go_at_call 64; first
            | (with_reducible refine (CN.out w5 HR5.out).mono ?_)
            | (with_reducible refine (CN.out _ (HR5.out.below ((Below.refl _ w5).alloc (Nat.le_refl _) _))).mono ?_)
            | fail
           rintro e w6 ⟨rfl, hr6, hg6⟩
           have hg56 : Gn g w5 w6 := (by first | (with_reducible exact hg6) | (with_reducible exact (Gn.of ((Below.refl _ w5).alloc (Nat.le_refl _) _)).trans hg6) | fail)
           have HT6 := Lib.hid (HT5.out.keep (hg56.other HT5.out.len (by have := HC5.out.len; omega)))
           have HC6 := Lib.hid (HC5.out.keep (hg56.other HC5.out.len (by omega)))
           have HG6 := Lib.hid (HG5.out.trans hg56)
           have HR6 := Lib.hid hr6
           clear hr6
           first
            | (have HZ6 := Lib.hid (HZ5.out.keep (hg6.other HZ5.out.len (by omega))); have HF := Lib.hid (sf_start3 HR6.out HC6.out HZ6.out HG6.out hgl (Nat.le_refl _) (by omega) (by omega) 3 3 rfl nA t.a); have HT8 := Lib.hid (tb_over HT6.out (b := w2.heap.size + 1) (by omega) (.int .i64 3) (.string (str nA)) (.string ⟨#[]⟩) (.string ⟨#[]⟩) (.string ⟨#[]⟩) (.string ⟨#[]⟩) (.slice none 0 0) (.int .i64 (t.a : Nat))); obtain ⟨⟨z0, z1, z2, z3, z4, z5, z6, z7⟩, y0, y1, y2, y3, y4, y5, y6, y7⟩ := HZ6.out.zst)
            | (have HZ6 : Hid (CB w6 w5.heap.size 42 (stC st0 (.slice none 0 0))) := (by with_reducible exact cb_after2 hg6 HR5.out.len); have HF := Lib.hid (sf_start3 HR6.out HC6.out HZ6.out HG6.out hgl (Nat.le_refl _) HG5.out.size (by have := HC5.out.len; omega) 3 3 rfl nA t.a); have HT8 := Lib.hid (tb_over HT6.out (b := w5.heap.size) (by have := HT5.out.len; omega) (.int .i64 3) (.string (str nA)) (.string ⟨#[]⟩) (.string ⟨#[]⟩) (.string ⟨#[]⟩) (.string ⟨#[]⟩) (.slice none 0 0) (.int .i64 (t.a : Nat))); obtain ⟨⟨z0, z1, z2, z3, z4, z5, z6, z7⟩, y0, y1, y2, y3, y4, y5, y6, y7⟩ := HZ6.out.zst)
            | skip)
        | fail)
    all_goals (go_wp2_with fail; go_meet; first
      | (with_reducible exact ⟨_, rfl, Lib.hid (START.out w6 HR6.out HC6.out HG6.out)⟩)
      | (with_reducible exact ⟨_, rfl, HF⟩)
      | fail)
  case rest =>
    obtain ⟨b4, rfl, F0⟩ := hcut
    have s0 : wc.cell? ⟨b4, 0, none⟩ = some (.int .i64 3) := (F0.out.at_ 0).1
    clear k3' HT3 HR3 HC3 HG3 START CN ck hb3
    go_wp2_with (first
      | (go_at_call 63; (with_reducible refine (sf_word F0.out [97, 116] ⟨#[97, 116]⟩ rfl hq1).mono ?_); rintro e v1 ⟨a1, rfl, F1⟩)
      | (go_at_call 104; (with_reducible refine (sf_text F1.out hq2 4 ⟨⟨3, nA, [], [], n2, [], [], t.a⟩, none, 0⟩ (.string ⟨#[]⟩) rfl rfl rfl rfl rfl).mono ?_); rintro e v2 ⟨rfl, c2, f2, F2⟩)
      | (go_at_call 63; (with_reducible refine (sf_word F2.out [105, 110, 116, 111] ⟨#[105, 110, 116, 111]⟩ rfl hq3).mono ?_); rintro e v3 ⟨a3, rfl, F3⟩)
      | (go_at_call 64; (with_reducible refine (sf_name F3.out hq4 2 ⟨⟨3, nA, n4, [], n2, [], [], t.a⟩, none, 0⟩ (.string ⟨#[]⟩) rfl rfl rfl rfl rfl).mono ?_); rintro e v4 ⟨rfl, c4, f4, F4⟩)
      | (go_at_call 65; (with_reducible refine (sf_mark F4.out 44 hq5).mono ?_); rintro e v5 ⟨rfl, F5⟩)
      | (go_at_call 64; (with_reducible refine (sf_name F5.out hq6 3 ⟨⟨3, nA, n4, n6, n2, [], [], t.a⟩, none, 0⟩ (.string ⟨#[]⟩) rfl rfl rfl rfl rfl).mono ?_); rintro e v6 ⟨rfl, c6, f6, F6⟩)
      | (go_at_call 65; (with_reducible refine (sf_mark F6.out 59 hq7).mono ?_); rintro e v7 ⟨rfl, F7⟩)
      | (refine wpList_load_cb rfl 42 (.tmp 4) rfl _ _ rfl F7.out.s4 Tryz.underlying42 rfl (by kernel_rfl) ?_)
      | (refine wpList_store_cb rfl 42 (.tmp 2) (.tmp 80) rfl w.heap.size (stC st0 (.slice none 0 0)) _ rfl rfl F7.out.r2 rfl (by kernel_rfl) (by kernel_rfl) ?_; intro w9 h9 t9))
    obtain ⟨z1, z2, z3⟩ := F7.out.close t9
    refine bodyPost_ret (results_cb rfl _ _ _ _ rfl h9 Tryz.underlying42 rfl (by kernel_rfl)) rfl ?_
    refine ⟨⟨⟨3, nA, n4, n6, n2, [], [], t.a⟩, none, 0⟩, rfl, by rw [HS.out]; exact z1, z2, z3, fun zf => ?_⟩
    rw [HS.out]

set_option maxRecDepth 100000 in
set_option maxHeartbeats 8000000 in
theorem cstep4_any {w : World} {g : Nat} {A : Option Addr} {c : Nat} {T : List Tk} {p : PS} (h : RS w g A c T p) (hK : stepK T p = 4) :
    Calls Tryz.prog 91 #[.pointer (some ⟨g, 0, none⟩)] w (StepAt g A c T p w) := by
  obtain ⟨h0, hk1, hko⟩ := step_pre h hK (by decide)
  obtain ⟨t, ht⟩ : ∃ t, p.tok T = t := ⟨_, rfl⟩
  rw [ht] at hk1 hko
  have hgl := h.len
  have ck : ∀ W, Calls Tryz.prog 90 #[.agg #[.int .i64 (t.k : Nat), .string (str t.t), .int .u64 (t.n : Nat), .int .i64 (t.a : Nat), .int .i64 (t.e : Nat)]] W fun e w' => e = .returned (.int .i64 4) ∧ Below W.heap.size W w' := fun W => by
    have := stepKind_any W t
    rw [hko] at this
    exact this
  obtain ⟨q0, nA, hq0⟩ : ∃ q nm, p.next.name T = (q, nm) := ⟨_, _, rfl⟩
  obtain ⟨q1, hq1⟩ : ∃ q, q0.mark T 44 = q := ⟨_, rfl⟩
  obtain ⟨q2, n2, hq2⟩ : ∃ q nm, q1.name T = (q, nm) := ⟨_, _, rfl⟩
  obtain ⟨q3, hq3⟩ : ∃ q, q2.word T [119, 105, 116, 104] = q := ⟨_, rfl⟩
  obtain ⟨q4, n4, hq4⟩ : ∃ q nm, q3.text T = (q, nm) := ⟨_, _, rfl⟩
  obtain ⟨q5, hq5⟩ : ∃ q, q4.word T [105, 110, 116, 111] = q := ⟨_, rfl⟩
  obtain ⟨q6, n6, hq6⟩ : ∃ q nm, q5.name T = (q, nm) := ⟨_, _, rfl⟩
  obtain ⟨q7, hq7⟩ : ∃ q, q6.mark T 59 = q := ⟨_, rfl⟩
  have hS : p.step T = (q7, ⟨4, nA, n2, n6, n4, [], [], t.a⟩) := by
    unfold PS.step
    rw [hK]
    dsimp only
    rw [if_neg (by decide), hq0]
    dsimp only
    rw [if_neg (by decide)]
    rw [if_neg (by decide)]
    rw [if_neg (by decide)]
    rw [if_pos rfl]
    rw [hq1]
    rw [hq2]
    dsimp only
    rw [ls_with, hq3]
    rw [hq4]
    dsimp only
    rw [ls_into, hq5]
    rw [hq6]
    dsimp only
    rw [hq7]
    rw [ht]
  have HS := Lib.hid hS
  have hb1 : Below w.heap.size w (w.alloc (.cells #[.int .i64 0, .string ⟨#[]⟩, .string ⟨#[]⟩, .string ⟨#[]⟩, .string ⟨#[]⟩, .string ⟨#[]⟩, .slice none 0 0, .int .i64 0] 42)) := (Below.refl _ w).alloc (Nat.le_refl _) _
  have hc1 : CB (w.alloc (.cells #[.int .i64 0, .string ⟨#[]⟩, .string ⟨#[]⟩, .string ⟨#[]⟩, .string ⟨#[]⟩, .string ⟨#[]⟩, .slice none 0 0, .int .i64 0] 42)) w.heap.size 42 (stC st0 (.slice none 0 0)) := CB.new w _ _
  have ct := take_parts (h.below hb1) h0 (by rw [ht, hk1]; decide) ht
  have CN : Hid (∀ W, RS W g A c T p.next → Calls Tryz.prog 64 #[.pointer (some ⟨g, 0, none⟩)] W fun e w' => e = .returned (.string (str nA)) ∧ RS w' g A c T q0 ∧ Gn g W w') := fun W hr => by
    have := cname_any hr
    rw [hq0] at this
    exact this
  have START : Hid (∀ w6, RS w6 g A c T q0 → CB w6 w.heap.size 42 (stC st0 (.slice none 0 0)) → Gn g w w6 → SF w (w6.alloc (.cells #[.int .i64 4, .string (str nA), .string ⟨#[]⟩, .string ⟨#[]⟩, .string ⟨#[]⟩, .string ⟨#[]⟩, .slice none 0 0, .int .i64 (t.a : Nat)] 42)) g A c T q0 w.heap.size w6.heap.size ⟨⟨4, nA, [], [], [], [], [], t.a⟩, none, 0⟩) :=
    fun w6 hr hc hg => sf_start hr hc hg hgl (Nat.le_refl _) ⟨⟨4, nA, [], [], [], [], [], t.a⟩, none, 0⟩ ⟨rfl, rfl, rfl⟩
  have hs1 : (w.alloc (.cells #[.int .i64 0, .string ⟨#[]⟩, .string ⟨#[]⟩, .string ⟨#[]⟩, .string ⟨#[]⟩, .string ⟨#[]⟩, .slice none 0 0, .int .i64 0] 42)).heap.size = w.heap.size + 1 := by simp
  clear h hK h0 ht hk1 hko hS
  go_enter Tryz.func91, Tryz.ntmps91
  go_wp2_with (go_at_call 72; refine ct.mono ?_; rintro e w2 ⟨rfl, hr2, hg2⟩; have hg12 := (Gn.of hb1).trans hg2; have hc2 := hc1.keep (hg2.other hc1.len (by omega)); have hb3 : Below w2.heap.size w2 (w2.alloc (.cells #[.int .i64 (t.k : Nat), .string (str t.t), .int .u64 (t.n : Nat), .int .i64 (t.a : Nat), .int .i64 (t.e : Nat)] 84)).drew := Below.thenN ((Below.refl _ w2).alloc (Nat.le_refl _) _) 1; have HT3 : Hid (TBlk (w2.alloc (.cells #[.int .i64 (t.k : Nat), .string (str t.t), .int .u64 (t.n : Nat), .int .i64 (t.a : Nat), .int .i64 (t.e : Nat)] 84)).drew w2.heap.size t) := TBlk.new w2 t; have k3' := HT3.out.cells; have HR3 := Lib.hid (hr2.below hb3); have HC3 := Lib.hid (hc2.below hb3); have HG3 := Lib.hid (hg12.trans (Gn.of hb3)); have hl2 := hc2.len; have hs3 : (w2.alloc (.cells #[.int .i64 (t.k : Nat), .string (str t.t), .int .u64 (t.n : Nat), .int .i64 (t.a : Nat), .int .i64 (t.e : Nat)] 84)).heap.size = w2.heap.size + 1 := (by simp); have HT4 : Hid (TBlk ((w2.alloc (.cells #[.int .i64 (t.k : Nat), .string (str t.t), .int .u64 (t.n : Nat), .int .i64 (t.a : Nat), .int .i64 (t.e : Nat)] 84)).alloc (.cells #[.int .i64 0, .string ⟨#[]⟩, .string ⟨#[]⟩, .string ⟨#[]⟩, .string ⟨#[]⟩, .string ⟨#[]⟩, .slice none 0 0, .int .i64 0] 42)).drew w2.heap.size t) := (TBlk.new w2 t).new_ _; clear hr2 hc2 hg2 hg12)
  go_cut [4] (fun s4 wx => ∃ b4 : Nat, s4 = .pointer (some ⟨b4, 0, none⟩) ∧ Hid (SF w wx g A c T q0 w.heap.size b4 ⟨⟨4, nA, [], [], [], [], [], t.a⟩, none, 0⟩))
  case first =>
    go_region_held3 (fun W => W.cell? ⟨w2.heap.size, 0, none⟩ = some (.int .i64 (t.k : Nat)) ∧ W.cell? ⟨w2.heap.size, 1, none⟩ = some (.string (str t.t)) ∧ W.cell? ⟨w2.heap.size, 2, none⟩ = some (.int .u64 (t.n : Nat)) ∧ W.cell? ⟨w2.heap.size, 3, none⟩ = some (.int .i64 (t.a : Nat)) ∧ W.cell? ⟨w2.heap.size, 4, none⟩ = some (.int .i64 (t.e : Nat))) (first | (with_reducible exact HT3.out.cells) | (with_reducible exact HT5.out.cells) | (with_reducible exact HT6.out.cells) | (with_reducible exact (HT6.out.new_ _).cells) | (with_reducible exact (HT5.out.new_ _).cells) | (with_reducible exact HT4.out.cells) | (with_reducible exact HT8.out.cells) | (with_reducible assumption) | fail)
      (first
        | (go_at_call 90; refine (ck _).mono ?_; rintro e w5 ⟨rfl, hb5⟩; have hb35 : Below (w2.alloc (.cells #[.int .i64 (t.k : Nat), .string (str t.t), .int .u64 (t.n : Nat), .int .i64 (t.a : Nat), .int .i64 (t.e : Nat)] 84)).drew.heap.size (w2.alloc (.cells #[.int .i64 (t.k : Nat), .string (str t.t), .int .u64 (t.n : Nat), .int .i64 (t.a : Nat), .int .i64 (t.e : Nat)] 84)).drew w5 := (by first | (with_reducible exact hb5) | (with_reducible exact below_al2 hb5) | fail); have HT5 := Lib.hid (HT3.out.below hb35); have HR5 := Lib.hid (HR3.out.below hb35); have HC5 := Lib.hid (HC3.out.below hb35); have HG5 := Lib.hid (HG3.out.trans (Gn.of hb35)); first
            | (have HZ5 : Hid (CB w5 (w2.heap.size + 1) 42 (stC st0 (.slice none 0 0))) := (by with_reducible exact cb_after3 hs3 hb5))
            | skip)
        | (go_at_call 64; first
            | (with_reducible refine (CN.out w5 HR5.out).mono ?_)
            | (with_reducible refine (CN.out _ (HR5.out.below ((Below.refl _ w5).alloc (Nat.le_refl _) _))).mono ?_)
            | fail
           rintro e w6 ⟨rfl, hr6, hg6⟩
           have hg56 : Gn g w5 w6 := (by first | (with_reducible exact hg6) | (with_reducible exact (Gn.of ((Below.refl _ w5).alloc (Nat.le_refl _) _)).trans hg6) | fail)
           have HT6 := Lib.hid (HT5.out.keep (hg56.other HT5.out.len (by have := HC5.out.len; omega)))
           have HC6 := Lib.hid (HC5.out.keep (hg56.other HC5.out.len (by omega)))
           have HG6 := Lib.hid (HG5.out.trans hg56)
           have HR6 := Lib.hid hr6
           clear hr6
           first
            | (have HZ6 := Lib.hid (HZ5.out.keep (hg6.other HZ5.out.len (by omega))); have HF := Lib.hid (sf_start3 HR6.out HC6.out HZ6.out HG6.out hgl (Nat.le_refl _) (by omega) (by omega) 4 4 rfl nA t.a); have HT8 := Lib.hid (tb_over HT6.out (b := w2.heap.size + 1) (by omega) (.int .i64 4) (.string (str nA)) (.string ⟨#[]⟩) (.string ⟨#[]⟩) (.string ⟨#[]⟩) (.string ⟨#[]⟩) (.slice none 0 0) (.int .i64 (t.a : Nat))); obtain ⟨⟨z0, z1, z2, z3, z4, z5, z6, z7⟩, y0, y1, y2, y3, y4, y5, y6, y7⟩ := HZ6.out.zst)
            | (have HZ6 : Hid (CB w6 w5.heap.size 42 (stC st0 (.slice none 0 0))) := (by with_reducible exact cb_after2 hg6 HR5.out.len); have HF := Lib.hid (sf_start3 HR6.out HC6.out HZ6.out HG6.out hgl (Nat.le_refl _) HG5.out.size (by have := HC5.out.len; omega) 4 4 rfl nA t.a); have HT8 := Lib.hid (tb_over HT6.out (b := w5.heap.size) (by have := HT5.out.len; omega) (.int .i64 4) (.string (str nA)) (.string ⟨#[]⟩) (.string ⟨#[]⟩) (.string ⟨#[]⟩) (.string ⟨#[]⟩) (.slice none 0 0) (.int .i64 (t.a : Nat))); obtain ⟨⟨z0, z1, z2, z3, z4, z5, z6, z7⟩, y0, y1, y2, y3, y4, y5, y6, y7⟩ := HZ6.out.zst)
            | skip)
        | fail)
    all_goals (go_wp2_with fail; go_meet; first
      | (with_reducible exact ⟨_, rfl, Lib.hid (START.out w6 HR6.out HC6.out HG6.out)⟩)
      | (with_reducible exact ⟨_, rfl, HF⟩)
      | fail)
  case rest =>
    obtain ⟨b4, rfl, F0⟩ := hcut
    have s0 : wc.cell? ⟨b4, 0, none⟩ = some (.int .i64 4) := (F0.out.at_ 0).1
    clear k3' HT3 HR3 HC3 HG3 START CN ck hb3
    go_wp2_with (first
      | (go_at_call 65; (with_reducible refine (sf_mark F0.out 44 hq1).mono ?_); rintro e v1 ⟨rfl, F1⟩)
      | (go_at_call 64; (with_reducible refine (sf_name F1.out hq2 2 ⟨⟨4, nA, n2, [], [], [], [], t.a⟩, none, 0⟩ (.string ⟨#[]⟩) rfl rfl rfl rfl rfl).mono ?_); rintro e v2 ⟨rfl, c2, f2, F2⟩)
      | (go_at_call 63; (with_reducible refine (sf_word F2.out [119, 105, 116, 104] ⟨#[119, 105, 116, 104]⟩ rfl hq3).mono ?_); rintro e v3 ⟨a3, rfl, F3⟩)
      | (go_at_call 104; (with_reducible refine (sf_text F3.out hq4 4 ⟨⟨4, nA, n2, [], n4, [], [], t.a⟩, none, 0⟩ (.string ⟨#[]⟩) rfl rfl rfl rfl rfl).mono ?_); rintro e v4 ⟨rfl, c4, f4, F4⟩)
      | (go_at_call 63; (with_reducible refine (sf_word F4.out [105, 110, 116, 111] ⟨#[105, 110, 116, 111]⟩ rfl hq5).mono ?_); rintro e v5 ⟨a5, rfl, F5⟩)
      | (go_at_call 64; (with_reducible refine (sf_name F5.out hq6 3 ⟨⟨4, nA, n2, n6, n4, [], [], t.a⟩, none, 0⟩ (.string ⟨#[]⟩) rfl rfl rfl rfl rfl).mono ?_); rintro e v6 ⟨rfl, c6, f6, F6⟩)
      | (go_at_call 65; (with_reducible refine (sf_mark F6.out 59 hq7).mono ?_); rintro e v7 ⟨rfl, F7⟩)
      | (refine wpList_load_cb rfl 42 (.tmp 4) rfl _ _ rfl F7.out.s4 Tryz.underlying42 rfl (by kernel_rfl) ?_)
      | (refine wpList_store_cb rfl 42 (.tmp 2) (.tmp 80) rfl w.heap.size (stC st0 (.slice none 0 0)) _ rfl rfl F7.out.r2 rfl (by kernel_rfl) (by kernel_rfl) ?_; intro w9 h9 t9))
    obtain ⟨z1, z2, z3⟩ := F7.out.close t9
    refine bodyPost_ret (results_cb rfl _ _ _ _ rfl h9 Tryz.underlying42 rfl (by kernel_rfl)) rfl ?_
    refine ⟨⟨⟨4, nA, n2, n6, n4, [], [], t.a⟩, none, 0⟩, rfl, by rw [HS.out]; exact z1, z2, z3, fun zf => ?_⟩
    rw [HS.out]

set_option maxRecDepth 100000 in
set_option maxHeartbeats 8000000 in
theorem cstep5_any {w : World} {g : Nat} {A : Option Addr} {c : Nat} {T : List Tk} {p : PS} (h : RS w g A c T p) (hK : stepK T p = 5) :
    Calls Tryz.prog 91 #[.pointer (some ⟨g, 0, none⟩)] w (StepAt g A c T p w) := by
  obtain ⟨h0, hk1, hko⟩ := step_pre h hK (by decide)
  obtain ⟨t, ht⟩ : ∃ t, p.tok T = t := ⟨_, rfl⟩
  rw [ht] at hk1 hko
  have hgl := h.len
  have ck : ∀ W, Calls Tryz.prog 90 #[.agg #[.int .i64 (t.k : Nat), .string (str t.t), .int .u64 (t.n : Nat), .int .i64 (t.a : Nat), .int .i64 (t.e : Nat)]] W fun e w' => e = .returned (.int .i64 5) ∧ Below W.heap.size W w' := fun W => by
    have := stepKind_any W t
    rw [hko] at this
    exact this
  obtain ⟨q0, nA, hq0⟩ : ∃ q nm, p.next.name T = (q, nm) := ⟨_, _, rfl⟩
  obtain ⟨q1, hq1⟩ : ∃ q, q0.word T [116, 111] = q := ⟨_, rfl⟩
  obtain ⟨q2, n2, hq2⟩ : ∃ q nm, q1.name T = (q, nm) := ⟨_, _, rfl⟩
  obtain ⟨q3, hq3⟩ : ∃ q, q2.mark T 59 = q := ⟨_, rfl⟩
  have hS : p.step T = (q3, ⟨5, nA, [], [], [], n2, [], t.a⟩) := by
    unfold PS.step
    rw [hK]
    dsimp only
    rw [if_neg (by decide), hq0]
    dsimp only
    rw [if_neg (by decide)]
    rw [if_neg (by decide)]
    rw [if_neg (by decide)]
    rw [if_neg (by decide)]
    rw [if_pos rfl]
    rw [ls_to, hq1]
    rw [hq2]
    dsimp only
    rw [hq3]
    rw [ht]
  have HS := Lib.hid hS
  have hb1 : Below w.heap.size w (w.alloc (.cells #[.int .i64 0, .string ⟨#[]⟩, .string ⟨#[]⟩, .string ⟨#[]⟩, .string ⟨#[]⟩, .string ⟨#[]⟩, .slice none 0 0, .int .i64 0] 42)) := (Below.refl _ w).alloc (Nat.le_refl _) _
  have hc1 : CB (w.alloc (.cells #[.int .i64 0, .string ⟨#[]⟩, .string ⟨#[]⟩, .string ⟨#[]⟩, .string ⟨#[]⟩, .string ⟨#[]⟩, .slice none 0 0, .int .i64 0] 42)) w.heap.size 42 (stC st0 (.slice none 0 0)) := CB.new w _ _
  have ct := take_parts (h.below hb1) h0 (by rw [ht, hk1]; decide) ht
  have CN : Hid (∀ W, RS W g A c T p.next → Calls Tryz.prog 64 #[.pointer (some ⟨g, 0, none⟩)] W fun e w' => e = .returned (.string (str nA)) ∧ RS w' g A c T q0 ∧ Gn g W w') := fun W hr => by
    have := cname_any hr
    rw [hq0] at this
    exact this
  have START : Hid (∀ w6, RS w6 g A c T q0 → CB w6 w.heap.size 42 (stC st0 (.slice none 0 0)) → Gn g w w6 → SF w (w6.alloc (.cells #[.int .i64 5, .string (str nA), .string ⟨#[]⟩, .string ⟨#[]⟩, .string ⟨#[]⟩, .string ⟨#[]⟩, .slice none 0 0, .int .i64 (t.a : Nat)] 42)) g A c T q0 w.heap.size w6.heap.size ⟨⟨5, nA, [], [], [], [], [], t.a⟩, none, 0⟩) :=
    fun w6 hr hc hg => sf_start hr hc hg hgl (Nat.le_refl _) ⟨⟨5, nA, [], [], [], [], [], t.a⟩, none, 0⟩ ⟨rfl, rfl, rfl⟩
  have hs1 : (w.alloc (.cells #[.int .i64 0, .string ⟨#[]⟩, .string ⟨#[]⟩, .string ⟨#[]⟩, .string ⟨#[]⟩, .string ⟨#[]⟩, .slice none 0 0, .int .i64 0] 42)).heap.size = w.heap.size + 1 := by simp
  clear h hK h0 ht hk1 hko hS
  go_enter Tryz.func91, Tryz.ntmps91
  go_wp2_with (go_at_call 72; refine ct.mono ?_; rintro e w2 ⟨rfl, hr2, hg2⟩; have hg12 := (Gn.of hb1).trans hg2; have hc2 := hc1.keep (hg2.other hc1.len (by omega)); have hb3 : Below w2.heap.size w2 (w2.alloc (.cells #[.int .i64 (t.k : Nat), .string (str t.t), .int .u64 (t.n : Nat), .int .i64 (t.a : Nat), .int .i64 (t.e : Nat)] 84)).drew := Below.thenN ((Below.refl _ w2).alloc (Nat.le_refl _) _) 1; have HT3 : Hid (TBlk (w2.alloc (.cells #[.int .i64 (t.k : Nat), .string (str t.t), .int .u64 (t.n : Nat), .int .i64 (t.a : Nat), .int .i64 (t.e : Nat)] 84)).drew w2.heap.size t) := TBlk.new w2 t; have k3' := HT3.out.cells; have HR3 := Lib.hid (hr2.below hb3); have HC3 := Lib.hid (hc2.below hb3); have HG3 := Lib.hid (hg12.trans (Gn.of hb3)); have hl2 := hc2.len; have hs3 : (w2.alloc (.cells #[.int .i64 (t.k : Nat), .string (str t.t), .int .u64 (t.n : Nat), .int .i64 (t.a : Nat), .int .i64 (t.e : Nat)] 84)).heap.size = w2.heap.size + 1 := (by simp); have HT4 : Hid (TBlk ((w2.alloc (.cells #[.int .i64 (t.k : Nat), .string (str t.t), .int .u64 (t.n : Nat), .int .i64 (t.a : Nat), .int .i64 (t.e : Nat)] 84)).alloc (.cells #[.int .i64 0, .string ⟨#[]⟩, .string ⟨#[]⟩, .string ⟨#[]⟩, .string ⟨#[]⟩, .string ⟨#[]⟩, .slice none 0 0, .int .i64 0] 42)).drew w2.heap.size t) := (TBlk.new w2 t).new_ _; clear hr2 hc2 hg2 hg12)
  go_cut [4] (fun s4 wx => ∃ b4 : Nat, s4 = .pointer (some ⟨b4, 0, none⟩) ∧ Hid (SF w wx g A c T q0 w.heap.size b4 ⟨⟨5, nA, [], [], [], [], [], t.a⟩, none, 0⟩))
  case first =>
    go_region_held3 (fun W => W.cell? ⟨w2.heap.size, 0, none⟩ = some (.int .i64 (t.k : Nat)) ∧ W.cell? ⟨w2.heap.size, 1, none⟩ = some (.string (str t.t)) ∧ W.cell? ⟨w2.heap.size, 2, none⟩ = some (.int .u64 (t.n : Nat)) ∧ W.cell? ⟨w2.heap.size, 3, none⟩ = some (.int .i64 (t.a : Nat)) ∧ W.cell? ⟨w2.heap.size, 4, none⟩ = some (.int .i64 (t.e : Nat))) (first | (with_reducible exact HT3.out.cells) | (with_reducible exact HT5.out.cells) | (with_reducible exact HT6.out.cells) | (with_reducible exact (HT6.out.new_ _).cells) | (with_reducible exact (HT5.out.new_ _).cells) | (with_reducible exact HT4.out.cells) | (with_reducible exact HT8.out.cells) | (with_reducible assumption) | fail)
      (first
        | (go_at_call 90; refine (ck _).mono ?_; rintro e w5 ⟨rfl, hb5⟩; have hb35 : Below (w2.alloc (.cells #[.int .i64 (t.k : Nat), .string (str t.t), .int .u64 (t.n : Nat), .int .i64 (t.a : Nat), .int .i64 (t.e : Nat)] 84)).drew.heap.size (w2.alloc (.cells #[.int .i64 (t.k : Nat), .string (str t.t), .int .u64 (t.n : Nat), .int .i64 (t.a : Nat), .int .i64 (t.e : Nat)] 84)).drew w5 := (by first | (with_reducible exact hb5) | (with_reducible exact below_al2 hb5) | fail); have HT5 := Lib.hid (HT3.out.below hb35); have HR5 := Lib.hid (HR3.out.below hb35); have HC5 := Lib.hid (HC3.out.below hb35); have HG5 := Lib.hid (HG3.out.trans (Gn.of hb35)); first
            | (have HZ5 : Hid (CB w5 (w2.heap.size + 1) 42 (stC st0 (.slice none 0 0))) := (by with_reducible exact cb_after3 hs3 hb5))
            | skip)
        | (go_at_call 64; first
            | (with_reducible refine (CN.out w5 HR5.out).mono ?_)
            | (with_reducible refine (CN.out _ (HR5.out.below ((Below.refl _ w5).alloc (Nat.le_refl _) _))).mono ?_)
            | fail
           rintro e w6 ⟨rfl, hr6, hg6⟩
           have hg56 : Gn g w5 w6 := (by first | (with_reducible exact hg6) | (with_reducible exact (Gn.of ((Below.refl _ w5).alloc (Nat.le_refl _) _)).trans hg6) | fail)
           have HT6 := Lib.hid (HT5.out.keep (hg56.other HT5.out.len (by have := HC5.out.len; omega)))
           have HC6 := Lib.hid (HC5.out.keep (hg56.other HC5.out.len (by omega)))
           have HG6 := Lib.hid (HG5.out.trans hg56)
           have HR6 := Lib.hid hr6
           clear hr6
           first
            | (have HZ6 := Lib.hid (HZ5.out.keep (hg6.other HZ5.out.len (by omega))); have HF := Lib.hid (sf_start3 HR6.out HC6.out HZ6.out HG6.out hgl (Nat.le_refl _) (by omega) (by omega) 5 5 rfl nA t.a); have HT8 := Lib.hid (tb_over HT6.out (b := w2.heap.size + 1) (by omega) (.int .i64 5) (.string (str nA)) (.string ⟨#[]⟩) (.string ⟨#[]⟩) (.string ⟨#[]⟩) (.string ⟨#[]⟩) (.slice none 0 0) (.int .i64 (t.a : Nat))); obtain ⟨⟨z0, z1, z2, z3, z4, z5, z6, z7⟩, y0, y1, y2, y3, y4, y5, y6, y7⟩ := HZ6.out.zst)
            | (have HZ6 : Hid (CB w6 w5.heap.size 42 (stC st0 (.slice none 0 0))) := (by with_reducible exact cb_after2 hg6 HR5.out.len); have HF := Lib.hid (sf_start3 HR6.out HC6.out HZ6.out HG6.out hgl (Nat.le_refl _) HG5.out.size (by have := HC5.out.len; omega) 5 5 rfl nA t.a); have HT8 := Lib.hid (tb_over HT6.out (b := w5.heap.size) (by have := HT5.out.len; omega) (.int .i64 5) (.string (str nA)) (.string ⟨#[]⟩) (.string ⟨#[]⟩) (.string ⟨#[]⟩) (.string ⟨#[]⟩) (.slice none 0 0) (.int .i64 (t.a : Nat))); obtain ⟨⟨z0, z1, z2, z3, z4, z5, z6, z7⟩, y0, y1, y2, y3, y4, y5, y6, y7⟩ := HZ6.out.zst)
            | skip)
        | fail)
    all_goals (go_wp2_with fail; go_meet; first
      | (with_reducible exact ⟨_, rfl, Lib.hid (START.out w6 HR6.out HC6.out HG6.out)⟩)
      | (with_reducible exact ⟨_, rfl, HF⟩)
      | fail)
  case rest =>
    obtain ⟨b4, rfl, F0⟩ := hcut
    have s0 : wc.cell? ⟨b4, 0, none⟩ = some (.int .i64 5) := (F0.out.at_ 0).1
    clear k3' HT3 HR3 HC3 HG3 START CN ck hb3
    go_wp2_with (first
      | (go_at_call 63; (with_reducible refine (sf_word F0.out [116, 111] ⟨#[116, 111]⟩ rfl hq1).mono ?_); rintro e v1 ⟨a1, rfl, F1⟩)
      | (go_at_call 64; (with_reducible refine (sf_name F1.out hq2 5 ⟨⟨5, nA, [], [], [], n2, [], t.a⟩, none, 0⟩ (.string ⟨#[]⟩) rfl rfl rfl rfl rfl).mono ?_); rintro e v2 ⟨rfl, c2, f2, F2⟩)
      | (go_at_call 65; (with_reducible refine (sf_mark F2.out 59 hq3).mono ?_); rintro e v3 ⟨rfl, F3⟩)
      | (refine wpList_load_cb rfl 42 (.tmp 4) rfl _ _ rfl F3.out.s4 Tryz.underlying42 rfl (by kernel_rfl) ?_)
      | (refine wpList_store_cb rfl 42 (.tmp 2) (.tmp 80) rfl w.heap.size (stC st0 (.slice none 0 0)) _ rfl rfl F3.out.r2 rfl (by kernel_rfl) (by kernel_rfl) ?_; intro w9 h9 t9))
    obtain ⟨z1, z2, z3⟩ := F3.out.close t9
    refine bodyPost_ret (results_cb rfl _ _ _ _ rfl h9 Tryz.underlying42 rfl (by kernel_rfl)) rfl ?_
    refine ⟨⟨⟨5, nA, [], [], [], n2, [], t.a⟩, none, 0⟩, rfl, by rw [HS.out]; exact z1, z2, z3, fun zf => ?_⟩
    rw [HS.out]

set_option maxRecDepth 100000 in
set_option maxHeartbeats 8000000 in
theorem cstep6_any {w : World} {g : Nat} {A : Option Addr} {c : Nat} {T : List Tk} {p : PS} (h : RS w g A c T p) (hK : stepK T p = 6) :
    Calls Tryz.prog 91 #[.pointer (some ⟨g, 0, none⟩)] w (StepAt g A c T p w) := by
  obtain ⟨h0, hk1, hko⟩ := step_pre h hK (by decide)
  obtain ⟨t, ht⟩ : ∃ t, p.tok T = t := ⟨_, rfl⟩
  rw [ht] at hk1 hko
  have hgl := h.len
  have ck : ∀ W, Calls Tryz.prog 90 #[.agg #[.int .i64 (t.k : Nat), .string (str t.t), .int .u64 (t.n : Nat), .int .i64 (t.a : Nat), .int .i64 (t.e : Nat)]] W fun e w' => e = .returned (.int .i64 6) ∧ Below W.heap.size W w' := fun W => by
    have := stepKind_any W t
    rw [hko] at this
    exact this
  obtain ⟨q0, nA, hq0⟩ : ∃ q nm, p.next.name T = (q, nm) := ⟨_, _, rfl⟩
  obtain ⟨q1, hq1⟩ : ∃ q, q0.mark T 59 = q := ⟨_, rfl⟩
  have hS : p.step T = (q1, ⟨6, nA, [], [], [], [], [], t.a⟩) := by
    unfold PS.step
    rw [hK]
    dsimp only
    rw [if_neg (by decide), hq0]
    dsimp only
    rw [if_neg (by decide)]
    rw [if_neg (by decide)]
    rw [if_neg (by decide)]
    rw [if_neg (by decide)]
    rw [if_neg (by decide)]
    rw [hq1]
    rw [ht]
  have HS := Lib.hid hS
  have hb1 : Below w.heap.size w (w.alloc (.cells #[.int .i64 0, .string ⟨#[]⟩, .string ⟨#[]⟩, .string ⟨#[]⟩, .string ⟨#[]⟩, .string ⟨#[]⟩, .slice none 0 0, .int .i64 0] 42)) := (Below.refl _ w).alloc (Nat.le_refl _) _
  have hc1 : CB (w.alloc (.cells #[.int .i64 0, .string ⟨#[]⟩, .string ⟨#[]⟩, .string ⟨#[]⟩, .string ⟨#[]⟩, .string ⟨#[]⟩, .slice none 0 0, .int .i64 0] 42)) w.heap.size 42 (stC st0 (.slice none 0 0)) := CB.new w _ _
  have ct := take_parts (h.below hb1) h0 (by rw [ht, hk1]; decide) ht
  have CN : Hid (∀ W, RS W g A c T p.next → Calls Tryz.prog 64 #[.pointer (some ⟨g, 0, none⟩)] W fun e w' => e = .returned (.string (str nA)) ∧ RS w' g A c T q0 ∧ Gn g W w') := fun W hr => by
    have := cname_any hr
    rw [hq0] at this
    exact this
  have START : Hid (∀ w6, RS w6 g A c T q0 → CB w6 w.heap.size 42 (stC st0 (.slice none 0 0)) → Gn g w w6 → SF w (w6.alloc (.cells #[.int .i64 6, .string (str nA), .string ⟨#[]⟩, .string ⟨#[]⟩, .string ⟨#[]⟩, .string ⟨#[]⟩, .slice none 0 0, .int .i64 (t.a : Nat)] 42)) g A c T q0 w.heap.size w6.heap.size ⟨⟨6, nA, [], [], [], [], [], t.a⟩, none, 0⟩) :=
    fun w6 hr hc hg => sf_start hr hc hg hgl (Nat.le_refl _) ⟨⟨6, nA, [], [], [], [], [], t.a⟩, none, 0⟩ ⟨rfl, rfl, rfl⟩
  have hs1 : (w.alloc (.cells #[.int .i64 0, .string ⟨#[]⟩, .string ⟨#[]⟩, .string ⟨#[]⟩, .string ⟨#[]⟩, .string ⟨#[]⟩, .slice none 0 0, .int .i64 0] 42)).heap.size = w.heap.size + 1 := by simp
  clear h hK h0 ht hk1 hko hS
  go_enter Tryz.func91, Tryz.ntmps91
  go_wp2_with (go_at_call 72; refine ct.mono ?_; rintro e w2 ⟨rfl, hr2, hg2⟩; have hg12 := (Gn.of hb1).trans hg2; have hc2 := hc1.keep (hg2.other hc1.len (by omega)); have hb3 : Below w2.heap.size w2 (w2.alloc (.cells #[.int .i64 (t.k : Nat), .string (str t.t), .int .u64 (t.n : Nat), .int .i64 (t.a : Nat), .int .i64 (t.e : Nat)] 84)).drew := Below.thenN ((Below.refl _ w2).alloc (Nat.le_refl _) _) 1; have HT3 : Hid (TBlk (w2.alloc (.cells #[.int .i64 (t.k : Nat), .string (str t.t), .int .u64 (t.n : Nat), .int .i64 (t.a : Nat), .int .i64 (t.e : Nat)] 84)).drew w2.heap.size t) := TBlk.new w2 t; have k3' := HT3.out.cells; have HR3 := Lib.hid (hr2.below hb3); have HC3 := Lib.hid (hc2.below hb3); have HG3 := Lib.hid (hg12.trans (Gn.of hb3)); have hl2 := hc2.len; have hs3 : (w2.alloc (.cells #[.int .i64 (t.k : Nat), .string (str t.t), .int .u64 (t.n : Nat), .int .i64 (t.a : Nat), .int .i64 (t.e : Nat)] 84)).heap.size = w2.heap.size + 1 := (by simp); have HT4 : Hid (TBlk ((w2.alloc (.cells #[.int .i64 (t.k : Nat), .string (str t.t), .int .u64 (t.n : Nat), .int .i64 (t.a : Nat), .int .i64 (t.e : Nat)] 84)).alloc (.cells #[.int .i64 0, .string ⟨#[]⟩, .string ⟨#[]⟩, .string ⟨#[]⟩, .string ⟨#[]⟩, .string ⟨#[]⟩, .slice none 0 0, .int .i64 0] 42)).drew w2.heap.size t) := (TBlk.new w2 t).new_ _; clear hr2 hc2 hg2 hg12)
  go_cut [4] (fun s4 wx => ∃ b4 : Nat, s4 = .pointer (some ⟨b4, 0, none⟩) ∧ Hid (SF w wx g A c T q0 w.heap.size b4 ⟨⟨6, nA, [], [], [], [], [], t.a⟩, none, 0⟩))
  case first =>
    go_region_held3 (fun W => W.cell? ⟨w2.heap.size, 0, none⟩ = some (.int .i64 (t.k : Nat)) ∧ W.cell? ⟨w2.heap.size, 1, none⟩ = some (.string (str t.t)) ∧ W.cell? ⟨w2.heap.size, 2, none⟩ = some (.int .u64 (t.n : Nat)) ∧ W.cell? ⟨w2.heap.size, 3, none⟩ = some (.int .i64 (t.a : Nat)) ∧ W.cell? ⟨w2.heap.size, 4, none⟩ = some (.int .i64 (t.e : Nat))) (first | (with_reducible exact HT3.out.cells) | (with_reducible exact HT5.out.cells) | (with_reducible exact HT6.out.cells) | (with_reducible exact (HT6.out.new_ _).cells) | (with_reducible exact (HT5.out.new_ _).cells) | (with_reducible exact HT4.out.cells) | (with_reducible exact HT8.out.cells) | (with_reducible assumption) | fail)
      (first
        | (go_at_call 90; refine (ck _).mono ?_; rintro e w5 ⟨rfl, hb5⟩; have hb35 : Below (w2.alloc (.cells #[.int .i64 (t.k : Nat), .string (str t.t), .int .u64 (t.n : Nat), .int .i64 (t.a : Nat), .int .i64 (t.e : Nat)] 84)).drew.heap.size (w2.alloc (.cells #[.int .i64 (t.k : Nat), .string (str t.t), .int .u64 (t.n : Nat), .int .i64 (t.a : Nat), .int .i64 (t.e : Nat)] 84)).drew w5 := (by first | (with_reducible exact hb5) | (with_reducible exact below_al2 hb5) | fail); have HT5 := Lib.hid (HT3.out.below hb35); have HR5 := Lib.hid (HR3.out.below hb35); have HC5 := Lib.hid (HC3.out.below hb35); have HG5 := Lib.hid (HG3.out.trans (Gn.of hb35)); first
            | (have HZ5 : Hid (CB w5 (w2.heap.size + 1) 42 (stC st0 (.slice none 0 0))) := (by with_reducible exact cb_after3 hs3 hb5))
            | skip)
        | (go_at_call 64; first
            | (with_reducible refine (CN.out w5 HR5.out).mono ?_)
            | (with_reducible refine (CN.out _ (HR5.out.below ((Below.refl _ w5).alloc (Nat.le_refl _) _))).mono ?_)
            | fail
           rintro e w6 ⟨rfl, hr6, hg6⟩
           have hg56 : Gn g w5 w6 := (by first | (with_reducible exact hg6) | (with_reducible exact (Gn.of ((Below.refl _ w5).alloc (Nat.le_refl _) _)).trans hg6) | fail)
           have HT6 := Lib.hid (HT5.out.keep (hg56.other HT5.out.len (by have := HC5.out.len; omega)))
           have HC6 := Lib.hid (HC5.out.keep (hg56.other HC5.out.len (by omega)))
           have HG6 := Lib.hid (HG5.out.trans hg56)
           have HR6 := Lib.hid hr6
           clear hr6
           first
            | (have HZ6 := Lib.hid (HZ5.out.keep (hg6.other HZ5.out.len (by omega))); have HF := Lib.hid (sf_start3 HR6.out HC6.out HZ6.out HG6.out hgl (Nat.le_refl _) (by omega) (by omega) 6 6 rfl nA t.a); have HT8 := Lib.hid (tb_over HT6.out (b := w2.heap.size + 1) (by omega) (.int .i64 6) (.string (str nA)) (.string ⟨#[]⟩) (.string ⟨#[]⟩) (.string ⟨#[]⟩) (.string ⟨#[]⟩) (.slice none 0 0) (.int .i64 (t.a : Nat))); obtain ⟨⟨z0, z1, z2, z3, z4, z5, z6, z7⟩, y0, y1, y2, y3, y4, y5, y6, y7⟩ := HZ6.out.zst)
            | (have HZ6 : Hid (CB w6 w5.heap.size 42 (stC st0 (.slice none 0 0))) := (by with_reducible exact cb_after2 hg6 HR5.out.len); have HF := Lib.hid (sf_start3 HR6.out HC6.out HZ6.out HG6.out hgl (Nat.le_refl _) HG5.out.size (by have := HC5.out.len; omega) 6 6 rfl nA t.a); have HT8 := Lib.hid (tb_over HT6.out (b := w5.heap.size) (by have := HT5.out.len; omega) (.int .i64 6) (.string (str nA)) (.string ⟨#[]⟩) (.string ⟨#[]⟩) (.string ⟨#[]⟩) (.string ⟨#[]⟩) (.slice none 0 0) (.int .i64 (t.a : Nat))); obtain ⟨⟨z0, z1, z2, z3, z4, z5, z6, z7⟩, y0, y1, y2, y3, y4, y5, y6, y7⟩ := HZ6.out.zst)
            | skip)
        | fail)
    all_goals (go_wp2_with fail; go_meet; first
      | (with_reducible exact ⟨_, rfl, Lib.hid (START.out w6 HR6.out HC6.out HG6.out)⟩)
      | (with_reducible exact ⟨_, rfl, HF⟩)
      | fail)
  case rest =>
    obtain ⟨b4, rfl, F0⟩ := hcut
    have s0 : wc.cell? ⟨b4, 0, none⟩ = some (.int .i64 6) := (F0.out.at_ 0).1
    clear k3' HT3 HR3 HC3 HG3 START CN ck hb3
    go_wp2_with (first
      | (go_at_call 65; (with_reducible refine (sf_mark F0.out 59 hq1).mono ?_); rintro e v1 ⟨rfl, F1⟩)
      | (refine wpList_load_cb rfl 42 (.tmp 4) rfl _ _ rfl F1.out.s4 Tryz.underlying42 rfl (by kernel_rfl) ?_)
      | (refine wpList_store_cb rfl 42 (.tmp 2) (.tmp 80) rfl w.heap.size (stC st0 (.slice none 0 0)) _ rfl rfl F1.out.r2 rfl (by kernel_rfl) (by kernel_rfl) ?_; intro w9 h9 t9))
    obtain ⟨z1, z2, z3⟩ := F1.out.close t9
    refine bodyPost_ret (results_cb rfl _ _ _ _ rfl h9 Tryz.underlying42 rfl (by kernel_rfl)) rfl ?_
    refine ⟨⟨⟨6, nA, [], [], [], [], [], t.a⟩, none, 0⟩, rfl, by rw [HS.out]; exact z1, z2, z3, fun zf => ?_⟩
    rw [HS.out]

theorem cstep_any {w : World} {g : Nat} {A : Option Addr} {c : Nat} {T : List Tk} {p : PS} (h : RS w g A c T p) (hK : stepK T p ≠ 0) : Calls Tryz.prog 91 #[.pointer (some ⟨g, 0, none⟩)] w (StepAt g A c T p w) := by
  have h6 : stepK T p ≤ 6 := by
    unfold stepK
    repeat' split
    all_goals omega
  have hc : stepK T p = 1 ∨ stepK T p = 2 ∨ stepK T p = 3 ∨ stepK T p = 4 ∨ stepK T p = 5 ∨ stepK T p = 6 := by omega
  rcases hc with k | k | k | k | k | k
  · cases hb : (((p.next.name T).1.mark T 58).name T).1.is T 4 [61] with
    | false => exact cstep1_any h k hb
    | true => exact cstep1v_any h k hb
  · exact cstep2_any h k
  · exact cstep3_any h k
  · exact cstep4_any h k
  · exact cstep5_any h k
  · exact cstep6_any h k
end Go.Proofs.YtipcgmaobiobbaaGreatDoor
