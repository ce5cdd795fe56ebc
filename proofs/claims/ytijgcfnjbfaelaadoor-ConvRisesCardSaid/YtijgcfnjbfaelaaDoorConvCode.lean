/- The walk of conv's Apply, and of the text of an int. -/
import Derived.Test.YtijgcfnjbfaelaaDoorConvTab
import Derived.Test.YtijgcfnjbfaelaaDoorConvApply
import Derived.Shelf.Abstract
namespace Go.Proofs.YtijgcfnjbfaelaaDoor
open Go.RowKit

/-- a lesser bound changes what is read only past it -/
theorem rd_with {m : Nat} (hm : m ≤ 18446744073709551615) (l : List UInt8) :
    (rdE 18446744073709551615 l ≠ 0 → rdE m l = rdE 18446744073709551615 l ∧ rdN m l = 0) ∧
    (rdE 18446744073709551615 l = 0 → rdN 18446744073709551615 l ≤ 18446744073709551615 ∧ (rdN 18446744073709551615 l ≤ m → rdE m l = 0 ∧ rdN m l = rdN 18446744073709551615 l) ∧ (m < rdN 18446744073709551615 l → rdE m l = 60 ∧ rdN m l = 0)) := by
  by_cases h : l = [] ∨ allD l = false
  · have a := rd_bad (most := 18446744073709551615) h
    have b := rd_bad (most := m) h
    rw [a.1, a.2, b.1, b.2]
    exact ⟨fun _ => ⟨rfl, rfl⟩, fun e => absurd e (by decide)⟩
  · have h1 : l ≠ [] := fun e => h (.inl e)
    have h2 : allD l = true := by cases q : allD l; exact absurd (.inr q) h; rfl
    by_cases g : dva l ≤ 18446744073709551615
    · have a := rd_good h1 h2 g
      rw [a.1, a.2]
      refine ⟨fun e => absurd rfl e, fun _ => ⟨g, fun q => rd_good h1 h2 q, fun q => rd_big h1 h2 q⟩⟩
    · have a := rd_big h1 h2 (show 18446744073709551615 < dva l by omega)
      have b := rd_big (most := m) h1 h2 (by omega)
      rw [a.1, a.2, b.1, b.2]
      exact ⟨fun _ => ⟨rfl, rfl⟩, fun e => absurd e (by decide)⟩

section
variable (w : World) (k n : Int) (s : ByteArray)
set_option maxRecDepth 100000 in
set_option maxHeartbeats 2000000 in
/-- the text of an int: a sign or none, then digits -/
theorem tint_with (h : CVars w) (l : List UInt8) (b : Bool) (hs : l.length ≤ 140737488355328)
    (cp : ∀ W, Calls Tryd.prog 69 #[.string s, .string ⟨#[45]⟩] W fun e w' => e = .returned (.tuple #[.string (tx l), .bool b]) ∧ w' = W)
    (M : Nat) (hM : M = if b then 9223372036854775808 else 9223372036854775807) :
    Calls Tryd.prog 49 #[.agg #[.int .i64 k, .int .u64 n, .string s]] w (DoAt (if rdE M l = 0 then ⟨0, ((if b then (18446744073709551616 - rdN M l) % 18446744073709551616 else rdN M l : Nat) : Int), ⟨#[]⟩⟩ else v0) (rdE M l) w) := by
  have h2 := two_new w ⟨k, n, s⟩
  have hp : VBlk ((w.alloc (.cells #[.int .i64 k, .int .u64 n, .string s] 24)).alloc (.cells #[.int .i64 0, .int .u64 0, .string ⟨#[]⟩] 24)) w.heap.size ⟨k, n, s⟩ := h2.p
  have hr : VBlk ((w.alloc (.cells #[.int .i64 k, .int .u64 n, .string s] 24)).alloc (.cells #[.int .i64 0, .int .u64 0, .string ⟨#[]⟩] 24)) (w.heap.size + 1) v0 := h2.r
  have hB : Below w.heap.size w ((w.alloc (.cells #[.int .i64 k, .int .u64 n, .string s] 24)).alloc (.cells #[.int .i64 0, .int .u64 0, .string ⟨#[]⟩] 24)) := h2.b
  have HP := Lib.hid hp
  clear h2 hp
  have cn := numof_any (h.below hB) (tx l) (by rw [size_tx]; exact hs)
  have hw := rd_with (m := M) (by subst hM; split <;> decide) l
  rw [show ls (tx l) = l from rfl] at cn
  obtain ⟨N, hN⟩ : ∃ N, rdN 18446744073709551615 l = N := ⟨_, rfl⟩
  obtain ⟨E, hE⟩ : ∃ E, rdE 18446744073709551615 l = E := ⟨_, rfl⟩
  rw [hN, hE] at cn hw
  clear hN hE h
  by_cases g : E = 0
  · subst g
    obtain ⟨hNM, hgood, hbig⟩ := hw.2 rfl
    clear hw
    cases b with
    | true =>
      have hM' : M = 9223372036854775808 := hM
      subst hM'
      clear hM
      have cz := fun W => below0_any W N (by omega)
      by_cases g2 : 9223372036854775808 < N
      · obtain ⟨e1, e2⟩ := hbig g2
        rw [e1, if_neg (by decide)]
        simp only [if_pos g2] at cz
        clear hgood hbig e1 e2
        unfold DoAt at cz ⊢
        go_enter Tryd.func49, Tryd.ntmps49
        go_wp2_with (first
          | (go_at_call 69; refine (cp _).mono ?_; rintro e w' ⟨rfl, rfl⟩)
          | (go_at_call 68; refine cn.mono ?_; rintro e w1 ⟨rfl, hb⟩; have h1 := hr.below hb; have hB1 := hB.trans (hb.mono hB.size))
          | (go_at_call 70; refine (cz _).mono ?_; rintro e w3 ⟨rfl, hb3⟩; have h3 := h1.below hb3; have hB3 := hB1.trans (hb3.mono hB1.size))
          | (refine wpList_store_val rfl (.tmp 2) (.tmp 26) rfl (w.heap.size + 1) v0 v0 rfl rfl h3 ?_; intro w9 h9 t9))
        exact bodyPost_ret (v := .tuple #[.agg (vaC v0), .int .i64 60]) (results_val rfl _ _ _ _ _ rfl rfl h9) rfl ⟨rfl, hB3.trans (t9.below (by omega))⟩
      · obtain ⟨e1, e2⟩ := hgood (by omega)
        rw [e1, e2, if_pos rfl]
        simp only [if_neg g2] at cz
        obtain ⟨z, hz⟩ : ∃ z : Nat, (18446744073709551616 - N) % 18446744073709551616 = z := ⟨_, rfl⟩
        have HZ := Lib.hid hz
        simp only [hz, if_true] at cz ⊢
        clear hgood hbig e1 e2 hz
        unfold DoAt at cz ⊢
        go_enter Tryd.func49, Tryd.ntmps49
        go_wp2_with (first
          | (go_at_call 69; refine (cp _).mono ?_; rintro e w' ⟨rfl, rfl⟩)
          | (go_at_call 68; refine cn.mono ?_; rintro e w1 ⟨rfl, hb⟩; have h1 := hr.below hb; have hB1 := hB.trans (hb.mono hB.size))
          | (go_at_call 70; refine (cz _).mono ?_; rintro e w3 ⟨rfl, hb3⟩; have h3 := h1.below hb3; have hB3 := hB1.trans (hb3.mono hB1.size))
          | (refine wpList_store_val rfl (.tmp 2) (.tmp 26) rfl (w.heap.size + 1) v0 ⟨0, (z : Int), ⟨#[]⟩⟩ rfl rfl h3 ?_; intro w9 h9 t9))
        exact bodyPost_ret (v := .tuple #[.agg (vaC ⟨0, (z : Int), ⟨#[]⟩⟩), .int .i64 0]) (results_val rfl _ _ _ _ _ rfl rfl h9) rfl ⟨rfl, hB3.trans (t9.below (by omega))⟩
    | false =>
      have hM' : M = 9223372036854775807 := hM
      subst hM'
      clear hM
      have cz := fun W => common_any W 0 (N : Int) ⟨#[]⟩ (by decide) (by omega)
      by_cases g2 : 9223372036854775807 < N
      · obtain ⟨e1, e2⟩ := hbig g2
        rw [e1, if_neg (by decide)]
        simp only [if_pos (show (9223372036854775808 : Int) ≤ (N : Int) by omega)] at cz
        clear hgood hbig e1 e2
        unfold DoAt at cz ⊢
        go_enter Tryd.func49, Tryd.ntmps49
        go_wp2_with (first
          | (go_at_call 69; refine (cp _).mono ?_; rintro e w' ⟨rfl, rfl⟩)
          | (go_at_call 68; refine cn.mono ?_; rintro e w1 ⟨rfl, hb⟩; have h1 := hr.below hb; have hB1 := hB.trans (hb.mono hB.size))
          | (go_at_call 44; refine (cz _).mono ?_; rintro e w3 ⟨rfl, hb3⟩; have h3 := h1.below hb3; have hB3 := hB1.trans (hb3.mono hB1.size))
          | (refine wpList_store_val rfl (.tmp 2) (.tmp 31) rfl (w.heap.size + 1) v0 v0 rfl rfl h3 ?_; intro w9 h9 t9))
        exact bodyPost_ret (v := .tuple #[.agg (vaC v0), .int .i64 60]) (results_val rfl _ _ _ _ _ rfl rfl h9) rfl ⟨rfl, hB3.trans (t9.below (by omega))⟩
      · obtain ⟨e1, e2⟩ := hgood (by omega)
        rw [e1, e2, if_pos rfl]
        simp only [if_neg (show ¬ (9223372036854775808 : Int) ≤ (N : Int) by omega)] at cz
        try simp only [Bool.false_eq_true, if_false]
        clear hgood hbig e1 e2
        unfold DoAt at cz ⊢
        go_enter Tryd.func49, Tryd.ntmps49
        go_wp2_with (first
          | (go_at_call 69; refine (cp _).mono ?_; rintro e w' ⟨rfl, rfl⟩)
          | (go_at_call 68; refine cn.mono ?_; rintro e w1 ⟨rfl, hb⟩; have h1 := hr.below hb; have hB1 := hB.trans (hb.mono hB.size))
          | (go_at_call 44; refine (cz _).mono ?_; rintro e w3 ⟨rfl, hb3⟩; have h3 := h1.below hb3; have hB3 := hB1.trans (hb3.mono hB1.size))
          | (refine wpList_store_val rfl (.tmp 2) (.tmp 31) rfl (w.heap.size + 1) v0 ⟨0, (N : Int), ⟨#[]⟩⟩ rfl rfl h3 ?_; intro w9 h9 t9))
        exact bodyPost_ret (v := .tuple #[.agg (vaC ⟨0, (N : Int), ⟨#[]⟩⟩), .int .i64 0]) (results_val rfl _ _ _ _ _ rfl rfl h9) rfl ⟨rfl, hB3.trans (t9.below (by omega))⟩
  · obtain ⟨e1, _⟩ := hw.1 g
    rw [e1, if_neg g]
    have gb : (E != 0) = true := by simpa using g
    clear hw e1
    unfold DoAt
    go_enter Tryd.func49, Tryd.ntmps49
    go_wp2_with (first
      | (go_at_call 69; refine (cp _).mono ?_; rintro e w' ⟨rfl, rfl⟩)
      | (go_at_call 68; refine cn.mono ?_; rintro e w1 ⟨rfl, hb⟩; have h1 := hr.below hb; have hB1 := hB.trans (hb.mono hB.size))
      | (refine wpList_store_val rfl (.tmp 2) (.tmp 21) rfl (w.heap.size + 1) v0 v0 rfl rfl h1 ?_; intro w9 h9 t9))
    exact bodyPost_ret (v := .tuple #[.agg (vaC v0), .int .i64 E]) (results_val rfl _ _ _ _ _ rfl rfl h9) rfl ⟨rfl, hB1.trans (t9.below (by omega))⟩
theorem tint_any (h : CVars w) (hs : s.size ≤ 140737488355328) : Calls Tryd.prog 49 #[.agg #[.int .i64 k, .int .u64 n, .string s]] w (DoAt (if riE (ls s) = 0 then ⟨0, (riN (ls s) : Nat), ⟨#[]⟩⟩ else v0) (riE (ls s)) w) := by
  have cp := fun W => Tryd.strings_CutPrefix s ⟨#[45]⟩ W
  rw [show (⟨#[45]⟩ : ByteArray).data.toList = [45] from rfl, show s.data.toList = ls s from rfl] at cp
  have hl := size_ls s
  by_cases g : ∃ t, ls s = 45 :: t
  · obtain ⟨t, ht⟩ := g
    rw [ht] at cp hl ⊢
    rw [(ri_minus t).1, (ri_minus t).2]
    have e1 : Lib.hasPrefix (45 :: t) [45] = true := by simp [Lib.hasPrefix]
    have e2 : Lib.trimPrefix (45 :: t) [45] = t := by unfold Lib.trimPrefix; rw [e1]; rfl
    rw [e1, e2] at cp
    exact tint_with w k n s h t true (by rw [List.length_cons] at hl; omega) cp _ rfl
  · have hp := ri_plain (l := ls s) fun t e => g ⟨t, e⟩
    rw [hp.1, hp.2]
    have e1 : Lib.hasPrefix (ls s) [45] = false := by
      unfold Lib.hasPrefix
      cases q : ls s with
      | nil => rfl
      | cons b t =>
        have hb : ¬ (45 : UInt8) = b := fun e => g ⟨t, by rw [q, e]⟩
        show ((45 : UInt8) == b && ([] : List UInt8).isPrefixOf t) = false
        rw [beq_eq_false_iff_ne.2 hb, Bool.false_and]
    have e2 : Lib.trimPrefix (ls s) [45] = ls s := by unfold Lib.trimPrefix; rw [e1]; rfl
    rw [e1, e2] at cp
    exact tint_with w k n s h (ls s) false (by omega) cp _ rfl
end

section
variable {w0 w : World}
set_option maxRecDepth 100000 in
set_option maxHeartbeats 2000000 in
/-- Apply of what isn't taken -/
theorem capp_bad (h : CSt w0 w) (m k n : Int) (s : ByteArray) (hf : Fits ⟨k, n, s⟩) (hs : s.size ≤ 140737488355328) (hg : ¬ (1 ≤ m ∧ m ≤ 12) ∨ (1 ≤ m ∧ m ≤ 12 ∧ k ≠ cfr m) ∨ (1 ≤ m ∧ m ≤ 12 ∧ k = cfr m ∧ okV ⟨k, n, s⟩ = false)) :
    Calls Tryd.prog 11 #[.int .i64 m, .agg #[.int .i64 k, .int .u64 n, .string s]] w (CappAt m ⟨k, n, s⟩ w) := by
  have h2 := two_new w ⟨k, n, s⟩
  have hp : VBlk ((w.alloc (.cells #[.int .i64 k, .int .u64 n, .string s] 24)).alloc (.cells #[.int .i64 0, .int .u64 0, .string ⟨#[]⟩] 24)) w.heap.size ⟨k, n, s⟩ := h2.p
  have hr : VBlk ((w.alloc (.cells #[.int .i64 k, .int .u64 n, .string s] 24)).alloc (.cells #[.int .i64 0, .int .u64 0, .string ⟨#[]⟩] 24)) (w.heap.size + 1) v0 := h2.r
  have hB : Below w.heap.size w ((w.alloc (.cells #[.int .i64 k, .int .u64 n, .string s] 24)).alloc (.cells #[.int .i64 0, .int .u64 0, .string ⟨#[]⟩] 24)) := h2.b
  have HP := Lib.hid hp
  clear h2 hp
  have HC : Hid (capp m ⟨k, n, s⟩ = (1, v0)) := capp_no fun q => by
    rcases hg with g | g | g
    · exact g ⟨q.1, q.2.1⟩
    · exact g.2.2 q.2.2.2
    · rw [g.2.2.2] at q; exact absurd q.2.2.1 (by decide)
  have hc := h.then_ hB
  have cf := find_any hc.k.k m
  have cv : ∀ W, CSt w0 W → Calls Tryd.prog 23 #[.agg #[.int .i64 k, .int .u64 n, .string s]] W fun e w' => e = .returned (.bool (okV ⟨k, n, s⟩)) ∧ Below W.heap.size W w' := fun W hW =>
    (kvalid_any hW.k.self ⟨k, n, s⟩ hf hs).mono fun _ _ ⟨a, b⟩ => ⟨a, b.below⟩
  clear h
  rcases hg with g | ⟨g1, g2, g⟩ | ⟨g1, g2, g, gv⟩
  · rw [decide_eq_false g] at cf
    clear hc cv g
    go_enter Tryd.func11, Tryd.ntmps11
    go_wp2_with (first
      | (go_at_call 29; refine cf.mono ?_; rintro e w1 ⟨rfl, hb⟩; have hr1 := (hr.below hb).new_ (.cells (cvC 0) 50); have hp1 := (HP.out.below hb).new_ (.cells (cvC 0) 50); have hc1 := CBlk.new w1 0; have hB1 := (hB.trans (hb.mono hB.size)).alloc (o := .cells (cvC 0) 50) (by have := hb.size; have := hB.size; omega))
      | (refine wpList_store_cv rfl (.tmp 6) (.tmp 13) rfl w1.heap.size 0 m rfl rfl hc1 ?_; intro w2 hc2 t2; have hr2 := hr1.keep (t2.others _ (by have := hr.len; have := hb.size; omega)); have hB2 := hB1.trans (t2.below (by have := hb.size; have := hB.size; omega)))
      | (refine wpList_store_val rfl (.tmp 4) (.tmp 29) rfl (w.heap.size + 1) v0 v0 rfl rfl hr2 ?_; intro w9 h9 t9))
    exact bodyPost_ret (v := .tuple #[.agg (vaC v0), .int .i64 1]) (results_val rfl _ _ _ _ _ rfl rfl h9) rfl (capp_at HC.out (hB2.trans (t9.below (by omega))))
  · rw [decide_eq_true ⟨g1, g2⟩] at cf
    obtain ⟨F, hF⟩ : ∃ F, cfr m = F := ⟨_, rfl⟩
    rw [hF] at g
    have gb : (k != F) = true := by simpa using g
    have HF := Lib.hid hF
    clear hc cv g g1 g2 hF
    go_enter Tryd.func11, Tryd.ntmps11
    go_wp2_with (first
      | (go_at_call 29; refine cf.mono ?_; rintro e w1 ⟨rfl, hb⟩; have hr1 := (hr.below hb).new_ (.cells (cvC 0) 50); have hp1 := (HP.out.below hb).new_ (.cells (cvC 0) 50); have hc1 := CBlk.new w1 0; have hB1 := (hB.trans (hb.mono hB.size)).alloc (o := .cells (cvC 0) 50) (by have := hb.size; have := hB.size; omega))
      | (refine wpList_store_cv rfl (.tmp 6) (.tmp 13) rfl w1.heap.size 0 m rfl rfl hc1 ?_; intro w2 hc2 t2; have hr2 := hr1.keep (t2.others _ (by have := hr.len; have := hb.size; omega)); have hp2 := hp1.keep (t2.others _ (by have := hr.len; have := hb.size; omega)); obtain ⟨p0, p1, p2⟩ := hp2.cells; dsimp only at p0 p1 p2; obtain ⟨q0, q1, q2, q3⟩ := hc2.cells; rw [HF.out] at q0; have hB2 := hB1.trans (t2.below (by have := hb.size; have := hB.size; omega)))
      | (refine wpList_store_val rfl (.tmp 4) (.tmp 29) rfl (w.heap.size + 1) v0 v0 rfl rfl hr2 ?_; intro w9 h9 t9))
    exact bodyPost_ret (v := .tuple #[.agg (vaC v0), .int .i64 1]) (results_val rfl _ _ _ _ _ rfl rfl h9) rfl (capp_at HC.out (hB2.trans (t9.below (by omega))))
  · rw [decide_eq_true ⟨g1, g2⟩] at cf
    rw [gv] at cv
    have HF := Lib.hid g.symm
    have HCC := Lib.hid hc
    have HV := Lib.hid cv
    clear g g1 g2 gv hc cv
    go_enter Tryd.func11, Tryd.ntmps11
    go_wp2_with (first
      | (go_at_call 29; refine cf.mono ?_; rintro e w1 ⟨rfl, hb⟩; have hr1 := (hr.below hb).new_ (.cells (cvC 0) 50); have hp1 := (HP.out.below hb).new_ (.cells (cvC 0) 50); have hc1 := CBlk.new w1 0; have hB1 := (hB.trans (hb.mono hB.size)).alloc (o := .cells (cvC 0) 50) (by have := hb.size; have := hB.size; omega))
      | (refine wpList_store_cv rfl (.tmp 6) (.tmp 13) rfl w1.heap.size 0 m rfl rfl hc1 ?_; intro w2 hc2 t2; have hr2 := hr1.keep (t2.others _ (by have := hr.len; have := hb.size; omega)); have hp2 := hp1.keep (t2.others _ (by have := hr.len; have := hb.size; omega)); obtain ⟨p0, p1, p2⟩ := hp2.cells; dsimp only at p0 p1 p2; obtain ⟨q0, q1, q2, q3⟩ := hc2.cells; rw [HF.out] at q0; have hB2 := hB1.trans (t2.below (by have := hb.size; have := hB.size; omega)); have cv2 := HV.out w2 ((HCC.out.then_ hb).then_ (((Below.refl w1.heap.size w1).alloc (Nat.le_refl _) (.cells (cvC 0) 50)).trans (t2.below (Nat.le_refl _)))))
      | (refine wpList_load_val rfl (.tmp 3) rfl w.heap.size ⟨k, n, s⟩ rfl hp2 ?_)
      | (go_at_call 23; refine cv2.mono ?_; rintro e w3 ⟨rfl, hb3⟩; have hr3 := hr2.below hb3; have hB3 := hB2.trans (hb3.mono hB2.size))
      | (refine wpList_store_val rfl (.tmp 4) (.tmp 29) rfl (w.heap.size + 1) v0 v0 rfl rfl hr3 ?_; intro w9 h9 t9))
    exact bodyPost_ret (v := .tuple #[.agg (vaC v0), .int .i64 1]) (results_val rfl _ _ _ _ _ rfl rfl h9) rfl (capp_at HC.out (hB3.trans (t9.below (by omega))))

/-- a value's kind stored into its block -/
theorem VBlk.setK {w : World} {g : Nat} {v : Val} (h : VBlk w g v) (z : Int) : VBlk (w.setCell ⟨g, 0, none⟩ (.int .i64 z)) g ⟨z, v.n, v.s⟩ := heap_setCell_same w g 0 _ _ (.int .i64 z) h
theorem wpList_store_valK {ops : Array Oper} {rest : List Oper} {op : Oper} {a : Act} {w : World} {Q : Exit → Act → World → Prop} (hgd : op.guard = none) (x y : Operand) (ho : op.op = .store 3 x y)
    (g : Nat) (v : Val) (z : Int) (hx : a.eval x = .pointer (some ⟨g, 0, none⟩)) (hy : a.eval y = .int .i64 z) (hB : VBlk w g v)
    (h : ∀ w2, VBlk w2 g ⟨z, v.n, v.s⟩ → Turned g w w2 → wpList Tryd.prog ops Q rest (a.put op.dst undef) w2) : wpList Tryd.prog ops Q (op :: rest) a w :=
  wpList_store_one hgd 3 x y ho g 0 _ hx hy rfl rfl (hB.part (by decide)) (by kernel_rfl) (h _ (hB.setK z) ((Turned.refl g w).setCell 0 _))

set_option maxRecDepth 100000 in
set_option maxHeartbeats 4000000 in
/-- Apply of what is taken: what the conversion's own function makes -/
theorem capp_good (h : CSt w0 w) (m k n : Int) (s : ByteArray) (hf : Fits ⟨k, n, s⟩) (hs : s.size ≤ 140737488355328) (g1 : 1 ≤ m) (g2 : m ≤ 12) (g : k = cfr m) (gv : okV ⟨k, n, s⟩ = true)
    (fn : FuncId) (hfn : doF m = .func (.func fn) #[] #[]) (hen : ∀ args w, (callFunc fn args).run Tryd.prog w = .ok (.enter fn args) w) (X : Val) (E : Int)
    (cd : ∀ W, CSt w0 W → Calls Tryd.prog fn #[.agg #[.int .i64 k, .int .u64 n, .string s]] W (DoAt X E W)) :
    Calls Tryd.prog 11 #[.int .i64 m, .agg #[.int .i64 k, .int .u64 n, .string s]] w fun e w' => e = .returned (.tuple #[.agg (vaC (if E = 0 then ⟨cto m, X.n, X.s⟩ else v0)), .int .i64 E]) ∧ Below w.heap.size w w' := by
  have h2 := two_new w ⟨k, n, s⟩
  have hp : VBlk ((w.alloc (.cells #[.int .i64 k, .int .u64 n, .string s] 24)).alloc (.cells #[.int .i64 0, .int .u64 0, .string ⟨#[]⟩] 24)) w.heap.size ⟨k, n, s⟩ := h2.p
  have hr : VBlk ((w.alloc (.cells #[.int .i64 k, .int .u64 n, .string s] 24)).alloc (.cells #[.int .i64 0, .int .u64 0, .string ⟨#[]⟩] 24)) (w.heap.size + 1) v0 := h2.r
  have hB : Below w.heap.size w ((w.alloc (.cells #[.int .i64 k, .int .u64 n, .string s] 24)).alloc (.cells #[.int .i64 0, .int .u64 0, .string ⟨#[]⟩] 24)) := h2.b
  have HP := Lib.hid hp
  clear h2 hp
  have hc := h.then_ hB
  have cf := find_any hc.k.k m
  have cv : ∀ W, CSt w0 W → Calls Tryd.prog 23 #[.agg #[.int .i64 k, .int .u64 n, .string s]] W fun e w' => e = .returned (.bool true) ∧ Below W.heap.size W w' := fun W hW => by
    have c0 := kvalid_any hW.k.self ⟨k, n, s⟩ hf hs
    rw [gv] at c0
    exact c0.mono fun _ _ ⟨a, b⟩ => ⟨a, b.below⟩
  rw [decide_eq_true ⟨g1, g2⟩] at cf
  obtain ⟨T, hT⟩ : ∃ T, cto m = T := ⟨_, rfl⟩
  rw [hT]
  have HF := Lib.hid g.symm
  have HT := Lib.hid hT
  have HFN := Lib.hid hfn
  have HCC := Lib.hid hc
  have HV := Lib.hid cv
  have HD := Lib.hid cd
  have hlen := hr.len
  have hBs := hB.size
  clear h g g1 g2 gv hc cv hfn cd hT
  by_cases gE : E = 0
  · subst gE
    rw [if_pos rfl]
    go_enter Tryd.func11, Tryd.ntmps11
    go_wp2_with (first
      | (go_at_call 29; refine cf.mono ?_; rintro e w1 ⟨rfl, hb⟩; have hr1 := (hr.below hb).new_ (.cells (cvC 0) 50); have hp1 := (HP.out.below hb).new_ (.cells (cvC 0) 50); have hc1 := CBlk.new w1 0; have hbs := hb.size; have hB1 := (hB.trans (hb.mono hB.size)).alloc (o := .cells (cvC 0) 50) (by omega))
      | (refine wpList_store_cv rfl (.tmp 6) (.tmp 13) rfl w1.heap.size 0 m rfl rfl hc1 ?_; intro w2 hc2 t2; have hr2 := hr1.keep (t2.others _ (by omega)); have hp2 := hp1.keep (t2.others _ (by omega)); obtain ⟨p0, p1, p2⟩ := hp2.cells; dsimp only at p0 p1 p2; obtain ⟨q0, q1, q2, q3⟩ := hc2.cells; rw [HF.out] at q0; have hB2 := hB1.trans (t2.below (by omega)); have k2 := ((HCC.out.then_ hb).then_ (((Below.refl w1.heap.size w1).alloc (Nat.le_refl _) (.cells (cvC 0) 50)).trans (t2.below (Nat.le_refl _)))); have cv2 := HV.out w2 k2)
      | (go_at_call 23; refine cv2.mono ?_; rintro e w3 ⟨rfl, hb3⟩; have hr3 := hr2.below hb3; have hp3 := hp2.below hb3; have hc3 := hc2.below hb3; obtain ⟨z0, z1, z2, z3⟩ := hc3.cells; rw [HFN.out] at z3; have hB3 := hB2.trans (hb3.mono hB2.size); have cd3 := HD.out w3 (k2.then_ hb3))
      | (refine wpList_load_val rfl (.tmp 3) rfl w.heap.size ⟨k, n, s⟩ rfl (by first | exact hp3 | exact hp2) ?_)
      | (go_at_fn fn; refine cd3.mono ?_; rintro e w4 ⟨rfl, hb4⟩; have hr4 := (hr3.below hb4).new_ (.cells (vaC v0) 24); have hc4 := (hc3.below hb4).new_ (.cells (vaC v0) 24); have hx4 := VBlk.new w4 v0; have h4r := (hr3.below hb4).len; have h4c := (hc3.below hb4).len; have hB4 := (hB3.trans (hb4.mono hB3.size)).alloc (o := .cells (vaC v0) 24) (by omega))
      | (refine wpList_store_val rfl (.tmp 8) (.tmp 35) rfl w4.heap.size v0 X rfl rfl hx4 ?_; intro w5 hx5 t5; have hr5 := hr4.keep (t5.others _ (by omega)); have hc5 := hc4.keep (t5.others _ (by omega)); obtain ⟨y0, y1, y2, y3⟩ := hc5.cells; rw [HT.out] at y1; have hB5 := hB4.trans (t5.below (by omega)))
      | (refine wpList_store_valK rfl (.tmp 43) (.tmp 42) rfl w4.heap.size X T rfl rfl hx5 ?_; intro w6 hx6 t6; have hr6 := hr5.keep (t6.others _ (by omega)); have hB6 := hB5.trans (t6.below (by omega)))
      | (refine wpList_load_val rfl (.tmp 8) rfl w4.heap.size ⟨T, X.n, X.s⟩ rfl hx6 ?_)
      | (refine wpList_store_val rfl (.tmp 4) (.tmp 44) rfl (w.heap.size + 1) v0 ⟨T, X.n, X.s⟩ rfl rfl hr6 ?_; intro w9 h9 t9))
    exact bodyPost_ret (v := .tuple #[.agg (vaC ⟨T, X.n, X.s⟩), .int .i64 0]) (results_val rfl _ _ _ _ _ rfl rfl h9) rfl ⟨rfl, hB6.trans (t9.below (by omega))⟩
  · rw [if_neg gE]
    have gb : (E != 0) = true := by simpa using gE
    go_enter Tryd.func11, Tryd.ntmps11
    go_wp2_with (first
      | (go_at_call 29; refine cf.mono ?_; rintro e w1 ⟨rfl, hb⟩; have hr1 := (hr.below hb).new_ (.cells (cvC 0) 50); have hp1 := (HP.out.below hb).new_ (.cells (cvC 0) 50); have hc1 := CBlk.new w1 0; have hbs := hb.size; have hB1 := (hB.trans (hb.mono hB.size)).alloc (o := .cells (cvC 0) 50) (by omega))
      | (refine wpList_store_cv rfl (.tmp 6) (.tmp 13) rfl w1.heap.size 0 m rfl rfl hc1 ?_; intro w2 hc2 t2; have hr2 := hr1.keep (t2.others _ (by omega)); have hp2 := hp1.keep (t2.others _ (by omega)); obtain ⟨p0, p1, p2⟩ := hp2.cells; dsimp only at p0 p1 p2; obtain ⟨q0, q1, q2, q3⟩ := hc2.cells; rw [HF.out] at q0; have hB2 := hB1.trans (t2.below (by omega)); have k2 := ((HCC.out.then_ hb).then_ (((Below.refl w1.heap.size w1).alloc (Nat.le_refl _) (.cells (cvC 0) 50)).trans (t2.below (Nat.le_refl _)))); have cv2 := HV.out w2 k2)
      | (go_at_call 23; refine cv2.mono ?_; rintro e w3 ⟨rfl, hb3⟩; have hr3 := hr2.below hb3; have hp3 := hp2.below hb3; have hc3 := hc2.below hb3; obtain ⟨z0, z1, z2, z3⟩ := hc3.cells; rw [HFN.out] at z3; have hB3 := hB2.trans (hb3.mono hB2.size); have cd3 := HD.out w3 (k2.then_ hb3))
      | (refine wpList_load_val rfl (.tmp 3) rfl w.heap.size ⟨k, n, s⟩ rfl (by first | exact hp3 | exact hp2) ?_)
      | (go_at_fn fn; refine cd3.mono ?_; rintro e w4 ⟨rfl, hb4⟩; have hr4 := (hr3.below hb4).new_ (.cells (vaC v0) 24); have hx4 := VBlk.new w4 v0; have h4r := (hr3.below hb4).len; have hB4 := (hB3.trans (hb4.mono hB3.size)).alloc (o := .cells (vaC v0) 24) (by omega))
      | (refine wpList_store_val rfl (.tmp 8) (.tmp 35) rfl w4.heap.size v0 X rfl rfl hx4 ?_; intro w5 hx5 t5; have hr5 := hr4.keep (t5.others _ (by omega)); have hB5 := hB4.trans (t5.below (by omega)))
      | (refine wpList_store_val rfl (.tmp 4) (.tmp 39) rfl (w.heap.size + 1) v0 v0 rfl rfl hr5 ?_; intro w9 h9 t9))
    exact bodyPost_ret (v := .tuple #[.agg (vaC v0), .int .i64 E]) (results_val rfl _ _ _ _ _ rfl rfl h9) rfl ⟨rfl, hB5.trans (t9.below (by omega))⟩

theorem fits_of {v : Val} (h : Fit64 v) : Fits v := h
/-- what Apply answers, by the table's rows -/
theorem capply_any (h : CSt w0 w) (m : Int) (v : Val) (hf : Fit64 v) (hs : v.s.size ≤ 140737488355328) : Calls Tryd.prog 11 #[.int .i64 m, .agg (vaC v)] w (CappAt m v w) := by
  obtain ⟨k, n, s⟩ := v
  show Calls Tryd.prog 11 #[.int .i64 m, .agg #[.int .i64 k, .int .u64 n, .string s]] w (CappAt m ⟨k, n, s⟩ w)
  by_cases g : 1 ≤ m ∧ m ≤ 12
  rotate_left
  · exact capp_bad h m k n s (fits_of hf) hs (.inl g)
  by_cases gk : k = cfr m
  rotate_left
  · exact capp_bad h m k n s (fits_of hf) hs (.inr (.inl ⟨g.1, g.2, gk⟩))
  cases gv : okV ⟨k, n, s⟩ with
  | false => exact capp_bad h m k n s (fits_of hf) hs (.inr (.inr ⟨g.1, g.2, gk, gv⟩))
  | true =>
    have hy := capp_yes (n := m) (v := ⟨k, n, s⟩) ⟨g.1, g.2, gv, gk⟩
    have fin : ∀ {X : Val} {E : Int}, cap m ⟨k, n, s⟩ = (E, if E = 0 then ⟨cto m, X.n, X.s⟩ else v0) →
        Calls Tryd.prog 11 #[.int .i64 m, .agg #[.int .i64 k, .int .u64 n, .string s]] w (fun e w' => e = .returned (.tuple #[.agg (vaC (if E = 0 then ⟨cto m, X.n, X.s⟩ else v0)), .int .i64 E]) ∧ Below w.heap.size w w') →
        Calls Tryd.prog 11 #[.int .i64 m, .agg #[.int .i64 k, .int .u64 n, .string s]] w (CappAt m ⟨k, n, s⟩ w) := fun hX hc => hc.mono fun e w' ⟨a, b⟩ => by
      rw [a]; exact capp_at (hy.trans hX) b
    have n0 : 0 ≤ n := hf.1
    have n1 : n < 18446744073709551616 := by have q : n ≤ 18446744073709551615 := hf.2; omega
    have hs' : s.size ≤ 140737488355328 := hs
    have good := capp_good h m k n s (fits_of hf) hs g.1 g.2 gk gv
    rcases twelve g.1 g.2 with rfl | rfl | rfl | rfl | rfl | rfl | rfl | rfl | rfl | rfl | rfl | rfl
    · refine fin ?_ (good 44 rfl (enters_of Tryd.func44 (by kernel_rfl) rfl) _ _ fun W _ => common_any W k n s hs' n0)
      have e := ok_num0 gv (.inl gk)
      rw [cap1]
      dsimp only at e ⊢
      by_cases q : 9223372036854775808 ≤ n
      · simp only [if_pos q]; rfl
      · simp only [if_neg q]; rw [e]; rfl
    · refine fin ?_ (good 44 rfl (enters_of Tryd.func44 (by kernel_rfl) rfl) _ _ fun W _ => common_any W k n s hs' n0)
      have e := ok_num0 gv (.inr gk)
      rw [cap2]
      dsimp only at e ⊢
      by_cases q : 9223372036854775808 ≤ n
      · simp only [if_pos q]; rfl
      · simp only [if_neg q]; rw [e]; rfl
    · refine fin ?_ (good 46 rfl (enters_of Tryd.func46 (by kernel_rfl) rfl) _ _ fun W hW => utext_any W k n s hW.v n0 n1)
      rw [cap3]; rfl
    · refine fin ?_ (good 47 rfl (enters_of Tryd.func47 (by kernel_rfl) rfl) _ _ fun W hW => itext_any W k n s hW.v n0 n1)
      rw [cap4]; rfl
    · refine fin ?_ (good 48 rfl (enters_of Tryd.func48 (by kernel_rfl) rfl) _ _ fun W hW => tuint_any W k n s hW.v hs')
      rw [cap5]
      dsimp only
      by_cases q : rdE 18446744073709551615 (ls s) = 0
      · rw [if_pos q, if_pos q, q]; rfl
      · rw [if_neg q, if_neg q]
    · refine fin ?_ (good 49 rfl (enters_of Tryd.func49 (by kernel_rfl) rfl) _ _ fun W hW => tint_any W k n s hW.v hs')
      rw [cap6]
      dsimp only
      by_cases q : riE (ls s) = 0
      · simp only [if_pos q]; rw [q]; rfl
      · simp only [if_neg q]
    · refine fin ?_ (good 51 rfl (enters_of Tryd.func51 (by kernel_rfl) rfl) _ _ fun W _ => btext_any W k n s (by have : n ≤ 1 := (ok_bool gv gk).1; omega))
      rw [cap7]; rfl
    · refine fin ?_ (good 52 rfl (enters_of Tryd.func52 (by kernel_rfl) rfl) _ _ fun W _ => tbool_any W k n s)
      rw [cap8]
      dsimp only [tbN, tbE]
      by_cases q : ls s = bTrue
      · simp only [if_pos q]; rfl
      · by_cases q2 : ls s = bFalse
        · simp only [if_neg q, if_pos q2]; rfl
        · simp only [if_neg q, if_neg q2]; rfl
    · refine fin ?_ (good 53 rfl (enters_of Tryd.func53 (by kernel_rfl) rfl) _ _ fun W _ => same_any W k n s hs')
      have e := (ok_bool gv gk).2
      rw [cap9]
      dsimp only at e ⊢
      rw [e]; rfl
    · refine fin ?_ (good 54 rfl (enters_of Tryd.func54 (by kernel_rfl) rfl) _ _ fun W _ => ubool_any W k n s hs' n0)
      have e := ok_num0 gv (.inl gk)
      rw [cap10]
      dsimp only at e ⊢
      by_cases q : 1 < n
      · simp only [if_pos q]; rfl
      · simp only [if_neg q]; rw [e]; rfl
    · refine fin ?_ (good 53 rfl (enters_of Tryd.func53 (by kernel_rfl) rfl) _ _ fun W _ => same_any W k n s hs')
      have e := (ok_text gv gk).1
      rw [cap11]
      dsimp only at e ⊢
      rw [e]; rfl
    · refine fin ?_ (good 56 rfl (enters_of Tryd.func56 (by kernel_rfl) rfl) _ _ fun W hW => btx_any W k n s hW.k hs')
      have e := ok_byts gv gk
      rw [cap12]
      dsimp only at e ⊢
      by_cases q : okL (ls s) = true
      · simp only [if_pos q]; rw [e]; rfl
      · simp only [if_neg q]; rfl
end
end Go.Proofs.YtijgcfnjbfaelaaDoor
