/- The walks of conv's small functions: digits looked at, read, and what each conversion makes of a value. -/
import Derived.Test.YtijgcfnjbfaelaaDoorConvLib
import Derived.Test.YtijgcfnjbfaelaaDoorConvRead
import Derived.Test.YtijgcfnjbfaelaaDoorKindVal
import Derived.Test.YtijgcfnjbfaelaaDoorUtfValid
import Derived.Deep.RegionHeld3
import Derived.Lib.SmallJoins
namespace Go.Proofs.YtijgcfnjbfaelaaDoor
open Go.RowKit

theorem parse_below {w w' : World} {T : TypeId} {s : ByteArray} (h : w' = w ∨ w' = Lib.bytesWorld w T s) : Below w.heap.size w w' := by
  rcases h with rfl | rfl
  · exact Below.refl _ _
  · exact Go.Joins.below_bytesWorld _ _ _ _ (Nat.le_refl _)
theorem utfv_any {w0 w : World} (h : KSt w0 w) (s : ByteArray) (hs : s.size ≤ 140737488355328) : Calls Tryd.prog 36 #[.string s] w fun e w' => e = .returned (.bool (okL (ls s))) ∧ Below w.heap.size w w' :=
  (valid_any h.self.st s hs).mono fun _ _ ⟨a, b⟩ => ⟨a, b.below⟩
/-- a value and no error, or none and one -/
def DoAt (x : Val) (E : Int) (w : World) (e : Ending) (w' : World) : Prop := e = .returned (.tuple #[.agg (vaC x), .int .i64 E]) ∧ Below w.heap.size w w'
/-- the argument in a block of its own, behind it the result's -/
structure TwoB (w W : World) (v : Val) : Prop where
  p : VBlk W w.heap.size v
  r : VBlk W (w.heap.size + 1) v0
  b : Below w.heap.size w W
theorem two_new (w : World) (v : Val) : TwoB w ((w.alloc (.cells (vaC v) 24)).alloc (.cells #[.int .i64 0, .int .u64 0, .string ⟨#[]⟩] 24)) v := by
  refine ⟨(VBlk.new w v).new_ _, ?_, ((Below.refl _ _).alloc (Nat.le_refl _) _).alloc (by simp) _⟩
  have := VBlk.new (w.alloc (.cells (vaC v) 24)) v0
  rw [show (w.alloc (.cells (vaC v) 24)).heap.size = w.heap.size + 1 by simp] at this
  exact this

set_option maxRecDepth 100000 in
set_option maxHeartbeats 1000000 in
theorem digits_any (w : World) (s : ByteArray) (hs : s.size ≤ 140737488355328) :
    Calls Tryd.prog 80 #[.string s] w fun e w' => e = .returned (.bool (decide (ls s ≠ []) && allD (ls s))) ∧ w' = w := by
  have hl : (ls s).length = s.size := (Go.Lib.size_eq s).symm
  obtain ⟨V, hV⟩ : ∃ V, (decide (ls s ≠ []) && allD (ls s)) = V := ⟨_, rfl⟩
  rw [hV]
  have HL := Lib.hid hl
  have HV := Lib.hid hV
  clear hl hV
  go_enter Tryd.func80, Tryd.ntmps80
  go_wp2
  go_loop [6] (fun i => ∃ k : Nat, i = .int .i64 k ∧ k ≤ s.size ∧ Hid (allD ((ls s).take k) = true)) (fun i => s.size - (intOf i).toNat)
  case atStart => exact ⟨0, rfl, Nat.zero_le _, rfl⟩
  case round =>
    obtain ⟨k, rfl, hk, HA⟩ := hrel
    by_cases hlt : k < s.size
    · have hltz : (k : Int) < (s.size : Int) := by omega
      obtain ⟨x, hx⟩ : ∃ x, s[k]'hlt = x := ⟨_, rfl⟩
      have HX : Hid ((ls s)[k]? = some x) := by
        unfold Hid
        rw [List.getElem?_eq_getElem (by rw [HL.out]; exact hlt)]
        exact congrArg some hx
      by_cases h1 : (x.toNat : Int) < 48
      · have HE : Hid (V = false) := by unfold Hid; rw [← HV.out, allD_no HX.out (isD_lo h1), Bool.and_false]
        go_wp2
        go_ret
        exact ⟨by rw [HE.out]; rfl, rfl⟩
      · by_cases h2 : (57 : Int) < x.toNat
        · have HE : Hid (V = false) := by unfold Hid; rw [← HV.out, allD_no HX.out (isD_hi h2), Bool.and_false]
          go_wp2
          go_ret
          exact ⟨by rw [HE.out]; rfl, rfl⟩
        · have HA2 := Lib.hid (allD_take HA.out HX.out (isD_in (by omega) (by omega)))
          go_wp2
          go_round
          case rel => exact ⟨k + 1, by go_num, by omega, HA2⟩
          case measure => simp [intOf]; omega
    · have ha : allD (ls s) = true := by
        have := HA.out
        rwa [List.take_of_length_le (by rw [HL.out]; omega)] at this
      by_cases h0 : s.size = 0
      · obtain rfl := ba_empty h0
        have HE : Hid (V = false) := HV.out.symm.trans rfl
        go_wp2
        go_ret
        exact ⟨by rw [HE.out]; rfl, rfl⟩
      · have hne : ls s ≠ [] := fun e => h0 (by rw [← HL.out, e]; rfl)
        have HE : Hid (V = true) := by unfold Hid; rw [← HV.out, ha, decide_eq_true hne]; rfl
        have hne2 : s.toList.isEmpty = false := by
          rw [Lib.toList_data, List.isEmpty_eq_false_iff]
          exact hne
        clear ha hne
        go_wp2
        go_ret
        exact ⟨by rw [HE.out]; rfl, rfl⟩

set_option maxRecDepth 100000 in
set_option maxHeartbeats 1000000 in
theorem numof_any {w : World} (h : CVars w) (s : ByteArray) (hs : s.size ≤ 140737488355328) :
    Calls Tryd.prog 68 #[.string s] w fun e w' => e = .returned (.tuple #[.int .u64 (rdN 18446744073709551615 (ls s) : Nat), .int .i64 (rdE 18446744073709551615 (ls s))]) ∧ Below w.heap.size w w' := by
  have cd := digits_any w s hs
  obtain ⟨te, pe, he⟩ := h.er
  clear h
  by_cases hb : ls s = [] ∨ allD (ls s) = false
  · have hr := rd_bad (most := 18446744073709551615) hb
    rw [hr.1, hr.2]
    have hv : (decide (ls s ≠ []) && allD (ls s)) = false := by
      rcases hb with e | e
      · rw [decide_eq_false (fun n => n e), Bool.false_and]
      · rw [e, Bool.and_false]
    rw [hv] at cd
    clear hr hv hb he
    go_enter Tryd.func68, Tryd.ntmps68
    go_wp2_with (go_at_call 80; refine cd.mono ?_; rintro e w' ⟨rfl, rfl⟩)
    go_ret2
    exact ⟨rfl, Below.refl _ _⟩
  · have h1 : ls s ≠ [] := fun e => hb (.inl e)
    have h2 : allD (ls s) = true := by cases q : allD (ls s); exact absurd (.inr q) hb; rfl
    rw [h2, decide_eq_true h1] at cd
    have hp := parse_dig h1 h2
    clear hb
    by_cases hm : dva (ls s) ≤ 18446744073709551615
    · have hr := rd_good h1 h2 hm
      rw [hr.1, hr.2]
      rw [if_pos hm] at hp
      have cp := Tryd.strconv_ParseUint_10_at64_ok s (by omega) _ hp w
      obtain ⟨N, hN⟩ : ∃ N, dva (ls s) = N := ⟨_, rfl⟩
      rw [hN] at cp
      rw [hN]
      clear hr hp hm hN h1 h2 he
      go_enter Tryd.func68, Tryd.ntmps68
      go_wp2_with (first
        | (go_at_call 80; refine cd.mono ?_; rintro e w' ⟨rfl, rfl⟩)
        | (go_at_call 81; refine cp.mono ?_; rintro e w' ⟨rfl, hw⟩; have hB := parse_below hw))
      go_ret2
      exact ⟨rfl, hB⟩
    · have hr := rd_big h1 h2 (show 18446744073709551615 < dva (ls s) by omega)
      rw [hr.1, hr.2]
      rw [if_neg hm] at hp
      have cp := Tryd.strconv_ParseUint_10_at64_range s (by omega) hp (.iface te pe) w he (.inr ⟨te, pe, rfl⟩)
      clear hr hp hm h1 h2 he
      go_enter Tryd.func68, Tryd.ntmps68
      go_wp2_with (first
        | (go_at_call 80; refine cd.mono ?_; rintro e w' ⟨rfl, rfl⟩)
        | (go_at_call 81; refine cp.mono ?_; rintro e w' ⟨N, rfl, _, _, hB⟩))
      go_ret2
      exact ⟨rfl, hB⟩

set_option maxRecDepth 100000 in
set_option maxHeartbeats 1000000 in
theorem below0_any (w : World) (n : Nat) (hn : n < 18446744073709551616) :
    Calls Tryd.prog 70 #[.int .u64 n] w (DoAt (if 9223372036854775808 < n then v0 else ⟨0, ((18446744073709551616 - n) % 18446744073709551616 : Nat), ⟨#[]⟩⟩) (if 9223372036854775808 < n then 60 else 0) w) := by
  have h0 := VBlk.new w v0
  have hB0 : Below w.heap.size w (w.alloc (.cells (vaC v0) 24)) := (Below.refl _ _).alloc (Nat.le_refl _) _
  by_cases g : 9223372036854775808 < n
  · rw [if_pos g, if_pos g]
    have gz : (9223372036854775808 : Int) < (n : Int) := by omega
    go_enter Tryd.func70, Tryd.ntmps70
    go_wp2_with (refine wpList_store_val rfl (.tmp 2) (.tmp 6) rfl w.heap.size v0 v0 rfl rfl h0 ?_; intro w9 h9 t9)
    exact bodyPost_ret (v := .tuple #[.agg (vaC v0), .int .i64 60]) (results_val rfl _ _ _ _ _ rfl rfl h9) rfl ⟨rfl, hB0.trans (t9.below (Nat.le_refl _))⟩
  · rw [if_neg g, if_neg g]
    have gz : ¬ (9223372036854775808 : Int) < (n : Int) := by omega
    obtain ⟨z, hz⟩ : ∃ z : Nat, (18446744073709551616 - n) % 18446744073709551616 = z := ⟨_, rfl⟩
    have hw : IntKind.u64.wrap (-(n : Int)) = (z : Int) := by rw [IntKind.wrap_u64]; omega
    rw [hz]
    have HZ := Lib.hid hz
    clear hz
    go_enter Tryd.func70, Tryd.ntmps70
    go_wp2_with (refine wpList_store_val rfl (.tmp 2) (.tmp 9) rfl w.heap.size v0 ⟨0, z, ⟨#[]⟩⟩ rfl rfl h0 ?_; intro w9 h9 t9)
    exact bodyPost_ret (v := .tuple #[.agg (vaC ⟨0, z, ⟨#[]⟩⟩), .int .i64 0]) (results_val rfl _ _ _ _ _ rfl rfl h9) rfl ⟨rfl, hB0.trans (t9.below (Nat.le_refl _))⟩

section
variable (w : World) (k n : Int) (s : ByteArray)
set_option maxRecDepth 100000 in
set_option maxHeartbeats 1000000 in
theorem same_any (hs : s.size ≤ 140737488355328) : Calls Tryd.prog 53 #[.agg #[.int .i64 k, .int .u64 n, .string s]] w (DoAt ⟨0, n, s⟩ 0 w) := by
  obtain ⟨W, hW⟩ : ∃ W, W = (w.alloc (.cells #[.int .i64 k, .int .u64 n, .string s] 24)).alloc (.cells #[.int .i64 0, .int .u64 0, .string ⟨#[]⟩] 24) := ⟨_, rfl⟩
  have h2 : TwoB w W ⟨k, n, s⟩ := by rw [hW]; exact two_new w ⟨k, n, s⟩
  have hp : VBlk W.drew w.heap.size ⟨k, n, s⟩ := h2.p
  have hr : VBlk W.drew (w.heap.size + 1) ⟨0, 0, ⟨#[]⟩⟩ := h2.r
  have hB : Below w.heap.size w W.drew := Below.thenN h2.b 1
  have HW := Lib.hid hW
  obtain ⟨q0, q1, q2⟩ := hp.cells
  dsimp only at q0 q1 q2
  have HP := Lib.hid hp
  have HR := Lib.hid hr
  clear h2 hW hp hr
  go_enter Tryd.func53, Tryd.ntmps53
  go_wp2_with fail
  rw [← HW.out]
  go_region_with (go_at_call 72; refine (clone_any _ s hs).mono ?_; rintro e w3 ⟨rfl, hb⟩; obtain ⟨r0, r1, r2⟩ := (HP.out.below hb).cells; dsimp only at r0 r1 r2; have h3 := HR.out.below hb; have hB3 := hB.trans (hb.mono hB.size); obtain ⟨c0, c1, c2⟩ := h3.cells; dsimp only at c0 c1 c2; have f0 := h3.frozen 0; have f1 := h3.frozen 1; have f2 := h3.frozen 2)
  all_goals
    go_wp2
    refine bodyPost_ret (v := .tuple #[.agg (vaC ⟨0, n, s⟩), .int .i64 0]) (results_val rfl _ _ (w.heap.size + 1) ⟨0, n, s⟩ _ rfl rfl ?_) rfl ⟨rfl, ?_⟩
    · exact h3.set ⟨0, n, s⟩
    · exact hB3.trans ((Turned.setCells (vaC ⟨0, n, s⟩).toList 0 w3 (Turned.refl (w.heap.size + 1) w3)).below (by omega))

set_option maxRecDepth 100000 in
set_option maxHeartbeats 1000000 in
theorem common_any (hs : s.size ≤ 140737488355328) (_hn : 0 ≤ n) : Calls Tryd.prog 44 #[.agg #[.int .i64 k, .int .u64 n, .string s]] w (DoAt (if 9223372036854775808 ≤ n then v0 else ⟨0, n, s⟩) (if 9223372036854775808 ≤ n then 60 else 0) w) := by
  have h2 := two_new w ⟨k, n, s⟩
  have hp : VBlk ((w.alloc (.cells #[.int .i64 k, .int .u64 n, .string s] 24)).alloc (.cells #[.int .i64 0, .int .u64 0, .string ⟨#[]⟩] 24)) w.heap.size ⟨k, n, s⟩ := h2.p
  have hr : VBlk ((w.alloc (.cells #[.int .i64 k, .int .u64 n, .string s] 24)).alloc (.cells #[.int .i64 0, .int .u64 0, .string ⟨#[]⟩] 24)) (w.heap.size + 1) v0 := h2.r
  have hB : Below w.heap.size w ((w.alloc (.cells #[.int .i64 k, .int .u64 n, .string s] 24)).alloc (.cells #[.int .i64 0, .int .u64 0, .string ⟨#[]⟩] 24)) := h2.b
  have HP := Lib.hid hp
  clear h2 hp
  by_cases g : 9223372036854775808 ≤ n
  · rw [if_pos g, if_pos g]
    have g2 : 9223372036854775807 < n := by omega
    go_enter Tryd.func44, Tryd.ntmps44
    go_wp2_with (refine wpList_store_val rfl (.tmp 2) (.tmp 7) rfl (w.heap.size + 1) v0 v0 rfl rfl hr ?_; intro w9 h9 t9)
    exact bodyPost_ret (v := .tuple #[.agg (vaC v0), .int .i64 60]) (results_val rfl _ _ _ _ _ rfl rfl h9) rfl ⟨rfl, hB.trans (t9.below (by omega))⟩
  · rw [if_neg g, if_neg g]
    have g2 : ¬ 9223372036854775807 < n := by omega
    go_enter Tryd.func44, Tryd.ntmps44
    go_wp2_with (first
      | (refine wpList_load_val rfl (.tmp 1) rfl w.heap.size ⟨k, n, s⟩ rfl HP.out ?_)
      | (go_at_call 53; refine (same_any _ k n s hs).mono ?_; rintro e w3 ⟨rfl, hb⟩; have h3 := hr.below hb; have hB3 := hB.trans (hb.mono hB.size))
      | (refine wpList_store_val rfl (.tmp 2) (.tmp 10) rfl (w.heap.size + 1) v0 ⟨0, n, s⟩ rfl rfl h3 ?_; intro w9 h9 t9))
    exact bodyPost_ret (v := .tuple #[.agg (vaC ⟨0, n, s⟩), .int .i64 0]) (results_val rfl _ _ _ _ _ rfl rfl h9) rfl ⟨rfl, hB3.trans (t9.below (by omega))⟩

set_option maxRecDepth 100000 in
set_option maxHeartbeats 1000000 in
theorem ubool_any (hs : s.size ≤ 140737488355328) (_hn : 0 ≤ n) : Calls Tryd.prog 54 #[.agg #[.int .i64 k, .int .u64 n, .string s]] w (DoAt (if 1 < n then v0 else ⟨0, n, s⟩) (if 1 < n then 60 else 0) w) := by
  have h2 := two_new w ⟨k, n, s⟩
  have hp : VBlk ((w.alloc (.cells #[.int .i64 k, .int .u64 n, .string s] 24)).alloc (.cells #[.int .i64 0, .int .u64 0, .string ⟨#[]⟩] 24)) w.heap.size ⟨k, n, s⟩ := h2.p
  have hr : VBlk ((w.alloc (.cells #[.int .i64 k, .int .u64 n, .string s] 24)).alloc (.cells #[.int .i64 0, .int .u64 0, .string ⟨#[]⟩] 24)) (w.heap.size + 1) v0 := h2.r
  have hB : Below w.heap.size w ((w.alloc (.cells #[.int .i64 k, .int .u64 n, .string s] 24)).alloc (.cells #[.int .i64 0, .int .u64 0, .string ⟨#[]⟩] 24)) := h2.b
  have HP := Lib.hid hp
  clear h2 hp
  by_cases g : 1 < n
  · rw [if_pos g, if_pos g]
    have g2 : 1 < n := by omega
    go_enter Tryd.func54, Tryd.ntmps54
    go_wp2_with (refine wpList_store_val rfl (.tmp 2) (.tmp 7) rfl (w.heap.size + 1) v0 v0 rfl rfl hr ?_; intro w9 h9 t9)
    exact bodyPost_ret (v := .tuple #[.agg (vaC v0), .int .i64 60]) (results_val rfl _ _ _ _ _ rfl rfl h9) rfl ⟨rfl, hB.trans (t9.below (by omega))⟩
  · rw [if_neg g, if_neg g]
    have g2 : ¬ 1 < n := by omega
    go_enter Tryd.func54, Tryd.ntmps54
    go_wp2_with (first
      | (refine wpList_load_val rfl (.tmp 1) rfl w.heap.size ⟨k, n, s⟩ rfl HP.out ?_)
      | (go_at_call 53; refine (same_any _ k n s hs).mono ?_; rintro e w3 ⟨rfl, hb⟩; have h3 := hr.below hb; have hB3 := hB.trans (hb.mono hB.size))
      | (refine wpList_store_val rfl (.tmp 2) (.tmp 10) rfl (w.heap.size + 1) v0 ⟨0, n, s⟩ rfl rfl h3 ?_; intro w9 h9 t9))
    exact bodyPost_ret (v := .tuple #[.agg (vaC ⟨0, n, s⟩), .int .i64 0]) (results_val rfl _ _ _ _ _ rfl rfl h9) rfl ⟨rfl, hB3.trans (t9.below (by omega))⟩

set_option maxRecDepth 100000 in
set_option maxHeartbeats 1000000 in
theorem utext_any (h : CVars w) (hn : 0 ≤ n) (hm : n < 18446744073709551616) : Calls Tryd.prog 46 #[.agg #[.int .i64 k, .int .u64 n, .string s]] w (DoAt ⟨0, 0, tx (dg n.toNat)⟩ 0 w) := by
  have h2 := two_new w ⟨k, n, s⟩
  have hp : VBlk ((w.alloc (.cells #[.int .i64 k, .int .u64 n, .string s] 24)).alloc (.cells #[.int .i64 0, .int .u64 0, .string ⟨#[]⟩] 24)) w.heap.size ⟨k, n, s⟩ := h2.p
  have hr : VBlk ((w.alloc (.cells #[.int .i64 k, .int .u64 n, .string s] 24)).alloc (.cells #[.int .i64 0, .int .u64 0, .string ⟨#[]⟩] 24)) (w.heap.size + 1) v0 := h2.r
  have hB : Below w.heap.size w ((w.alloc (.cells #[.int .i64 k, .int .u64 n, .string s] 24)).alloc (.cells #[.int .i64 0, .int .u64 0, .string ⟨#[]⟩] 24)) := h2.b
  have HP := Lib.hid hp
  clear h2 hp
  obtain ⟨u, rfl⟩ : ∃ u : Nat, n = (u : Int) := ⟨n.toNat, by omega⟩
  have cf := fmtu_any (h.below hB) (u := u) (by omega)
  rw [show ((u : Int)).toNat = u from rfl]
  have HX : Hid (∃ x, x = tx (dg u)) := ⟨_, rfl⟩
  obtain ⟨x, hx⟩ := HX.out
  rw [← hx] at cf ⊢
  have HB0 := Lib.hid hx
  clear HX hx h
  go_enter Tryd.func46, Tryd.ntmps46
  go_wp2_with (first
    | (go_at_call 66; refine (cf).mono ?_; rintro e w3 ⟨rfl, hb⟩; have h3 := hr.below hb; have hB3 := hB.trans (hb.mono hB.size))
    | (refine wpList_store_val rfl (.tmp 2) (.tmp 7) rfl (w.heap.size + 1) v0 ⟨0, 0, x⟩ rfl rfl h3 ?_; intro w9 h9 t9))
  exact bodyPost_ret (v := .tuple #[.agg (vaC ⟨0, 0, x⟩), .int .i64 0]) (results_val rfl _ _ _ _ _ rfl rfl h9) rfl ⟨rfl, hB3.trans (t9.below (by omega))⟩

set_option maxRecDepth 100000 in
set_option maxHeartbeats 1000000 in
theorem itext_any (h : CVars w) (hn : 0 ≤ n) (hm : n < 18446744073709551616) : Calls Tryd.prog 47 #[.agg #[.int .i64 k, .int .u64 n, .string s]] w (DoAt ⟨0, 0, tx (ditx n.toNat)⟩ 0 w) := by
  have h2 := two_new w ⟨k, n, s⟩
  have hp : VBlk ((w.alloc (.cells #[.int .i64 k, .int .u64 n, .string s] 24)).alloc (.cells #[.int .i64 0, .int .u64 0, .string ⟨#[]⟩] 24)) w.heap.size ⟨k, n, s⟩ := h2.p
  have hr : VBlk ((w.alloc (.cells #[.int .i64 k, .int .u64 n, .string s] 24)).alloc (.cells #[.int .i64 0, .int .u64 0, .string ⟨#[]⟩] 24)) (w.heap.size + 1) v0 := h2.r
  have hB : Below w.heap.size w ((w.alloc (.cells #[.int .i64 k, .int .u64 n, .string s] 24)).alloc (.cells #[.int .i64 0, .int .u64 0, .string ⟨#[]⟩] 24)) := h2.b
  have HP := Lib.hid hp
  clear h2 hp
  obtain ⟨u, rfl⟩ : ∃ u : Nat, n = (u : Int) := ⟨n.toNat, by omega⟩
  rw [show ((u : Int)).toNat = u from rfl]
  obtain ⟨z, hz⟩ : ∃ z : Int, (if 9223372036854775808 ≤ u then (u : Int) - 18446744073709551616 else (u : Int)) = z := ⟨_, rfl⟩
  have hzb : -9223372036854775808 ≤ z ∧ z ≤ 9223372036854775807 := by rw [← hz]; split <;> omega
  have cf := fmti_any (h.below hB) hzb.1 hzb.2
  have e : Lib.itoa z = ditx u := by
    rw [← hz]; unfold ditx
    by_cases g : 9223372036854775808 ≤ u
    · rw [if_pos g, if_pos g, show (u : Int) - 18446744073709551616 = -((18446744073709551616 - u : Nat) : Int) by omega, itoa_low (by omega)]
    · rw [if_neg g, if_neg g, itoa_up]
  rw [e] at cf
  obtain ⟨x, hx⟩ : ∃ x, x = tx (ditx u) := ⟨_, rfl⟩
  rw [← hx] at cf ⊢
  have hw : IntKind.i64.wrap (u : Int) = z := by
    rw [IntKind.wrap_i64, ← hz]; split <;> omega
  have HB0 := Lib.hid hx
  clear hx h e hz hzb
  go_enter Tryd.func47, Tryd.ntmps47
  go_wp2_with (first
    | (go_at_call 67; refine (cf).mono ?_; rintro e w3 ⟨rfl, hb⟩; have h3 := hr.below hb; have hB3 := hB.trans (hb.mono hB.size))
    | (refine wpList_store_val rfl (.tmp 2) (.tmp 8) rfl (w.heap.size + 1) v0 ⟨0, 0, x⟩ rfl rfl h3 ?_; intro w9 h9 t9))
  exact bodyPost_ret (v := .tuple #[.agg (vaC ⟨0, 0, x⟩), .int .i64 0]) (results_val rfl _ _ _ _ _ rfl rfl h9) rfl ⟨rfl, hB3.trans (t9.below (by omega))⟩

set_option maxRecDepth 100000 in
set_option maxHeartbeats 1000000 in
theorem btext_any (hn : n = 0 ∨ n = 1) : Calls Tryd.prog 51 #[.agg #[.int .i64 k, .int .u64 n, .string s]] w (DoAt ⟨0, 0, tx (if n = 0 then bFalse else bTrue)⟩ 0 w) := by
  have h2 := two_new w ⟨k, n, s⟩
  have hp : VBlk ((w.alloc (.cells #[.int .i64 k, .int .u64 n, .string s] 24)).alloc (.cells #[.int .i64 0, .int .u64 0, .string ⟨#[]⟩] 24)) w.heap.size ⟨k, n, s⟩ := h2.p
  have hr : VBlk ((w.alloc (.cells #[.int .i64 k, .int .u64 n, .string s] 24)).alloc (.cells #[.int .i64 0, .int .u64 0, .string ⟨#[]⟩] 24)) (w.heap.size + 1) v0 := h2.r
  have hB : Below w.heap.size w ((w.alloc (.cells #[.int .i64 k, .int .u64 n, .string s] 24)).alloc (.cells #[.int .i64 0, .int .u64 0, .string ⟨#[]⟩] 24)) := h2.b
  have HP := Lib.hid hp
  clear h2 hp
  obtain ⟨x, hx⟩ : ∃ x, x = tx (if n = 0 then bFalse else bTrue) := ⟨_, rfl⟩
  obtain ⟨b, hb0⟩ : ∃ b : Bool, (n == 1) = b := ⟨_, rfl⟩
  have cf : ∀ W, Calls Tryd.prog 71 #[.bool b] W fun e w' => e = .returned (.string x) ∧ Below W.heap.size W w' := fun W => by
    refine (Tryd.strconv_FormatBool b W).mono fun e w' ⟨he, hw⟩ => ⟨?_, by rw [hw]; exact Below.refl _ _⟩
    rw [he, hx, ← hb0]
    rcases hn with rfl | rfl <;> rfl
  rw [← hx]
  clear hx hn
  go_enter Tryd.func51, Tryd.ntmps51
  go_wp2_with (first
    | (go_at_call 71; refine (cf _).mono ?_; rintro e w3 ⟨rfl, hb⟩; have h3 := hr.below hb; have hB3 := hB.trans (hb.mono hB.size))
    | (refine wpList_store_val rfl (.tmp 2) (.tmp 8) rfl (w.heap.size + 1) v0 ⟨0, 0, x⟩ rfl rfl h3 ?_; intro w9 h9 t9))
  exact bodyPost_ret (v := .tuple #[.agg (vaC ⟨0, 0, x⟩), .int .i64 0]) (results_val rfl _ _ _ _ _ rfl rfl h9) rfl ⟨rfl, hB3.trans (t9.below (by omega))⟩

/-- what text-bool makes -/
def tbN (s : ByteArray) : Int := if ls s = bTrue then 1 else 0
def tbE (s : ByteArray) : Int := if ls s = bTrue then 0 else if ls s = bFalse then 0 else 63
set_option maxRecDepth 100000 in
set_option maxHeartbeats 1000000 in
theorem tbool_any : Calls Tryd.prog 52 #[.agg #[.int .i64 k, .int .u64 n, .string s]] w (DoAt ⟨0, tbN s, ⟨#[]⟩⟩ (tbE s) w) := by
  have h2 := two_new w ⟨k, n, s⟩
  have hp : VBlk ((w.alloc (.cells #[.int .i64 k, .int .u64 n, .string s] 24)).alloc (.cells #[.int .i64 0, .int .u64 0, .string ⟨#[]⟩] 24)) w.heap.size ⟨k, n, s⟩ := h2.p
  have hr : VBlk ((w.alloc (.cells #[.int .i64 k, .int .u64 n, .string s] 24)).alloc (.cells #[.int .i64 0, .int .u64 0, .string ⟨#[]⟩] 24)) (w.heap.size + 1) v0 := h2.r
  have hB : Below w.heap.size w ((w.alloc (.cells #[.int .i64 k, .int .u64 n, .string s] 24)).alloc (.cells #[.int .i64 0, .int .u64 0, .string ⟨#[]⟩] 24)) := h2.b
  have HP := Lib.hid hp
  clear h2 hp
  have q : ls s = bFalse ∨ (ls s ≠ bFalse ∧ ls s = bTrue) ∨ (ls s ≠ bFalse ∧ ls s ≠ bTrue) := by
    by_cases g : ls s = bFalse
    · exact .inl g
    · by_cases g2 : ls s = bTrue
      · exact .inr (.inl ⟨g, g2⟩)
      · exact .inr (.inr ⟨g, g2⟩)
  rcases q with g | ⟨g, g2⟩ | ⟨g, g2⟩
  · have e1 : tbN s = 0 ∧ tbE s = 0 := by
      unfold tbN tbE
      rw [g]; decide
    have b1 : (s.toList == [102, 97, 108, 115, 101]) = true := by
      rw [Lib.toList_data]; exact beq_iff_eq.2 g
    rw [e1.1, e1.2]
    go_enter Tryd.func52, Tryd.ntmps52
    go_wp2_with (refine wpList_store_val rfl (.tmp 2) (.tmp 8) rfl (w.heap.size + 1) v0 ⟨0, 0, ⟨#[]⟩⟩ rfl rfl hr ?_; intro w9 h9 t9)
    exact bodyPost_ret (v := .tuple #[.agg (vaC ⟨0, 0, ⟨#[]⟩⟩), .int .i64 0]) (results_val rfl _ _ _ _ _ rfl rfl h9) rfl ⟨rfl, hB.trans (t9.below (by omega))⟩
  · have e1 : tbN s = 1 ∧ tbE s = 0 := by
      unfold tbN tbE
      rw [g2]; decide
    have b1 : (s.toList == [102, 97, 108, 115, 101]) = false := by
      rw [Lib.toList_data]; exact beq_eq_false_iff_ne.2 g
    have b2 : (s.toList == [116, 114, 117, 101]) = true := by
      rw [Lib.toList_data]; exact beq_iff_eq.2 g2
    rw [e1.1, e1.2]
    go_enter Tryd.func52, Tryd.ntmps52
    go_wp2_with (refine wpList_store_val rfl (.tmp 2) (.tmp 11) rfl (w.heap.size + 1) v0 ⟨0, 1, ⟨#[]⟩⟩ rfl rfl hr ?_; intro w9 h9 t9)
    exact bodyPost_ret (v := .tuple #[.agg (vaC ⟨0, 1, ⟨#[]⟩⟩), .int .i64 0]) (results_val rfl _ _ _ _ _ rfl rfl h9) rfl ⟨rfl, hB.trans (t9.below (by omega))⟩
  · have e1 : tbN s = 0 ∧ tbE s = 63 := by
      unfold tbN tbE
      rw [if_neg g2, if_neg g2, if_neg g]; exact ⟨rfl, rfl⟩
    have b1 : (s.toList == [102, 97, 108, 115, 101]) = false := by
      rw [Lib.toList_data]; exact beq_eq_false_iff_ne.2 g
    have b2 : (s.toList == [116, 114, 117, 101]) = false := by
      rw [Lib.toList_data]; exact beq_eq_false_iff_ne.2 g2
    rw [e1.1, e1.2]
    go_enter Tryd.func52, Tryd.ntmps52
    go_wp2_with (refine wpList_store_val rfl (.tmp 2) (.tmp 12) rfl (w.heap.size + 1) v0 ⟨0, 0, ⟨#[]⟩⟩ rfl rfl hr ?_; intro w9 h9 t9)
    exact bodyPost_ret (v := .tuple #[.agg (vaC ⟨0, 0, ⟨#[]⟩⟩), .int .i64 63]) (results_val rfl _ _ _ _ _ rfl rfl h9) rfl ⟨rfl, hB.trans (t9.below (by omega))⟩

set_option maxRecDepth 100000 in
set_option maxHeartbeats 1000000 in
theorem btx_any {w0 : World} (h : KSt w0 w) (hs : s.size ≤ 140737488355328) : Calls Tryd.prog 56 #[.agg #[.int .i64 k, .int .u64 n, .string s]] w (DoAt (if okL (ls s) = true then ⟨0, n, s⟩ else v0) (if okL (ls s) = true then 0 else 62) w) := by
  have h2 := two_new w ⟨k, n, s⟩
  have hp : VBlk ((w.alloc (.cells #[.int .i64 k, .int .u64 n, .string s] 24)).alloc (.cells #[.int .i64 0, .int .u64 0, .string ⟨#[]⟩] 24)) w.heap.size ⟨k, n, s⟩ := h2.p
  have hr : VBlk ((w.alloc (.cells #[.int .i64 k, .int .u64 n, .string s] 24)).alloc (.cells #[.int .i64 0, .int .u64 0, .string ⟨#[]⟩] 24)) (w.heap.size + 1) v0 := h2.r
  have hB : Below w.heap.size w ((w.alloc (.cells #[.int .i64 k, .int .u64 n, .string s] 24)).alloc (.cells #[.int .i64 0, .int .u64 0, .string ⟨#[]⟩] 24)) := h2.b
  have HP := Lib.hid hp
  clear h2 hp
  have cv := utfv_any (h.then_ hB) s hs
  by_cases g : okL (ls s) = true
  · rw [if_pos g, if_pos g]
    rw [g] at cv
    clear h
    go_enter Tryd.func56, Tryd.ntmps56
    go_wp2_with (first
      | (go_at_call 36; refine cv.mono ?_; rintro e w1 ⟨rfl, b1⟩; have h1 := hr.below b1; have p1 := HP.out.below b1; have hB1 := hB.trans (b1.mono hB.size))
      | (refine wpList_load_val rfl (.tmp 1) rfl w.heap.size ⟨k, n, s⟩ rfl p1 ?_)
      | (go_at_call 53; refine (same_any _ k n s hs).mono ?_; rintro e w3 ⟨rfl, hb⟩; have h3 := h1.below hb; have hB3 := hB1.trans (hb.mono hB1.size))
      | (refine wpList_store_val rfl (.tmp 2) (.tmp 11) rfl (w.heap.size + 1) v0 ⟨0, n, s⟩ rfl rfl h3 ?_; intro w9 h9 t9))
    exact bodyPost_ret (v := .tuple #[.agg (vaC ⟨0, n, s⟩), .int .i64 0]) (results_val rfl _ _ _ _ _ rfl rfl h9) rfl ⟨rfl, hB3.trans (t9.below (by omega))⟩
  · rw [if_neg g, if_neg g]
    rw [show okL (ls s) = false by cases q : okL (ls s); rfl; exact absurd q g] at cv
    clear h
    go_enter Tryd.func56, Tryd.ntmps56
    go_wp2_with (first
      | (go_at_call 36; refine cv.mono ?_; rintro e w1 ⟨rfl, b1⟩; have h1 := hr.below b1; have hB1 := hB.trans (b1.mono hB.size))
      | (refine wpList_store_val rfl (.tmp 2) (.tmp 8) rfl (w.heap.size + 1) v0 v0 rfl rfl h1 ?_; intro w9 h9 t9))
    exact bodyPost_ret (v := .tuple #[.agg (vaC v0), .int .i64 62]) (results_val rfl _ _ _ _ _ rfl rfl h9) rfl ⟨rfl, hB1.trans (t9.below (by omega))⟩

set_option maxRecDepth 100000 in
set_option maxHeartbeats 1000000 in
theorem tuint_any (h : CVars w) (hs : s.size ≤ 140737488355328) : Calls Tryd.prog 48 #[.agg #[.int .i64 k, .int .u64 n, .string s]] w (DoAt ⟨0, (rdN 18446744073709551615 (ls s) : Nat), ⟨#[]⟩⟩ (rdE 18446744073709551615 (ls s)) w) := by
  have h2 := two_new w ⟨k, n, s⟩
  have hp : VBlk ((w.alloc (.cells #[.int .i64 k, .int .u64 n, .string s] 24)).alloc (.cells #[.int .i64 0, .int .u64 0, .string ⟨#[]⟩] 24)) w.heap.size ⟨k, n, s⟩ := h2.p
  have hr : VBlk ((w.alloc (.cells #[.int .i64 k, .int .u64 n, .string s] 24)).alloc (.cells #[.int .i64 0, .int .u64 0, .string ⟨#[]⟩] 24)) (w.heap.size + 1) v0 := h2.r
  have hB : Below w.heap.size w ((w.alloc (.cells #[.int .i64 k, .int .u64 n, .string s] 24)).alloc (.cells #[.int .i64 0, .int .u64 0, .string ⟨#[]⟩] 24)) := h2.b
  have HP := Lib.hid hp
  clear h2 hp
  have cn := numof_any (h.below hB) s hs
  obtain ⟨N, hN⟩ : ∃ N, rdN 18446744073709551615 (ls s) = N := ⟨_, rfl⟩
  obtain ⟨E, hE⟩ : ∃ E, rdE 18446744073709551615 (ls s) = E := ⟨_, rfl⟩
  rw [hN, hE] at cn ⊢
  clear h hN hE
  go_enter Tryd.func48, Tryd.ntmps48
  go_wp2_with (first
    | (go_at_call 68; refine cn.mono ?_; rintro e w3 ⟨rfl, hb⟩; have h3 := hr.below hb; have hB3 := hB.trans (hb.mono hB.size))
    | (refine wpList_store_val rfl (.tmp 2) (.tmp 13) rfl (w.heap.size + 1) v0 ⟨0, (N : Int), ⟨#[]⟩⟩ rfl rfl h3 ?_; intro w9 h9 t9))
  exact bodyPost_ret (v := .tuple #[.agg (vaC ⟨0, (N : Int), ⟨#[]⟩⟩), .int .i64 E]) (results_val rfl _ _ _ _ _ rfl rfl h9) rfl ⟨rfl, hB3.trans (t9.below (by omega))⟩
end
end Go.Proofs.YtijgcfnjbfaelaaDoor
