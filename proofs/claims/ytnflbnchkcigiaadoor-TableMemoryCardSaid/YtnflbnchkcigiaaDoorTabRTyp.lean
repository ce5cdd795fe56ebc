/- The walk of the reference's Typed. -/
import Derived.Test.YtnflbnchkcigiaaDoorTabTyp
namespace Go.Proofs.YtnflbnchkcigiaaDoor
open Go.RowKit

theorem ty_end {a : List Co} {l : List Fd} (h : eqL ofCo a l = true) (hi : Is 0 l) : tyE a l = cer l := by
  refine ty_on h ?_
  rcases Nat.lt_or_ge 16777215 (enc l).length with q | q
  · rw [(cer_long hi q).1]; decide
  · rw [(cer_ok hi q).1]; decide
theorem decide_geq (a b : Int) : decide (a ≥ b) = decide (b ≤ a) := rfl

set_option maxRecDepth 100000 in
set_option maxHeartbeats 8000000 in
theorem rtyped_any {w0 w : World} (h : KSt w0 w) {A A' : Option Addr} {a : List Co} {l : List Fd} (c c' : Nat) (ha : CoR w w.heap.size A a) (hA : FRow w w.heap.size A' l) (hg : Good l) (hl : a.length ≤ 140737488355328) (hl' : l.length ≤ 140737488355328) :
    Calls Tryd.prog 19 #[.slice A a.length c, .slice A' l.length c'] w fun e w' => e = .returned (.int .i64 (tyE a l)) ∧ Below w.heap.size w w' := by
  obtain ⟨E, hE⟩ : ∃ E, tyE a l = E := ⟨_, rfl⟩
  rw [hE]
  have HE := Lib.hid hE
  by_cases hlen : a.length = l.length
  case neg =>
    have hlb : ((a.length : Int) != (l.length : Int)) = true := by simp; omega
    have HN := Lib.hid (hE.symm.trans (ty_off (eqL_len hlen)))
    clear hlen hE ha hA hg h
    go_enter Tryd.func19, Tryd.ntmps19
    go_wp2
    go_ret
    exact ⟨ret_int HN.out.symm, Below.refl _ _⟩
  have hlb : ((a.length : Int) != (l.length : Int)) = false := by rw [hlen]; simp
  have HL := Lib.hid hlen
  have HC := Lib.hid ha
  have HG := Lib.hid hg
  have HA := Lib.hid hA
  have H0 := Lib.hid h
  clear hE hg hA h ha hlen
  go_enter Tryd.func19, Tryd.ntmps19
  go_wp2
  go_loopw [5] (fun i wr => ∃ k : Nat, i = .int .i64 k ∧ k ≤ l.length ∧ Below w.heap.size w wr ∧ Hid (Is 0 (l.take k)) ∧ Hid (UpL ofCo a l k)) (fun i _ => l.length - (intOf i).toNat)
  case atStart => exact ⟨0, rfl, Nat.zero_le _, Below.refl _ _, by unfold Hid; rw [List.take_zero]; trivial, UpL.zero⟩
  case round =>
    obtain ⟨k, rfl, hk, hB, HI, HU⟩ := hrel
    by_cases hlt : k < l.length
    case neg =>
      obtain rfl : k = l.length := by omega
      have hi := HI.out
      rw [List.take_length] at hi
      have hu := HU.out
      rw [← HL.out] at hu
      have HN := Lib.hid (HE.out.symm.trans (ty_end (hu.all HL.out) hi))
      have cc := rcheck_any ((H0.out.self).then_ hB) c' ((HA.out.below hB).more hB.size) HG.out hl'
      obtain ⟨z, hz⟩ : ∃ z, cat l = z := ⟨_, rfl⟩
      obtain ⟨d, hd⟩ : ∃ d, cer l = d := ⟨_, rfl⟩
      rw [hd] at HN
      rw [hz, hd] at cc
      clear hi hu hz hd
      go_wp2_with (go_at_call 34; refine cc.mono ?_; rintro e w1 ⟨rfl, hb1⟩)
      go_ret
      exact ⟨ret_int HN.out.symm, hB.trans (hb1.mono hB.size)⟩
    have hltz : (k : Int) < (l.length : Int) := by omega
    have hlta : (k : Int) < (a.length : Int) := by have := HL.out; omega
    have k00 : (0 : Int) ≤ (k : Int) := by omega
    obtain ⟨f, hf⟩ : ∃ f, l[k]? = some f := ⟨l[k], List.getElem?_eq_getElem hlt⟩
    obtain ⟨x, hx⟩ : ∃ x, a[k]? = some x := ⟨a[k]'(by omega), List.getElem?_eq_getElem (by omega)⟩
    obtain ⟨g, o, rfl, hgB, hcs⟩ := (HA.out.below hB).at_ (by omega)
    obtain ⟨ga, oa, rfl, hgaB, x0, x1, x2⟩ := CoR.cells (HC.out.below hB) hx
    obtain ⟨c0, c1, c2, c3⟩ := hcs k f hf
    obtain ⟨hfit, hsz⟩ := HG.out.at_ hf
    have hgr : g < wr.heap.size := by have := hB.size; omega
    have hgar : ga < wr.heap.size := by have := hB.size; omega
    have hK0 := ((H0.out.self).then_ hB).first0 (.cells (ffC f) 53)
    have hBx := BoxF.new wr f 53
    have hB1 : Below w.heap.size w (wr.alloc (.cells (ffC f) 53)) := hB.alloc hB.size _
    have hold : ∀ b j, b < wr.heap.size → (wr.alloc (.cells (ffC f) 53)).cell? ⟨b, j, none⟩ = wr.cell? ⟨b, j, none⟩ := fun b j hb => (Below.cells ((Below.refl wr.heap.size wr).alloc (Nat.le_refl _) (.cells (ffC f) 53))).1 b j hb
    have HBAD : Hid (canF f (lastOf 0 (l.take k)) = false → E = 130) := fun q => HE.out.symm.trans (ty_arg (cer_bad hf HI.out q).1)
    have HOFF : Hid (ofCo x f = false → E = 130) := fun q => HE.out.symm.trans (ty_off (eqL_at hx hf q))
    have HGOOD : Hid (canF f (lastOf 0 (l.take k)) = true → ofCo x f = true → Is 0 (l.take (k + 1)) ∧ UpL ofCo a l (k + 1)) := fun q q2 => ⟨(go_on hf HI.out q hfit).1, HU.out.next hx hf q2⟩
    have hlz : k = 0 → lastOf 0 (l.take k) = 0 := fun q => by subst q; rfl
    have hlast0 := last_nn HI.out
    have hcan : canF f (lastOf 0 (l.take k)) = (decide (lastOf 0 (l.take k) < f.t) && decide (f.t ≤ 65535) && okV f.v) := rfl
    obtain ⟨m, hm⟩ : ∃ m, lastOf 0 (l.take k) = m := ⟨_, rfl⟩
    have hprev := fun p (hk0 : k ≠ 0) (hp : l[k - 1]? = some p) => (can_ref HI.out p hk0 hp).symm.trans hm
    rw [hm] at HBAD HGOOD hlz hlast0 hcan
    have v0 := fun {W : World} (q : KSt W W) => rkvalid_any q f.v hfit hsz
    have HB1 := Lib.hid hB1
    have HBX := Lib.hid hBx
    clear hm hf hx hfit hsz hB1 hBx HI HU
    have PV : (k = 0 ∧ m = 0) ∨ (∃ j, k = j + 1 ∧ wr.cell? ⟨g, o + j * 4, none⟩ = some (.int .i64 m)) := by
      by_cases k0 : k = 0
      · exact .inl ⟨k0, hlz k0⟩
      · obtain ⟨j, hj⟩ : ∃ j, k = j + 1 := ⟨k - 1, by omega⟩
        obtain ⟨p, hp⟩ : ∃ p, l[j]? = some p := ⟨l[j], List.getElem?_eq_getElem (by omega)⟩
        have hpm := hprev p k0 (by rw [hj, Nat.add_sub_cancel]; exact hp)
        obtain ⟨p0, _, _, _⟩ := hcs j p hp
        rw [hpm] at p0
        exact .inr ⟨j, hj, p0⟩
    clear hlz hprev hcs
    -- what the field is
    obtain ⟨t, v⟩ := f
    obtain ⟨vk, vn, vs⟩ := v
    obtain ⟨xn, xt, xk⟩ := x
    simp only [vv] at v0
    unfold ofCo at HOFF HGOOD
    unfold ffC at hK0 HB1 HBX hold
    dsimp only at *
    have y1 := (hold ga (oa + k * 3 + 1) hgar).trans x1
    have y2 := (hold ga (oa + k * 3 + 2) hgar).trans x2
    have HY := Lib.hid (And.intro y1 y2)
    clear x0 x1 x2 y1 y2
    rcases PV with ⟨k0, rfl⟩ | ⟨j, hj, p0⟩
    · have z0 : ((k : Int) == 0) = true := by rw [beq_iff_eq]; omega
      have prv : True := trivial
      clear hold k0
      by_cases q1 : 1 ≤ t
      case neg =>
            have HQ : Hid (E = 130) := HBAD.out (by rw [hcan, decide_eq_false (show ¬ 0 < t by omega)]; rfl)
            have q1d : decide (1 ≤ t) = false := decide_eq_false q1
            clear hcan
            go_wp2
            generalize hW1 : wr.alloc (.cells #[.int .i64 t, .int .i64 vk, .int .u64 vn, .string vs] 53) = W1 at *
            clear hW1
            obtain ⟨b0, b1, b2, b3⟩ := HBX.out
            dsimp only at b0 b1 b2 b3
            go_quiet (fail)
            have b0' : (W1.drewN nq).cell? ⟨wr.heap.size, 0, none⟩ = some (.int .i64 t) := b0
            have b1' : (W1.drewN nq).cell? ⟨wr.heap.size, 1, none⟩ = some (.int .i64 vk) := b1
            have b2' : (W1.drewN nq).cell? ⟨wr.heap.size, 2, none⟩ = some (.int .u64 vn) := b2
            have b3' : (W1.drewN nq).cell? ⟨wr.heap.size, 3, none⟩ = some (.string vs) := b3
            have y1 : (W1.drewN nq).cell? ⟨ga, oa + k * 3 + 1, none⟩ = some (.int .i64 xt) := HY.out.1
            have y2 : (W1.drewN nq).cell? ⟨ga, oa + k * 3 + 2, none⟩ = some (.int .i64 xk) := HY.out.2
            have hB2 := HB1.out.trans ((Below.newN W1 nq).mono HB1.out.size)
            have hK2 := (hK0.newN nq).self
            have HB2 := Lib.hid hB2
            clear hB2 hK0 b0 b1 b2 b3
            go_wp2
            generalize hW2 : W1.drewN nq = W2 at *
            clear hW2
            have d0 := cell_regrown b0'
            have d1 := cell_regrown b1'
            have d2 := cell_regrown b2'
            have d3 := cell_regrown b3'
            have d4 := cell_regrown y1
            have d5 := cell_regrown y2
            clear b0' b1' b2' b3' y1 y2
            have cV := fun (d : Nat) (os : Array Obj) => Calls.regrown_of ((v0 (hK2.then_ (below_regrown W2 d os)).self).mono fun _ _ ⟨he, hb⟩ => ⟨he, hb.below⟩)
            refine wp_region_quiet_below (by kernel_rfl) (by kernel_rfl) ?_
            repeat (go_big_quiet_step ((go_at_call 33; exact cV _ _)))
            refine wpQuiet_nil ?_
            intro _ hw'
            obtain ⟨⟨dq, osq⟩, hw''⟩ := hw'
            subst hw''
            go_wp2
            go_ret
            exact ⟨ret_int HQ.out.symm, HB2.out.trans ((below_regrown W2 dq osq).mono HB2.out.size)⟩
      have q1d : decide (1 ≤ t) = true := decide_eq_true q1
      by_cases q2 : t ≤ 65535
      case neg =>
            have HQ : Hid (E = 130) := HBAD.out (by rw [hcan, decide_eq_false q2, Bool.and_false]; rfl)
            have q2d : decide (t ≤ 65535) = false := decide_eq_false q2
            clear hcan
            go_wp2
            generalize hW1 : wr.alloc (.cells #[.int .i64 t, .int .i64 vk, .int .u64 vn, .string vs] 53) = W1 at *
            clear hW1
            obtain ⟨b0, b1, b2, b3⟩ := HBX.out
            dsimp only at b0 b1 b2 b3
            go_quiet (fail)
            have b0' : (W1.drewN nq).cell? ⟨wr.heap.size, 0, none⟩ = some (.int .i64 t) := b0
            have b1' : (W1.drewN nq).cell? ⟨wr.heap.size, 1, none⟩ = some (.int .i64 vk) := b1
            have b2' : (W1.drewN nq).cell? ⟨wr.heap.size, 2, none⟩ = some (.int .u64 vn) := b2
            have b3' : (W1.drewN nq).cell? ⟨wr.heap.size, 3, none⟩ = some (.string vs) := b3
            have y1 : (W1.drewN nq).cell? ⟨ga, oa + k * 3 + 1, none⟩ = some (.int .i64 xt) := HY.out.1
            have y2 : (W1.drewN nq).cell? ⟨ga, oa + k * 3 + 2, none⟩ = some (.int .i64 xk) := HY.out.2
            have hB2 := HB1.out.trans ((Below.newN W1 nq).mono HB1.out.size)
            have hK2 := (hK0.newN nq).self
            have HB2 := Lib.hid hB2
            clear hB2 hK0 b0 b1 b2 b3
            go_wp2
            generalize hW2 : W1.drewN nq = W2 at *
            clear hW2
            have d0 := cell_regrown b0'
            have d1 := cell_regrown b1'
            have d2 := cell_regrown b2'
            have d3 := cell_regrown b3'
            have d4 := cell_regrown y1
            have d5 := cell_regrown y2
            clear b0' b1' b2' b3' y1 y2
            have cV := fun (d : Nat) (os : Array Obj) => Calls.regrown_of ((v0 (hK2.then_ (below_regrown W2 d os)).self).mono fun _ _ ⟨he, hb⟩ => ⟨he, hb.below⟩)
            refine wp_region_quiet_below (by kernel_rfl) (by kernel_rfl) ?_
            repeat (go_big_quiet_step ((go_at_call 33; exact cV _ _)))
            refine wpQuiet_nil ?_
            intro _ hw'
            obtain ⟨⟨dq, osq⟩, hw''⟩ := hw'
            subst hw''
            go_wp2
            go_ret
            exact ⟨ret_int HQ.out.symm, HB2.out.trans ((below_regrown W2 dq osq).mono HB2.out.size)⟩
      have q2d : decide (t ≤ 65535) = true := decide_eq_true q2
      rw [q2d, decide_eq_true (show 0 < t by omega)] at hcan
      by_cases e1 : t = xt
      case neg =>
            have HQ : Hid (E = 130) := HOFF.out (by rw [decide_eq_false e1]; rfl)
            have e1d : (t != xt) = true := bne_iff_ne.2 e1
            clear hcan
            go_wp2
            generalize hW1 : wr.alloc (.cells #[.int .i64 t, .int .i64 vk, .int .u64 vn, .string vs] 53) = W1 at *
            clear hW1
            obtain ⟨b0, b1, b2, b3⟩ := HBX.out
            dsimp only at b0 b1 b2 b3
            go_quiet (fail)
            have b0' : (W1.drewN nq).cell? ⟨wr.heap.size, 0, none⟩ = some (.int .i64 t) := b0
            have b1' : (W1.drewN nq).cell? ⟨wr.heap.size, 1, none⟩ = some (.int .i64 vk) := b1
            have b2' : (W1.drewN nq).cell? ⟨wr.heap.size, 2, none⟩ = some (.int .u64 vn) := b2
            have b3' : (W1.drewN nq).cell? ⟨wr.heap.size, 3, none⟩ = some (.string vs) := b3
            have y1 : (W1.drewN nq).cell? ⟨ga, oa + k * 3 + 1, none⟩ = some (.int .i64 xt) := HY.out.1
            have y2 : (W1.drewN nq).cell? ⟨ga, oa + k * 3 + 2, none⟩ = some (.int .i64 xk) := HY.out.2
            have hB2 := HB1.out.trans ((Below.newN W1 nq).mono HB1.out.size)
            have hK2 := (hK0.newN nq).self
            have HB2 := Lib.hid hB2
            clear hB2 hK0 b0 b1 b2 b3
            go_wp2
            generalize hW2 : W1.drewN nq = W2 at *
            clear hW2
            have d0 := cell_regrown b0'
            have d1 := cell_regrown b1'
            have d2 := cell_regrown b2'
            have d3 := cell_regrown b3'
            have d4 := cell_regrown y1
            have d5 := cell_regrown y2
            clear b0' b1' b2' b3' y1 y2
            have cV := fun (d : Nat) (os : Array Obj) => Calls.regrown_of ((v0 (hK2.then_ (below_regrown W2 d os)).self).mono fun _ _ ⟨he, hb⟩ => ⟨he, hb.below⟩)
            refine wp_region_quiet_below (by kernel_rfl) (by kernel_rfl) ?_
            repeat (go_big_quiet_step ((go_at_call 33; exact cV _ _)))
            refine wpQuiet_nil ?_
            intro _ hw'
            obtain ⟨⟨dq, osq⟩, hw''⟩ := hw'
            subst hw''
            go_wp2
            go_ret
            exact ⟨ret_int HQ.out.symm, HB2.out.trans ((below_regrown W2 dq osq).mono HB2.out.size)⟩
      have e1d : (t != xt) = false := by rw [e1]; exact bne_self_eq_false _
      by_cases e2 : vk = xk
      case neg =>
            have HQ : Hid (E = 130) := HOFF.out (by rw [decide_eq_false e2, Bool.and_false])
            have e2d : (vk != xk) = true := bne_iff_ne.2 e2
            have HE1 := Lib.hid e1
            clear hcan e1
            go_wp2
            generalize hW1 : wr.alloc (.cells #[.int .i64 t, .int .i64 vk, .int .u64 vn, .string vs] 53) = W1 at *
            clear hW1
            obtain ⟨b0, b1, b2, b3⟩ := HBX.out
            dsimp only at b0 b1 b2 b3
            go_quiet (fail)
            have b0' : (W1.drewN nq).cell? ⟨wr.heap.size, 0, none⟩ = some (.int .i64 t) := b0
            have b1' : (W1.drewN nq).cell? ⟨wr.heap.size, 1, none⟩ = some (.int .i64 vk) := b1
            have b2' : (W1.drewN nq).cell? ⟨wr.heap.size, 2, none⟩ = some (.int .u64 vn) := b2
            have b3' : (W1.drewN nq).cell? ⟨wr.heap.size, 3, none⟩ = some (.string vs) := b3
            have y1 : (W1.drewN nq).cell? ⟨ga, oa + k * 3 + 1, none⟩ = some (.int .i64 xt) := HY.out.1
            have y2 : (W1.drewN nq).cell? ⟨ga, oa + k * 3 + 2, none⟩ = some (.int .i64 xk) := HY.out.2
            have hB2 := HB1.out.trans ((Below.newN W1 nq).mono HB1.out.size)
            have hK2 := (hK0.newN nq).self
            have HB2 := Lib.hid hB2
            clear hB2 hK0 b0 b1 b2 b3
            go_wp2
            generalize hW2 : W1.drewN nq = W2 at *
            clear hW2
            have d0 := cell_regrown b0'
            have d1 := cell_regrown b1'
            have d2 := cell_regrown b2'
            have d3 := cell_regrown b3'
            have d4 := cell_regrown y1
            have d5 := cell_regrown y2
            clear b0' b1' b2' b3' y1 y2
            have cV := fun (d : Nat) (os : Array Obj) => Calls.regrown_of ((v0 (hK2.then_ (below_regrown W2 d os)).self).mono fun _ _ ⟨he, hb⟩ => ⟨he, hb.below⟩)
            refine wp_region_quiet_below (by kernel_rfl) (by kernel_rfl) ?_
            repeat (go_big_quiet_step ((go_at_call 33; exact cV _ _)))
            refine wpQuiet_nil ?_
            intro _ hw'
            obtain ⟨⟨dq, osq⟩, hw''⟩ := hw'
            subst hw''
            go_wp2
            go_ret
            exact ⟨ret_int HQ.out.symm, HB2.out.trans ((below_regrown W2 dq osq).mono HB2.out.size)⟩
      have e2d : (vk != xk) = false := by rw [e2]; exact bne_self_eq_false _
      have hof : (decide (t = xt) && decide (vk = xk)) = true := by rw [decide_eq_true e1, decide_eq_true e2]; rfl
      have HE1 := Lib.hid e1
      have HE2 := Lib.hid e2
      clear e1 e2
      cases hV : okV ⟨vk, vn, vs⟩ with
      | false =>
            have HQ : Hid (E = 130) := HBAD.out (by rw [hcan, hV]; rfl)
            simp only [hV] at v0
            clear hcan hV hof
            go_wp2
            generalize hW1 : wr.alloc (.cells #[.int .i64 t, .int .i64 vk, .int .u64 vn, .string vs] 53) = W1 at *
            clear hW1
            obtain ⟨b0, b1, b2, b3⟩ := HBX.out
            dsimp only at b0 b1 b2 b3
            go_quiet (fail)
            have b0' : (W1.drewN nq).cell? ⟨wr.heap.size, 0, none⟩ = some (.int .i64 t) := b0
            have b1' : (W1.drewN nq).cell? ⟨wr.heap.size, 1, none⟩ = some (.int .i64 vk) := b1
            have b2' : (W1.drewN nq).cell? ⟨wr.heap.size, 2, none⟩ = some (.int .u64 vn) := b2
            have b3' : (W1.drewN nq).cell? ⟨wr.heap.size, 3, none⟩ = some (.string vs) := b3
            have y1 : (W1.drewN nq).cell? ⟨ga, oa + k * 3 + 1, none⟩ = some (.int .i64 xt) := HY.out.1
            have y2 : (W1.drewN nq).cell? ⟨ga, oa + k * 3 + 2, none⟩ = some (.int .i64 xk) := HY.out.2
            have hB2 := HB1.out.trans ((Below.newN W1 nq).mono HB1.out.size)
            have hK2 := (hK0.newN nq).self
            have HB2 := Lib.hid hB2
            clear hB2 hK0 b0 b1 b2 b3
            go_wp2
            generalize hW2 : W1.drewN nq = W2 at *
            clear hW2
            have d0 := cell_regrown b0'
            have d1 := cell_regrown b1'
            have d2 := cell_regrown b2'
            have d3 := cell_regrown b3'
            have d4 := cell_regrown y1
            have d5 := cell_regrown y2
            clear b0' b1' b2' b3' y1 y2
            have cV := fun (d : Nat) (os : Array Obj) => Calls.regrown_of ((v0 (hK2.then_ (below_regrown W2 d os)).self).mono fun _ _ ⟨he, hb⟩ => ⟨he, hb.below⟩)
            refine wp_region_quiet_below (by kernel_rfl) (by kernel_rfl) ?_
            repeat (go_big_quiet_step ((go_at_call 33; exact cV _ _)))
            refine wpQuiet_nil ?_
            intro _ hw'
            obtain ⟨⟨dq, osq⟩, hw''⟩ := hw'
            subst hw''
            go_wp2
            go_ret
            exact ⟨ret_int HQ.out.symm, HB2.out.trans ((below_regrown W2 dq osq).mono HB2.out.size)⟩
      | true =>
            have HQ := Lib.hid (HGOOD.out (by rw [hcan, hV]; rfl) hof)
            simp only [hV] at v0
            clear hcan hV hof
            go_wp2
            generalize hW1 : wr.alloc (.cells #[.int .i64 t, .int .i64 vk, .int .u64 vn, .string vs] 53) = W1 at *
            clear hW1
            obtain ⟨b0, b1, b2, b3⟩ := HBX.out
            dsimp only at b0 b1 b2 b3
            go_quiet (fail)
            have b0' : (W1.drewN nq).cell? ⟨wr.heap.size, 0, none⟩ = some (.int .i64 t) := b0
            have b1' : (W1.drewN nq).cell? ⟨wr.heap.size, 1, none⟩ = some (.int .i64 vk) := b1
            have b2' : (W1.drewN nq).cell? ⟨wr.heap.size, 2, none⟩ = some (.int .u64 vn) := b2
            have b3' : (W1.drewN nq).cell? ⟨wr.heap.size, 3, none⟩ = some (.string vs) := b3
            have y1 : (W1.drewN nq).cell? ⟨ga, oa + k * 3 + 1, none⟩ = some (.int .i64 xt) := HY.out.1
            have y2 : (W1.drewN nq).cell? ⟨ga, oa + k * 3 + 2, none⟩ = some (.int .i64 xk) := HY.out.2
            have hB2 := HB1.out.trans ((Below.newN W1 nq).mono HB1.out.size)
            have hK2 := (hK0.newN nq).self
            have HB2 := Lib.hid hB2
            clear hB2 hK0 b0 b1 b2 b3
            go_wp2
            generalize hW2 : W1.drewN nq = W2 at *
            clear hW2
            have d0 := cell_regrown b0'
            have d1 := cell_regrown b1'
            have d2 := cell_regrown b2'
            have d3 := cell_regrown b3'
            have d4 := cell_regrown y1
            have d5 := cell_regrown y2
            clear b0' b1' b2' b3' y1 y2
            have cV := fun (d : Nat) (os : Array Obj) => Calls.regrown_of ((v0 (hK2.then_ (below_regrown W2 d os)).self).mono fun _ _ ⟨he, hb⟩ => ⟨he, hb.below⟩)
            refine wp_region_quiet_below (by kernel_rfl) (by kernel_rfl) ?_
            repeat (go_big_quiet_step ((go_at_call 33; exact cV _ _)))
            refine wpQuiet_nil ?_
            intro _ hw'
            obtain ⟨⟨dq, osq⟩, hw''⟩ := hw'
            subst hw''
            go_wp2
            go_roundw
            case rel => exact ⟨k + 1, by go_num, by omega, HB2.out.trans ((below_regrown W2 dq osq).mono HB2.out.size), HQ.out.1, HQ.out.2⟩
            case measure => simp [intOf]; omega
    · have z0 : ((k : Int) == 0) = false := by rw [beq_eq_false_iff_ne]; omega
      have j0 : (0 : Int) ≤ (j : Int) := by omega
      have j1 : (j : Int) < (l.length : Int) := by omega
      have jw : IntKind.i64.wrap ((k : Int) - 1) = (j : Int) := by rw [IntKind.wrap_i64]; omega
      have jw' : (k : Int) - 1 = (j : Int) := by omega
      have k0 : True := trivial
      have p1 := (hold g (o + j * 4) hgr).trans p0
      have HP := Lib.hid p1
      have HJ := Lib.hid hj
      clear hj p0 p1
      clear hold k0
      by_cases q1 : 1 ≤ t
      case neg =>
            have HQ : Hid (E = 130) := HBAD.out (by rw [hcan, decide_eq_false (show ¬ m < t by omega)]; rfl)
            have q1d : decide (1 ≤ t) = false := decide_eq_false q1
            clear hcan
            go_wp2
            generalize hW1 : wr.alloc (.cells #[.int .i64 t, .int .i64 vk, .int .u64 vn, .string vs] 53) = W1 at *
            clear hW1
            obtain ⟨b0, b1, b2, b3⟩ := HBX.out
            dsimp only at b0 b1 b2 b3
            have p1 := HP.out
            go_quiet (fail)
            have b0' : (W1.drewN nq).cell? ⟨wr.heap.size, 0, none⟩ = some (.int .i64 t) := b0
            have b1' : (W1.drewN nq).cell? ⟨wr.heap.size, 1, none⟩ = some (.int .i64 vk) := b1
            have b2' : (W1.drewN nq).cell? ⟨wr.heap.size, 2, none⟩ = some (.int .u64 vn) := b2
            have b3' : (W1.drewN nq).cell? ⟨wr.heap.size, 3, none⟩ = some (.string vs) := b3
            have y1 : (W1.drewN nq).cell? ⟨ga, oa + k * 3 + 1, none⟩ = some (.int .i64 xt) := HY.out.1
            have y2 : (W1.drewN nq).cell? ⟨ga, oa + k * 3 + 2, none⟩ = some (.int .i64 xk) := HY.out.2
            have hB2 := HB1.out.trans ((Below.newN W1 nq).mono HB1.out.size)
            have hK2 := (hK0.newN nq).self
            have HB2 := Lib.hid hB2
            clear hB2 hK0 b0 b1 b2 b3
            go_wp2
            generalize hW2 : W1.drewN nq = W2 at *
            clear hW2
            have d0 := cell_regrown b0'
            have d1 := cell_regrown b1'
            have d2 := cell_regrown b2'
            have d3 := cell_regrown b3'
            have d4 := cell_regrown y1
            have d5 := cell_regrown y2
            clear b0' b1' b2' b3' y1 y2
            have cV := fun (d : Nat) (os : Array Obj) => Calls.regrown_of ((v0 (hK2.then_ (below_regrown W2 d os)).self).mono fun _ _ ⟨he, hb⟩ => ⟨he, hb.below⟩)
            refine wp_region_quiet_below (by kernel_rfl) (by kernel_rfl) ?_
            repeat (go_big_quiet_step ((go_at_call 33; exact cV _ _)))
            refine wpQuiet_nil ?_
            intro _ hw'
            obtain ⟨⟨dq, osq⟩, hw''⟩ := hw'
            subst hw''
            go_wp2
            go_ret
            exact ⟨ret_int HQ.out.symm, HB2.out.trans ((below_regrown W2 dq osq).mono HB2.out.size)⟩
      have q1d : decide (1 ≤ t) = true := decide_eq_true q1
      by_cases q2 : t ≤ 65535
      case neg =>
            have HQ : Hid (E = 130) := HBAD.out (by rw [hcan, decide_eq_false q2, Bool.and_false]; rfl)
            have q2d : decide (t ≤ 65535) = false := decide_eq_false q2
            clear hcan
            go_wp2
            generalize hW1 : wr.alloc (.cells #[.int .i64 t, .int .i64 vk, .int .u64 vn, .string vs] 53) = W1 at *
            clear hW1
            obtain ⟨b0, b1, b2, b3⟩ := HBX.out
            dsimp only at b0 b1 b2 b3
            have p1 := HP.out
            go_quiet (fail)
            have b0' : (W1.drewN nq).cell? ⟨wr.heap.size, 0, none⟩ = some (.int .i64 t) := b0
            have b1' : (W1.drewN nq).cell? ⟨wr.heap.size, 1, none⟩ = some (.int .i64 vk) := b1
            have b2' : (W1.drewN nq).cell? ⟨wr.heap.size, 2, none⟩ = some (.int .u64 vn) := b2
            have b3' : (W1.drewN nq).cell? ⟨wr.heap.size, 3, none⟩ = some (.string vs) := b3
            have y1 : (W1.drewN nq).cell? ⟨ga, oa + k * 3 + 1, none⟩ = some (.int .i64 xt) := HY.out.1
            have y2 : (W1.drewN nq).cell? ⟨ga, oa + k * 3 + 2, none⟩ = some (.int .i64 xk) := HY.out.2
            have hB2 := HB1.out.trans ((Below.newN W1 nq).mono HB1.out.size)
            have hK2 := (hK0.newN nq).self
            have HB2 := Lib.hid hB2
            clear hB2 hK0 b0 b1 b2 b3
            go_wp2
            generalize hW2 : W1.drewN nq = W2 at *
            clear hW2
            have d0 := cell_regrown b0'
            have d1 := cell_regrown b1'
            have d2 := cell_regrown b2'
            have d3 := cell_regrown b3'
            have d4 := cell_regrown y1
            have d5 := cell_regrown y2
            clear b0' b1' b2' b3' y1 y2
            have cV := fun (d : Nat) (os : Array Obj) => Calls.regrown_of ((v0 (hK2.then_ (below_regrown W2 d os)).self).mono fun _ _ ⟨he, hb⟩ => ⟨he, hb.below⟩)
            refine wp_region_quiet_below (by kernel_rfl) (by kernel_rfl) ?_
            repeat (go_big_quiet_step ((go_at_call 33; exact cV _ _)))
            refine wpQuiet_nil ?_
            intro _ hw'
            obtain ⟨⟨dq, osq⟩, hw''⟩ := hw'
            subst hw''
            go_wp2
            go_ret
            exact ⟨ret_int HQ.out.symm, HB2.out.trans ((below_regrown W2 dq osq).mono HB2.out.size)⟩
      have q2d : decide (t ≤ 65535) = true := decide_eq_true q2
      by_cases q3 : m < t
      case neg =>
            have HQ : Hid (E = 130) := HBAD.out (by rw [hcan, decide_eq_false q3]; rfl)
            have q3d : decide (m < t) = false := decide_eq_false q3
            clear hcan
            go_wp2
            generalize hW1 : wr.alloc (.cells #[.int .i64 t, .int .i64 vk, .int .u64 vn, .string vs] 53) = W1 at *
            clear hW1
            obtain ⟨b0, b1, b2, b3⟩ := HBX.out
            dsimp only at b0 b1 b2 b3
            have p1 := HP.out
            go_quiet (fail)
            have b0' : (W1.drewN nq).cell? ⟨wr.heap.size, 0, none⟩ = some (.int .i64 t) := b0
            have b1' : (W1.drewN nq).cell? ⟨wr.heap.size, 1, none⟩ = some (.int .i64 vk) := b1
            have b2' : (W1.drewN nq).cell? ⟨wr.heap.size, 2, none⟩ = some (.int .u64 vn) := b2
            have b3' : (W1.drewN nq).cell? ⟨wr.heap.size, 3, none⟩ = some (.string vs) := b3
            have y1 : (W1.drewN nq).cell? ⟨ga, oa + k * 3 + 1, none⟩ = some (.int .i64 xt) := HY.out.1
            have y2 : (W1.drewN nq).cell? ⟨ga, oa + k * 3 + 2, none⟩ = some (.int .i64 xk) := HY.out.2
            have hB2 := HB1.out.trans ((Below.newN W1 nq).mono HB1.out.size)
            have hK2 := (hK0.newN nq).self
            have HB2 := Lib.hid hB2
            clear hB2 hK0 b0 b1 b2 b3
            go_wp2
            generalize hW2 : W1.drewN nq = W2 at *
            clear hW2
            have d0 := cell_regrown b0'
            have d1 := cell_regrown b1'
            have d2 := cell_regrown b2'
            have d3 := cell_regrown b3'
            have d4 := cell_regrown y1
            have d5 := cell_regrown y2
            clear b0' b1' b2' b3' y1 y2
            have cV := fun (d : Nat) (os : Array Obj) => Calls.regrown_of ((v0 (hK2.then_ (below_regrown W2 d os)).self).mono fun _ _ ⟨he, hb⟩ => ⟨he, hb.below⟩)
            refine wp_region_quiet_below (by kernel_rfl) (by kernel_rfl) ?_
            repeat (go_big_quiet_step ((go_at_call 33; exact cV _ _)))
            refine wpQuiet_nil ?_
            intro _ hw'
            obtain ⟨⟨dq, osq⟩, hw''⟩ := hw'
            subst hw''
            go_wp2
            go_ret
            exact ⟨ret_int HQ.out.symm, HB2.out.trans ((below_regrown W2 dq osq).mono HB2.out.size)⟩
      have q3d : decide (m < t) = true := decide_eq_true q3
      rw [q2d, decide_eq_true (show m < t by omega)] at hcan
      by_cases e1 : t = xt
      case neg =>
            have HQ : Hid (E = 130) := HOFF.out (by rw [decide_eq_false e1]; rfl)
            have e1d : (t != xt) = true := bne_iff_ne.2 e1
            clear hcan
            go_wp2
            generalize hW1 : wr.alloc (.cells #[.int .i64 t, .int .i64 vk, .int .u64 vn, .string vs] 53) = W1 at *
            clear hW1
            obtain ⟨b0, b1, b2, b3⟩ := HBX.out
            dsimp only at b0 b1 b2 b3
            have p1 := HP.out
            go_quiet (fail)
            have b0' : (W1.drewN nq).cell? ⟨wr.heap.size, 0, none⟩ = some (.int .i64 t) := b0
            have b1' : (W1.drewN nq).cell? ⟨wr.heap.size, 1, none⟩ = some (.int .i64 vk) := b1
            have b2' : (W1.drewN nq).cell? ⟨wr.heap.size, 2, none⟩ = some (.int .u64 vn) := b2
            have b3' : (W1.drewN nq).cell? ⟨wr.heap.size, 3, none⟩ = some (.string vs) := b3
            have y1 : (W1.drewN nq).cell? ⟨ga, oa + k * 3 + 1, none⟩ = some (.int .i64 xt) := HY.out.1
            have y2 : (W1.drewN nq).cell? ⟨ga, oa + k * 3 + 2, none⟩ = some (.int .i64 xk) := HY.out.2
            have hB2 := HB1.out.trans ((Below.newN W1 nq).mono HB1.out.size)
            have hK2 := (hK0.newN nq).self
            have HB2 := Lib.hid hB2
            clear hB2 hK0 b0 b1 b2 b3
            go_wp2
            generalize hW2 : W1.drewN nq = W2 at *
            clear hW2
            have d0 := cell_regrown b0'
            have d1 := cell_regrown b1'
            have d2 := cell_regrown b2'
            have d3 := cell_regrown b3'
            have d4 := cell_regrown y1
            have d5 := cell_regrown y2
            clear b0' b1' b2' b3' y1 y2
            have cV := fun (d : Nat) (os : Array Obj) => Calls.regrown_of ((v0 (hK2.then_ (below_regrown W2 d os)).self).mono fun _ _ ⟨he, hb⟩ => ⟨he, hb.below⟩)
            refine wp_region_quiet_below (by kernel_rfl) (by kernel_rfl) ?_
            repeat (go_big_quiet_step ((go_at_call 33; exact cV _ _)))
            refine wpQuiet_nil ?_
            intro _ hw'
            obtain ⟨⟨dq, osq⟩, hw''⟩ := hw'
            subst hw''
            go_wp2
            go_ret
            exact ⟨ret_int HQ.out.symm, HB2.out.trans ((below_regrown W2 dq osq).mono HB2.out.size)⟩
      have e1d : (t != xt) = false := by rw [e1]; exact bne_self_eq_false _
      by_cases e2 : vk = xk
      case neg =>
            have HQ : Hid (E = 130) := HOFF.out (by rw [decide_eq_false e2, Bool.and_false])
            have e2d : (vk != xk) = true := bne_iff_ne.2 e2
            have HE1 := Lib.hid e1
            clear hcan e1
            go_wp2
            generalize hW1 : wr.alloc (.cells #[.int .i64 t, .int .i64 vk, .int .u64 vn, .string vs] 53) = W1 at *
            clear hW1
            obtain ⟨b0, b1, b2, b3⟩ := HBX.out
            dsimp only at b0 b1 b2 b3
            have p1 := HP.out
            go_quiet (fail)
            have b0' : (W1.drewN nq).cell? ⟨wr.heap.size, 0, none⟩ = some (.int .i64 t) := b0
            have b1' : (W1.drewN nq).cell? ⟨wr.heap.size, 1, none⟩ = some (.int .i64 vk) := b1
            have b2' : (W1.drewN nq).cell? ⟨wr.heap.size, 2, none⟩ = some (.int .u64 vn) := b2
            have b3' : (W1.drewN nq).cell? ⟨wr.heap.size, 3, none⟩ = some (.string vs) := b3
            have y1 : (W1.drewN nq).cell? ⟨ga, oa + k * 3 + 1, none⟩ = some (.int .i64 xt) := HY.out.1
            have y2 : (W1.drewN nq).cell? ⟨ga, oa + k * 3 + 2, none⟩ = some (.int .i64 xk) := HY.out.2
            have hB2 := HB1.out.trans ((Below.newN W1 nq).mono HB1.out.size)
            have hK2 := (hK0.newN nq).self
            have HB2 := Lib.hid hB2
            clear hB2 hK0 b0 b1 b2 b3
            go_wp2
            generalize hW2 : W1.drewN nq = W2 at *
            clear hW2
            have d0 := cell_regrown b0'
            have d1 := cell_regrown b1'
            have d2 := cell_regrown b2'
            have d3 := cell_regrown b3'
            have d4 := cell_regrown y1
            have d5 := cell_regrown y2
            clear b0' b1' b2' b3' y1 y2
            have cV := fun (d : Nat) (os : Array Obj) => Calls.regrown_of ((v0 (hK2.then_ (below_regrown W2 d os)).self).mono fun _ _ ⟨he, hb⟩ => ⟨he, hb.below⟩)
            refine wp_region_quiet_below (by kernel_rfl) (by kernel_rfl) ?_
            repeat (go_big_quiet_step ((go_at_call 33; exact cV _ _)))
            refine wpQuiet_nil ?_
            intro _ hw'
            obtain ⟨⟨dq, osq⟩, hw''⟩ := hw'
            subst hw''
            go_wp2
            go_ret
            exact ⟨ret_int HQ.out.symm, HB2.out.trans ((below_regrown W2 dq osq).mono HB2.out.size)⟩
      have e2d : (vk != xk) = false := by rw [e2]; exact bne_self_eq_false _
      have hof : (decide (t = xt) && decide (vk = xk)) = true := by rw [decide_eq_true e1, decide_eq_true e2]; rfl
      have HE1 := Lib.hid e1
      have HE2 := Lib.hid e2
      clear e1 e2
      cases hV : okV ⟨vk, vn, vs⟩ with
      | false =>
            have HQ : Hid (E = 130) := HBAD.out (by rw [hcan, hV]; rfl)
            simp only [hV] at v0
            clear hcan hV hof
            go_wp2
            generalize hW1 : wr.alloc (.cells #[.int .i64 t, .int .i64 vk, .int .u64 vn, .string vs] 53) = W1 at *
            clear hW1
            obtain ⟨b0, b1, b2, b3⟩ := HBX.out
            dsimp only at b0 b1 b2 b3
            have p1 := HP.out
            go_quiet (fail)
            have b0' : (W1.drewN nq).cell? ⟨wr.heap.size, 0, none⟩ = some (.int .i64 t) := b0
            have b1' : (W1.drewN nq).cell? ⟨wr.heap.size, 1, none⟩ = some (.int .i64 vk) := b1
            have b2' : (W1.drewN nq).cell? ⟨wr.heap.size, 2, none⟩ = some (.int .u64 vn) := b2
            have b3' : (W1.drewN nq).cell? ⟨wr.heap.size, 3, none⟩ = some (.string vs) := b3
            have y1 : (W1.drewN nq).cell? ⟨ga, oa + k * 3 + 1, none⟩ = some (.int .i64 xt) := HY.out.1
            have y2 : (W1.drewN nq).cell? ⟨ga, oa + k * 3 + 2, none⟩ = some (.int .i64 xk) := HY.out.2
            have hB2 := HB1.out.trans ((Below.newN W1 nq).mono HB1.out.size)
            have hK2 := (hK0.newN nq).self
            have HB2 := Lib.hid hB2
            clear hB2 hK0 b0 b1 b2 b3
            go_wp2
            generalize hW2 : W1.drewN nq = W2 at *
            clear hW2
            have d0 := cell_regrown b0'
            have d1 := cell_regrown b1'
            have d2 := cell_regrown b2'
            have d3 := cell_regrown b3'
            have d4 := cell_regrown y1
            have d5 := cell_regrown y2
            clear b0' b1' b2' b3' y1 y2
            have cV := fun (d : Nat) (os : Array Obj) => Calls.regrown_of ((v0 (hK2.then_ (below_regrown W2 d os)).self).mono fun _ _ ⟨he, hb⟩ => ⟨he, hb.below⟩)
            refine wp_region_quiet_below (by kernel_rfl) (by kernel_rfl) ?_
            repeat (go_big_quiet_step ((go_at_call 33; exact cV _ _)))
            refine wpQuiet_nil ?_
            intro _ hw'
            obtain ⟨⟨dq, osq⟩, hw''⟩ := hw'
            subst hw''
            go_wp2
            go_ret
            exact ⟨ret_int HQ.out.symm, HB2.out.trans ((below_regrown W2 dq osq).mono HB2.out.size)⟩
      | true =>
            have HQ := Lib.hid (HGOOD.out (by rw [hcan, hV]; rfl) hof)
            simp only [hV] at v0
            clear hcan hV hof
            go_wp2
            generalize hW1 : wr.alloc (.cells #[.int .i64 t, .int .i64 vk, .int .u64 vn, .string vs] 53) = W1 at *
            clear hW1
            obtain ⟨b0, b1, b2, b3⟩ := HBX.out
            dsimp only at b0 b1 b2 b3
            have p1 := HP.out
            go_quiet (fail)
            have b0' : (W1.drewN nq).cell? ⟨wr.heap.size, 0, none⟩ = some (.int .i64 t) := b0
            have b1' : (W1.drewN nq).cell? ⟨wr.heap.size, 1, none⟩ = some (.int .i64 vk) := b1
            have b2' : (W1.drewN nq).cell? ⟨wr.heap.size, 2, none⟩ = some (.int .u64 vn) := b2
            have b3' : (W1.drewN nq).cell? ⟨wr.heap.size, 3, none⟩ = some (.string vs) := b3
            have y1 : (W1.drewN nq).cell? ⟨ga, oa + k * 3 + 1, none⟩ = some (.int .i64 xt) := HY.out.1
            have y2 : (W1.drewN nq).cell? ⟨ga, oa + k * 3 + 2, none⟩ = some (.int .i64 xk) := HY.out.2
            have hB2 := HB1.out.trans ((Below.newN W1 nq).mono HB1.out.size)
            have hK2 := (hK0.newN nq).self
            have HB2 := Lib.hid hB2
            clear hB2 hK0 b0 b1 b2 b3
            go_wp2
            generalize hW2 : W1.drewN nq = W2 at *
            clear hW2
            have d0 := cell_regrown b0'
            have d1 := cell_regrown b1'
            have d2 := cell_regrown b2'
            have d3 := cell_regrown b3'
            have d4 := cell_regrown y1
            have d5 := cell_regrown y2
            clear b0' b1' b2' b3' y1 y2
            have cV := fun (d : Nat) (os : Array Obj) => Calls.regrown_of ((v0 (hK2.then_ (below_regrown W2 d os)).self).mono fun _ _ ⟨he, hb⟩ => ⟨he, hb.below⟩)
            refine wp_region_quiet_below (by kernel_rfl) (by kernel_rfl) ?_
            repeat (go_big_quiet_step ((go_at_call 33; exact cV _ _)))
            refine wpQuiet_nil ?_
            intro _ hw'
            obtain ⟨⟨dq, osq⟩, hw''⟩ := hw'
            subst hw''
            go_wp2
            go_roundw
            case rel => exact ⟨k + 1, by go_num, by omega, HB2.out.trans ((below_regrown W2 dq osq).mono HB2.out.size), HQ.out.1, HQ.out.2⟩
            case measure => simp [intOf]; omega
end Go.Proofs.YtnflbnchkcigiaaDoor
