/- The walks of the reference's Check and Size. -/
import Derived.Test.YtnflbnchkcigiaaDoorTaGd
import Derived.Test.YtnflbnchkcigiaaDoorTaGe
import Derived.Lib.QuietBelow
namespace Go.Proofs.YtnflbnchkcigiaaDoor
open Go.RowKit Go.Sort
open Go.Lib (byteCells uvarint)

theorem ret2 {a b a' b' : Int} (h : a = a') (g : b = b') : Ending.returned (.tuple #[.int .i64 a, .int .i64 b]) = .returned (.tuple #[.int .i64 a', .int .i64 b']) := by rw [h, g]
theorem KSt.first0 {w0 w : World} (h : KSt w0 w) (o : Obj) : KSt (w.alloc o) (w.alloc o) := (h.new o).self
/-- whether a field can stand behind those ahead of it, in the reference's words -/
theorem can_ref {l : List Fd} {k : Nat} (hi : Is 0 (l.take k)) : (∀ p, k ≠ 0 → l[k - 1]? = some p → lastOf 0 (l.take k) = p.t) := by
  intro p hk hp
  obtain ⟨j, rfl⟩ : ∃ j, k = j + 1 := ⟨k - 1, by omega⟩
  rw [Nat.add_sub_cancel] at hp
  rw [take_snoc hp, last_snoc]

set_option maxRecDepth 100000 in
set_option maxHeartbeats 4000000 in
theorem rcheck_any {w0 w : World} (h : KSt w0 w) {A : Option Addr} {l : List Fd} (c : Nat) (hA : FRow w w.heap.size A l) (hg : Good l) (hl : l.length ≤ 140737488355328) :
    Calls Tryd.prog 34 #[.slice A l.length c] w fun e w' => e = .returned (.tuple #[.int .i64 (cat l), .int .i64 (cer l)]) ∧ Below w.heap.size w w' := by
  obtain ⟨a, ha⟩ : ∃ a, cat l = a := ⟨_, rfl⟩
  obtain ⟨d, hd⟩ : ∃ d, cer l = d := ⟨_, rfl⟩
  rw [ha, hd]
  have HR := Lib.hid (And.intro ha hd)
  have HG := Lib.hid hg
  have hl0 := hl
  have HA := Lib.hid hA
  have H0 := Lib.hid h
  clear ha hd hg hl hA h
  go_enter Tryd.func34, Tryd.ntmps34
  go_wp2
  go_loopw [4] (fun i wr => ∃ k : Nat, i = .int .i64 k ∧ k ≤ l.length ∧ Below w.heap.size w wr ∧ Hid (Is 0 (l.take k))) (fun i _ => l.length - (intOf i).toNat)
  case atStart => exact ⟨0, rfl, Nat.zero_le _, Below.refl _ _, by unfold Hid; rw [List.take_zero]; trivial⟩
  case round =>
    obtain ⟨k, rfl, hk, hB, HI⟩ := hrel
    by_cases hlt : k < l.length
    · have hltz : (k : Int) < (l.length : Int) := by omega
      have k00 : (0 : Int) ≤ (k : Int) := by omega
      obtain ⟨f, hf⟩ : ∃ f, l[k]? = some f := ⟨l[k], List.getElem?_eq_getElem hlt⟩
      obtain ⟨g, o, rfl, hgB, hcs⟩ := (HA.out.below hB).at_ (by omega)
      obtain ⟨c0, c1, c2, c3⟩ := hcs k f hf
      obtain ⟨hfit, hsz⟩ := HG.out.at_ hf
      have hgr : g < wr.heap.size := by have := hB.size; omega
      have hK0 := ((H0.out.self).then_ hB).first0 (.cells (ffC f) 53)
      have hBx := BoxF.new wr f 53
      have hB1 : Below w.heap.size w (wr.alloc (.cells (ffC f) 53)) := hB.alloc hB.size _
      have hbad : canF f (lastOf 0 (l.take k)) = false → a = k ∧ d = 1 := fun q => by
        obtain ⟨r1, r2, _⟩ := cer_bad hf HI.out q
        exact ⟨HR.out.1.symm.trans r2, HR.out.2.symm.trans r1⟩
      have hgood : canF f (lastOf 0 (l.take k)) = true → Is 0 (l.take (k + 1)) := fun q => (go_on hf HI.out q hfit).1
      have hlast0 := last_nn HI.out
      have hlz : k = 0 → lastOf 0 (l.take k) = 0 := fun q => by subst q; rfl
      have hcan : canF f (lastOf 0 (l.take k)) = (decide (lastOf 0 (l.take k) < f.t) && decide (f.t ≤ 65535) && okV f.v) := rfl
      obtain ⟨m, hm⟩ : ∃ m, lastOf 0 (l.take k) = m := ⟨_, rfl⟩
      have hprev := fun p (hk0 : k ≠ 0) (hp : l[k - 1]? = some p) => (can_ref HI.out p hk0 hp).symm.trans hm
      rw [hm] at hbad hgood hlast0 hlz hcan
      have v0 := fun {W : World} (q : KSt W W) => rkvalid_any q f.v hfit hsz
      have HBAD := Lib.hid hbad
      have HGOOD := Lib.hid hgood
      have HB1 := Lib.hid hB1
      have HBX := Lib.hid hBx
      clear hm hbad hgood hfit hsz hf hB1 hBx
      by_cases q1 : f.t < 1
      · have HQ : Hid (a = k ∧ d = 1) := HBAD.out (by rw [hcan, decide_eq_false (by omega)]; rfl)
        clear hcan hcs hprev hlz v0 hK0
        obtain ⟨t, v⟩ := f
        obtain ⟨vk, vn, vs⟩ := v
        dsimp only at *
        have q1d : decide (t < 1) = true := decide_eq_true q1
        go_wp2
        go_quiet (fail)
        go_wp2
        go_ret2
        exact ⟨ret2 HQ.out.1.symm HQ.out.2.symm, Below.thenN HB1.out _⟩
      · have q1d : decide (f.t < 1) = false := decide_eq_false q1
        by_cases q2 : 65535 < f.t
        · have HQ : Hid (a = k ∧ d = 1) := HBAD.out (by rw [hcan, decide_eq_false (show ¬ f.t ≤ 65535 by omega), Bool.and_false]; rfl)
          clear hcan hcs hprev hlz v0 hK0
          obtain ⟨t, v⟩ := f
          obtain ⟨vk, vn, vs⟩ := v
          dsimp only at *
          have q2d : decide (65535 < t) = true := decide_eq_true q2
          go_wp2
          go_quiet (fail)
          go_wp2
          go_ret2
          exact ⟨ret2 HQ.out.1.symm HQ.out.2.symm, Below.thenN HB1.out _⟩
        · have q2d : decide (65535 < f.t) = false := decide_eq_false q2
          have hd2 : decide (f.t ≤ 65535) = true := decide_eq_true (by omega)
          rw [hd2, Bool.and_true] at hcan
          clear hd2
          by_cases k0 : k = 0
          · have hm0 := hlz k0
            have hlt0 : decide (m < f.t) = true := decide_eq_true (by omega)
            rw [hlt0, Bool.true_and] at hcan
            have z0 : decide ((0 : Int) < (k : Int)) = false := decide_eq_false (by omega)
            have z1 : decide (0 < k) = false := decide_eq_false (by omega)
            have z2 : ¬ 0 < k := by omega
            have z3 : ¬ (0 : Int) < (k : Int) := by omega
            clear hlt0 hm0 hlz hprev k0 hcs
            cases hV : okV f.v with
            | true =>
              have hnext := Lib.hid (HGOOD.out (hcan.trans hV))
              simp only [hV] at v0
              clear hV hcan
              obtain ⟨t, v⟩ := f
              obtain ⟨vk, vn, vs⟩ := v
              simp only [vv] at v0
              unfold ffC at hK0
              dsimp only at *
              have HBX2 : Hid (BoxF (wr.alloc (.cells #[.int .i64 t, .int .i64 vk, .int .u64 vn, .string vs] 53)) wr.heap.size ⟨t, ⟨vk, vn, vs⟩⟩) := HBX.out
              have HB2 : Hid (Below w.heap.size w (wr.alloc (.cells #[.int .i64 t, .int .i64 vk, .int .u64 vn, .string vs] 53))) := HB1.out
              clear HBX HB1
              go_wp2
              generalize wr.alloc (.cells #[.int .i64 t, .int .i64 vk, .int .u64 vn, .string vs] 53) = W1 at *
              obtain ⟨b0, b1, b2, b3⟩ := HBX2.out
              dsimp only at b0 b1 b2 b3
              have d0 := cell_regrown b0
              have d1 := cell_regrown b1
              have d2 := cell_regrown b2
              have d3 := cell_regrown b3
              have cV := fun (d : Nat) (os : Array Obj) => Calls.regrown_of ((v0 (hK0.then_ (below_regrown W1 d os)).self).mono fun _ _ ⟨he, hb⟩ => ⟨he, hb.below⟩)
              refine wp_region_quiet_below (by kernel_rfl) (by kernel_rfl) ?_
              repeat (go_big_quiet_step ((go_at_call 33; exact cV _ _)))
              refine wpQuiet_nil ?_
              intro _ hw'
              obtain ⟨⟨dq, osq⟩, hw''⟩ := hw'
              subst hw''
              go_wp2
              go_roundw
              case rel => exact ⟨k + 1, by go_num, by omega, HB2.out.trans ((below_regrown W1 dq osq).mono HB2.out.size), hnext.out⟩
              case measure => simp [intOf]; omega
            | false =>
              have HQ : Hid (a = k ∧ d = 1) := HBAD.out (hcan.trans hV)
              simp only [hV] at v0
              clear hV hcan
              obtain ⟨t, v⟩ := f
              obtain ⟨vk, vn, vs⟩ := v
              simp only [vv] at v0
              unfold ffC at hK0
              dsimp only at *
              have HBX2 : Hid (BoxF (wr.alloc (.cells #[.int .i64 t, .int .i64 vk, .int .u64 vn, .string vs] 53)) wr.heap.size ⟨t, ⟨vk, vn, vs⟩⟩) := HBX.out
              have HB2 : Hid (Below w.heap.size w (wr.alloc (.cells #[.int .i64 t, .int .i64 vk, .int .u64 vn, .string vs] 53))) := HB1.out
              clear HBX HB1
              go_wp2
              generalize wr.alloc (.cells #[.int .i64 t, .int .i64 vk, .int .u64 vn, .string vs] 53) = W1 at *
              obtain ⟨b0, b1, b2, b3⟩ := HBX2.out
              dsimp only at b0 b1 b2 b3
              have d0 := cell_regrown b0
              have d1 := cell_regrown b1
              have d2 := cell_regrown b2
              have d3 := cell_regrown b3
              have cV := fun (d : Nat) (os : Array Obj) => Calls.regrown_of ((v0 (hK0.then_ (below_regrown W1 d os)).self).mono fun _ _ ⟨he, hb⟩ => ⟨he, hb.below⟩)
              refine wp_region_quiet_below (by kernel_rfl) (by kernel_rfl) ?_
              repeat (go_big_quiet_step ((go_at_call 33; exact cV _ _)))
              refine wpQuiet_nil ?_
              intro _ hw'
              obtain ⟨⟨dq, osq⟩, hw''⟩ := hw'
              subst hw''
              go_wp2
              go_ret2
              exact ⟨ret2 HQ.out.1.symm HQ.out.2.symm, HB2.out.trans ((below_regrown W1 dq osq).mono HB2.out.size)⟩
          · obtain ⟨j, hj⟩ : ∃ j, k = j + 1 := ⟨k - 1, by omega⟩
            obtain ⟨p, hp⟩ : ∃ p, l[j]? = some p := ⟨l[j], List.getElem?_eq_getElem (by omega)⟩
            have hpm := hprev p k0 (by rw [hj, Nat.add_sub_cancel]; exact hp)
            obtain ⟨p0, _, _, _⟩ := hcs j p hp
            obtain ⟨T, hT⟩ : ∃ T, p.t = T := ⟨_, rfl⟩
            rw [hT] at p0 hpm
            subst hpm
            have j0 : (0 : Int) ≤ (j : Int) := by omega
            have j1 : (j : Int) < (l.length : Int) := by omega
            have jw : IntKind.i64.wrap ((k : Int) - 1) = (j : Int) := by rw [IntKind.wrap_i64]; omega
            have z0 : decide ((0 : Int) < (k : Int)) = true := decide_eq_true (by omega)
            have z1 : decide (0 < k) = true := decide_eq_true (by omega)
            have z2 : 0 < k := by omega
            have z3 : (0 : Int) < (k : Int) := by omega
            have HJ := Lib.hid hj
            clear hprev hlz hcs hp hT hj k0
            by_cases q3 : f.t ≤ T
            · have HQ : Hid (a = k ∧ d = 1) := HBAD.out (by rw [hcan, decide_eq_false (show ¬ T < f.t by omega)]; rfl)
              clear hcan v0 hK0
              obtain ⟨t, v⟩ := f
              obtain ⟨vk, vn, vs⟩ := v
              dsimp only at *
              have q3d : decide (t ≤ T) = true := decide_eq_true q3
              go_wp2
              go_quiet (fail)
              go_wp2
              go_ret2
              exact ⟨ret2 HQ.out.1.symm HQ.out.2.symm, Below.thenN HB1.out _⟩
            · have q3d : decide (f.t ≤ T) = false := decide_eq_false q3
              rw [decide_eq_true (show T < f.t by omega), Bool.true_and] at hcan
              have hp1 : (wr.alloc (.cells (ffC f) 53)).cell? ⟨g, o + j * 4, none⟩ = some (.int .i64 T) := ((Below.cells ((Below.refl wr.heap.size wr).alloc (Nat.le_refl _) (.cells (ffC f) 53))).1 g _ hgr).trans p0
              have HP1 := Lib.hid hp1
              clear hp1
              cases hV : okV f.v with
              | true =>
                have hnext := Lib.hid (HGOOD.out (hcan.trans hV))
                simp only [hV] at v0
                clear hV hcan
                obtain ⟨t, v⟩ := f
                obtain ⟨vk, vn, vs⟩ := v
                simp only [vv] at v0
                unfold ffC at hK0
                dsimp only at *
                have HBX2 : Hid (BoxF (wr.alloc (.cells #[.int .i64 t, .int .i64 vk, .int .u64 vn, .string vs] 53)) wr.heap.size ⟨t, ⟨vk, vn, vs⟩⟩) := HBX.out
                have HB2 : Hid (Below w.heap.size w (wr.alloc (.cells #[.int .i64 t, .int .i64 vk, .int .u64 vn, .string vs] 53))) := HB1.out
                clear HBX HB1
                go_wp2
                have HP2 : Hid ((wr.alloc (.cells #[.int .i64 t, .int .i64 vk, .int .u64 vn, .string vs] 53)).cell? ⟨g, o + j * 4, none⟩ = some (.int .i64 T)) := HP1.out
                clear HP1
                generalize wr.alloc (.cells #[.int .i64 t, .int .i64 vk, .int .u64 vn, .string vs] 53) = W1 at *
                obtain ⟨b0, b1, b2, b3⟩ := HBX2.out
                dsimp only at b0 b1 b2 b3
                have d0 := cell_regrown b0
                have d1 := cell_regrown b1
                have d2 := cell_regrown b2
                have d3 := cell_regrown b3
                have d4 := cell_regrown HP2.out
                have cV := fun (d : Nat) (os : Array Obj) => Calls.regrown_of ((v0 (hK0.then_ (below_regrown W1 d os)).self).mono fun _ _ ⟨he, hb⟩ => ⟨he, hb.below⟩)
                refine wp_region_quiet_below (by kernel_rfl) (by kernel_rfl) ?_
                repeat (go_big_quiet_step ((go_at_call 33; exact cV _ _)))
                refine wpQuiet_nil ?_
                intro _ hw'
                obtain ⟨⟨dq, osq⟩, hw''⟩ := hw'
                subst hw''
                go_wp2
                go_roundw
                case rel => exact ⟨k + 1, by go_num, by omega, HB2.out.trans ((below_regrown W1 dq osq).mono HB2.out.size), hnext.out⟩
                case measure => simp [intOf]; omega
              | false =>
                have HQ : Hid (a = k ∧ d = 1) := HBAD.out (hcan.trans hV)
                simp only [hV] at v0
                clear hV hcan
                obtain ⟨t, v⟩ := f
                obtain ⟨vk, vn, vs⟩ := v
                simp only [vv] at v0
                unfold ffC at hK0
                dsimp only at *
                have HBX2 : Hid (BoxF (wr.alloc (.cells #[.int .i64 t, .int .i64 vk, .int .u64 vn, .string vs] 53)) wr.heap.size ⟨t, ⟨vk, vn, vs⟩⟩) := HBX.out
                have HB2 : Hid (Below w.heap.size w (wr.alloc (.cells #[.int .i64 t, .int .i64 vk, .int .u64 vn, .string vs] 53))) := HB1.out
                clear HBX HB1
                go_wp2
                have HP2 : Hid ((wr.alloc (.cells #[.int .i64 t, .int .i64 vk, .int .u64 vn, .string vs] 53)).cell? ⟨g, o + j * 4, none⟩ = some (.int .i64 T)) := HP1.out
                clear HP1
                generalize wr.alloc (.cells #[.int .i64 t, .int .i64 vk, .int .u64 vn, .string vs] 53) = W1 at *
                obtain ⟨b0, b1, b2, b3⟩ := HBX2.out
                dsimp only at b0 b1 b2 b3
                have d0 := cell_regrown b0
                have d1 := cell_regrown b1
                have d2 := cell_regrown b2
                have d3 := cell_regrown b3
                have d4 := cell_regrown HP2.out
                have cV := fun (d : Nat) (os : Array Obj) => Calls.regrown_of ((v0 (hK0.then_ (below_regrown W1 d os)).self).mono fun _ _ ⟨he, hb⟩ => ⟨he, hb.below⟩)
                refine wp_region_quiet_below (by kernel_rfl) (by kernel_rfl) ?_
                repeat (go_big_quiet_step ((go_at_call 33; exact cV _ _)))
                refine wpQuiet_nil ?_
                intro _ hw'
                obtain ⟨⟨dq, osq⟩, hw''⟩ := hw'
                subst hw''
                go_wp2
                go_ret2
                exact ⟨ret2 HQ.out.1.symm HQ.out.2.symm, HB2.out.trans ((below_regrown W1 dq osq).mono HB2.out.size)⟩
    · obtain rfl : k = l.length := by omega
      have hi := HI.out
      rw [List.take_length] at hi
      have cl := fun (q : FRow wr wr.heap.size A l) => rlen_any c q HG.out hl0 hi
      have hq := (HA.out.below hB).more hB.size
      by_cases hlong : 16777215 < (enc l).length
      · obtain ⟨r1, r2, _⟩ := cer_long hi hlong
        have HQ : Hid (a = 0 ∧ d = 2) := ⟨HR.out.1.symm.trans r2, HR.out.2.symm.trans r1⟩
        have hrl : rlen l = 16777216 := by unfold rlen; rw [if_pos hlong]
        have z16 : ((16777216 : Nat) : Int) = 16777216 := rfl
        simp only [hrl, z16] at cl
        clear r1 r2 hlong hrl hi z16
        go_wp2_with (go_at_call 46; refine (cl hq).mono ?_; rintro e w1 ⟨rfl, hb1⟩)
        go_ret2
        exact ⟨ret2 HQ.out.1.symm HQ.out.2.symm, hB.trans (hb1.mono hB.size)⟩
      · obtain ⟨r1, r2, _⟩ := cer_ok hi (by omega)
        have HQ : Hid (a = 0 ∧ d = 0) := ⟨HR.out.1.symm.trans r2, HR.out.2.symm.trans r1⟩
        have hrl : rlen l ≤ 16777215 := by unfold rlen; rw [if_neg hlong]; omega
        obtain ⟨R, hR⟩ : ∃ R, rlen l = R := ⟨_, rfl⟩
        rw [hR] at hrl
        simp only [hR] at cl
        have hrz : ¬ ((16777215 : Int) < (R : Int)) := by omega
        clear r1 r2 hlong hR hi
        go_wp2_with (go_at_call 46; refine (cl hq).mono ?_; rintro e w1 ⟨rfl, hb1⟩)
        go_ret2
        exact ⟨ret2 HQ.out.1.symm HQ.out.2.symm, hB.trans (hb1.mono hB.size)⟩

end Go.Proofs.YtnflbnchkcigiaaDoor
