/- The walk of TableMemory. -/
import Derived.Test.YtnflbnchkcigiaaDoorTabMemA
import Derived.Test.YtnflbnchkcigiaaDoorStepApp
import Derived.RegionTactic
namespace Go.Proofs.YtnflbnchkcigiaaDoor
open Go.RowKit

set_option maxRecDepth 100000 in
set_option maxHeartbeats 8000000 in
theorem memlaw_any {w : World} (h : KSt w w) {A A' : Option Addr} {H : List Tm} {l : List Fd} (c c' : Nat) (n : ByteArray) (t v : Int) (ha : HsAt w w.heap.size A H) (hf : Hfit H) (hA : FRow w w.heap.size A' l) (hg : Good l) (hl : l.length * 40 ≤ 140737488351232) (hn : n.size ≤ 140737488351232) :
    Calls Tryd.prog 6 #[.agg #[.slice A H.length c, .string n, .int .i64 t, .int .i64 v], .slice A' l.length c'] w (Yes w) := by
  have hB : Below w.heap.size w (w.alloc (.cells #[.slice A H.length c, .string n, .int .i64 t, .int .i64 v] 26)) := (Below.refl _ _).alloc (Nat.le_refl _) _
  have k := CB.new w 26 #[.slice A H.length c, .string n, .int .i64 t, .int .i64 v]
  have c1 := awake_any (h.then_ hB)
  go_enter Tryd.func6, Tryd.ntmps6
  go_wp2_with fail
  refine c1.mono ?_
  rintro e w1 ⟨rfl, hb1⟩
  have k1 := k.below hb1
  have hB1 : Below w.heap.size w w1 := Below.both hB hb1
  have HA := Lib.hid (ha.then_ hB1)
  have B1 := Lib.hid hB1
  have K1 := Lib.hid k1
  have p0 : w1.cell? ⟨w.heap.size, 0, none⟩ = some (.slice A H.length c) := k1.at_ 0
  have p2 : w1.cell? ⟨w.heap.size, 2, none⟩ = some (.int .i64 t) := k1.at_ 2
  have p3 : w1.cell? ⟨w.heap.size, 3, none⟩ = some (.int .i64 v) := k1.at_ 3
  have C2 := rcolumns_any c t v HA.out hf
  have hcf := colsR_fit hf t v
  obtain ⟨R, hR⟩ : ∃ R, (colsR H t v).1 = R := ⟨_, rfl⟩
  obtain ⟨E, hE⟩ : ∃ E, (colsR H t v).2 = E := ⟨_, rfl⟩
  rw [hR] at hcf
  rw [hR, hE] at C2
  obtain ⟨M, hM⟩ : ∃ M, R.length = M := ⟨_, rfl⟩
  rw [hM] at C2
  obtain ⟨L, hL⟩ : ∃ L, l.length = L := ⟨_, rfl⟩
  have HCF := Lib.hid (And.intro hcf hM)
  have HLL := Lib.hid hL
  rw [hL] at hl
  have HLB := Lib.hid hl
  have HG := Lib.hid (And.intro hA (And.intro hg h))
  have HNN := Lib.hid hn
  clear c1 hb1 hB hB1 ha h k k1 hf hR hE hcf hA hg hl hn
  rw [hL]
  clear hL hM
  go_wp2_with fail
  refine C2.mono ?_
  rintro e w2 ⟨A5, c5, rfl, n2⟩
  clear C2 p0 p2 p3
  have k2 := K1.out.below n2.old
  have B2 := Lib.hid (B1.out.trans (n2.old.mono B1.out.size))
  have K2 := Lib.hid k2
  have D2 := Lib.hid (And.intro n2.reads n2.room)
  clear n2 k2 K1 B1 HA
  by_cases q1 : 65536 < M
  · have q1z : (65536 : Int) < (M : Int) := by omega
    have q1d : decide ((65536 : Int) < (M : Int)) = true := decide_eq_true q1z
    have q1e : decide (65536 < M) = true := decide_eq_true q1
    go_wp2
    go_ret
    exact ⟨rfl, B2.out⟩
  have q1z : ¬ (65536 : Int) < (M : Int) := by omega
  have q1d : decide ((65536 : Int) < (M : Int)) = false := decide_eq_false q1z
  have q1e : decide (65536 < M) = false := decide_eq_false q1
  by_cases q2 : 65536 < L
  · have q2z : (65536 : Int) < (L : Int) := by omega
    have q2d : decide ((65536 : Int) < (L : Int)) = true := decide_eq_true q2z
    have q2e : decide (65536 < L) = true := decide_eq_true q2
    go_wp2
    go_ret
    exact ⟨rfl, B2.out⟩
  have q2z : ¬ (65536 : Int) < (L : Int) := by omega
  have q2d : decide ((65536 : Int) < (L : Int)) = false := decide_eq_false q2z
  have q2e : decide (65536 < L) = false := decide_eq_false q2
  -- the version, with marks behind it
  have hmk : ∀ W : World, (Instr.makeSlice 29 (.int .i64 0) (.int .i64 ((M : Int) + 9))).run Tryd.prog W = .ok (.slice (some ⟨W.heap.size, 0, none⟩) 0 (M + 9)) (W.alloc (.cells (flatR coC (List.replicate (M + 9) zCo)).toArray 35)) :=
    fun W => run_mk_rows zCo coC_size (by decide) Tryd.underlying29 infoCo 0 (M + 9) (Nat.zero_le _) (by omega) (by omega) W
  have b3 : Below w2.heap.size w2 (w2.alloc (.cells (flatR coC (List.replicate (M + 9) zCo)).toArray 35)) := (Below.refl _ _).alloc (Nat.le_refl _) _
  obtain ⟨A4, c4, w4, hr4, ho4, _, _, hb4⟩ := run_app_rows (P := Tryd.prog) (cS := c5) (TS := 29) coC_size coC_one (by decide) Tryd.underlying29 infoCo rfl (OwnR.room0 (T := 35) w2 zCo (M + 9) coC_size (by simp only [maxLen]; omega)) (CoR.then_ D2.out.1 b3) (by have := HCF.out.2; simp only [List.length_nil]; omega) (by have := HCF.out.2; simp only [List.length_nil]; omega) b3.size
  rw [List.nil_append] at hr4 ho4
  rw [HCF.out.2] at hr4
  have HR4 : Hid ((Builtin.append_ #[29, 29] 29 #[.slice (some ⟨w2.heap.size, 0, none⟩) 0 (M + 9), .slice A5 M c5]).run Tryd.prog (w2.alloc (.cells (flatR coC (List.replicate (M + 9) zCo)).toArray 35)) = .ok (.slice A4 M c4) w4) := hr4
  have B4 := Lib.hid (B2.out.trans ((b3.trans hb4).mono B2.out.size))
  have K4 := Lib.hid ((K2.out.below b3).keep (hb4.block _ (by have := K2.out.len; omega)))
  have D4 := Lib.hid ((D2.out.1.below (b3.trans hb4)))
  have O4 := Lib.hid ho4
  have S4 := Lib.hid (b3.trans hb4)
  clear hr4 ho4 hb4 b3
  go_wp2_with (at_builtin; refine wpList_append_run rfl (.tmp 46) (.tmp 47) _ rfl rfl rfl HR4.out ?_)
  clear hmk HR4
  go_loopw [8, 9] (fun m i wr => ∃ (k ck : Nat) (Ak : Option Addr), m = .slice Ak (M + k) ck ∧ i = .int .i64 k ∧ k ≤ 9 ∧ Hid (OwnR coC 3 35 wr w2.heap.size Ak ck (R ++ mksC k)) ∧ Hid (Below w2.heap.size w4 wr)) (fun _ i _ => 9 - (intOf i).toNat)
  case atStart => exact ⟨0, c4, A4, rfl, rfl, Nat.zero_le _, by unfold Hid mksC; simpa using O4.out, Below.refl _ _⟩
  case round =>
    obtain ⟨k, ck, Ak, rfl, rfl, hk, HO, HW⟩ := hrel
    by_cases hlt : k < 9
    · have hltz : (k : Int) < 9 := by omega
      obtain ⟨A', c'', w', hr, ho, hb⟩ := run_app_fresh (P := Tryd.prog) (TS := 29) (mkC k) coC_size coC_one (by decide) Tryd.underlying29 infoCo rfl HO.out (by rw [List.length_append, mksC_len, HCF.out.2]; omega) (by rw [List.length_append, mksC_len, HCF.out.2]; omega) (Nat.le_trans S4.out.size HW.out.size)
      rw [List.append_assoc, ← mksC_succ] at ho
      rw [List.length_append, mksC_len, HCF.out.2] at hr
      have HRR := Lib.hid hr
      have HOO := Lib.hid ho
      have HBB := Lib.hid (HW.out.trans hb)
      clear hr ho hb
      unfold coC mkC wMark at HRR
      dsimp only at HRR
      go_wp2_with (at_builtin; refine wpList_append_run rfl (.tmp 53) (.tmp 56) _ rfl rfl rfl HRR.out ?_)
      go_roundw
      case rel => exact ⟨k + 1, c'', A', rfl, by go_num, by omega, HOO.out, HBB.out⟩
      case measure => simp [intOf]; omega
    · obtain rfl : k = 9 := by omega
      obtain ⟨w5, hw5⟩ : ∃ W : World, W = wr := ⟨_, rfl⟩
      subst hw5
      have hsz := S4.out.size
      have hk5 := K4.out.keep (HW.out.block _ (by have := K2.out.len; exact this))
      have p1 : w5.cell? ⟨w.heap.size, 1, none⟩ = some (.string n) := hk5.at_ 1
      have p1d : w5.drew.cell? ⟨w.heap.size, 1, none⟩ = some (.string n) := hk5.at_ 1
      have p1a : ∀ o : Obj, (w5.alloc o).drew.cell? ⟨w.heap.size, 1, none⟩ = some (.string n) := fun o => (CB.al hk5 o).at_ 1
      have p1b : ∀ o o' : Obj, ((w5.alloc o).alloc o').drew.cell? ⟨w.heap.size, 1, none⟩ = some (.string n) := fun o o' => (CB.al (CB.al hk5 o) o').at_ 1
      have hlt5 := hk5.len
      have hroom := OwnR.room HO.out
      rw [List.length_append, mksC_len, HCF.out.2] at hroom
      have hcutM : ∀ W : World, (Instr.sliceAt 29 (.slice Ak (M + 9) ck) none (some (.int .i64 (M : Int))) none).run Tryd.prog W = .ok (.slice Ak M ck) W := CR.run_h (P := Tryd.prog) (s := 3) Tryd.underlying29 sizeCo Ak (M + 9) ck M (by omega)
      go_upto_region 13 with fail
      go_cut [10] (fun s10 wx => ∃ g10 gT : Nat, s10 = .pointer (some ⟨g10, 0, none⟩) ∧ Hid (His w5 n Ak M ck wx g10 gT))
      case first =>
        go_region_law (fail)
        all_goals
          go_wp2_with fail
          go_meet
          first
            | (obtain ⟨h0, h1, h2, hb⟩ := three_blocks w5 #[.slice none 0 0, .slice Ak M ck] 45 #[.string n, .slice (some ⟨w5.heap.size, 0, none⟩) 1 1] 48 #[.slice (some ⟨w5.heap.size + 1, 0, none⟩) 1 1] 24; exact ⟨_, _, rfl, _, h2, h1, h0, hb⟩)
            | (obtain ⟨h0, h1, h2, hb⟩ := three_blocks w5 #[.slice none 0 0, .slice Ak M ck] 45 #[.slice (some ⟨w5.heap.size + 1 + 1, 0, none⟩) 1 1] 24 #[.string n, .slice (some ⟨w5.heap.size, 0, none⟩) 1 1] 48; exact ⟨_, _, rfl, _, h1, h2, h0, hb⟩)
            | (obtain ⟨h0, h1, h2, hb⟩ := three_blocks w5 #[.slice (some ⟨w5.heap.size + 1 + 1, 0, none⟩) 1 1] 24 #[.slice none 0 0, .slice Ak M ck] 45 #[.string n, .slice (some ⟨w5.heap.size + 1, 0, none⟩) 1 1] 48; exact ⟨_, _, rfl, _, h0, h2, h1, hb⟩)
      case rest =>
        obtain ⟨g10, gT, rfl, HHis⟩ := hcut
        obtain ⟨gV, hhs⟩ : ∃ gV, His w5 n Ak M ck wc g10 gT := ⟨0, HHis.out⟩
        have hbc : Below w5.heap.size w5 wc := by obtain ⟨_, _, _, _, hb⟩ := HHis.out; exact hb
        have B5 : Below w.heap.size w w5 := B4.out.trans (HW.out.mono B2.out.size)
        have BC := Lib.hid (B5.trans (hbc.mono B5.size))
        have hz25 : w2.heap.size ≤ w5.heap.size := Nat.le_trans hsz HW.out.size
        have OC := Lib.hid (HO.out.then_ hbc)
        have DC := Lib.hid ((D4.out.below HW.out).below (hbc.mono hz25))
        have KC := Lib.hid (hk5.below hbc)
        have RC := Lib.hid (HG.out.1.below BC.out)
        have ZC := Lib.hid (Nat.le_trans hz25 hbc.size)
        clear hhs gV hbc B5 hz25 HO D4 hk5 p1 p1d p1a p1b hcutM S4 O4 K4 B4 HW hsz hlt5
        -- the record, with marks behind it
        have hmk : ∀ W : World, (Instr.makeSlice 39 (.int .i64 0) (.int .i64 ((L : Int) + 9))).run Tryd.prog W = .ok (.slice (some ⟨W.heap.size, 0, none⟩) 0 (L + 9)) (W.alloc (.cells (flatR ffC (List.replicate (L + 9) ⟨0, ⟨0, 0, ⟨#[]⟩⟩⟩)).toArray 53)) :=
          fun W => run_mk_rows _ ffC_size (by decide) Tryd.underlying39 infoFd 0 (L + 9) (Nat.zero_le _) (by omega) (by omega) W
        have b6 : Below wc.heap.size wc (wc.alloc (.cells (flatR ffC (List.replicate (L + 9) ⟨0, ⟨0, 0, ⟨#[]⟩⟩⟩)).toArray 53)) := (Below.refl _ _).alloc (Nat.le_refl _) _
        obtain ⟨A7, c7, w7, hr7, ho7, _, _, hb7⟩ := run_app_rows (P := Tryd.prog) (cS := c') (TS := 39) ffC_size ffC_one (by decide) Tryd.underlying39 infoFd rfl (OwnR.room0 (T := 53) wc ⟨0, ⟨0, 0, ⟨#[]⟩⟩⟩ (L + 9) ffC_size (by simp only [maxLen]; omega)) ((Rows.of_frow RC.out).below (b6.mono BC.out.size)) (by have := HLL.out; simp only [List.length_nil]; omega) (by have := HLL.out; simp only [List.length_nil]; omega) b6.size
        rw [List.nil_append] at hr7 ho7
        rw [HLL.out] at hr7
        have HR7 : Hid ((Builtin.append_ #[39, 39] 39 #[.slice (some ⟨wc.heap.size, 0, none⟩) 0 (L + 9), .slice A' L c']).run Tryd.prog (wc.alloc (.cells (flatR ffC (List.replicate (L + 9) ⟨0, ⟨0, 0, ⟨#[]⟩⟩⟩)).toArray 53)) = .ok (.slice A7 L c7) w7) := hr7
        have O7 := Lib.hid ho7
        have S7 := Lib.hid (b6.trans hb7)
        clear hr7 ho7 hb7 b6
        go_wp2_with (at_builtin; refine wpList_append_run rfl (.tmp 72) (.tmp 73) _ rfl rfl rfl HR7.out ?_)
        clear hmk HR7
        go_loopw [11, 12] (fun m i wr => ∃ (k cg : Nat) (Ag : Option Addr), m = .slice Ag (L + k) cg ∧ i = .int .i64 k ∧ k ≤ 9 ∧ Hid (OwnR ffC 4 53 wr wc.heap.size Ag cg (l ++ mksF k)) ∧ Hid (Below wc.heap.size w7 wr)) (fun _ i _ => 9 - (intOf i).toNat)
        case atStart => exact ⟨0, c7, A7, rfl, rfl, Nat.zero_le _, by unfold Hid mksF; simpa using O7.out, Below.refl _ _⟩
        case round =>
          obtain ⟨k, cg, Ag, rfl, rfl, hk, HO, HW⟩ := hrel
          by_cases hlt : k < 9
          · have hltz : (k : Int) < 9 := by omega
            obtain ⟨A8, c8, w', hr, ho, hb⟩ := run_app_fresh (P := Tryd.prog) (TS := 39) (mkF k) ffC_size ffC_one (by decide) Tryd.underlying39 infoFd rfl HO.out (by rw [List.length_append, mksF_len, HLL.out]; omega) (by rw [List.length_append, mksF_len, HLL.out]; omega) (Nat.le_trans S7.out.size HW.out.size)
            rw [List.append_assoc, ← mksF_succ] at ho
            rw [List.length_append, mksF_len, HLL.out] at hr
            have HRR := Lib.hid hr
            have HOO := Lib.hid ho
            have HBB := Lib.hid (HW.out.trans hb)
            have hneg : IntKind.i64.wrap (-(k : Int)) = -(k : Int) := by rw [IntKind.wrap_i64]; omega
            clear hr ho hb
            unfold ffC mkF at HRR
            dsimp only at HRR
            go_wp2_with (at_builtin; refine wpList_append_run rfl (.tmp 79) (.tmp 83) _ rfl rfl rfl HRR.out ?_)
            go_roundw
            case rel => exact ⟨k + 1, c8, A8, rfl, by go_num, by omega, HOO.out, HBB.out⟩
            case measure => simp [intOf]; omega
          · obtain rfl : k = 9 := by omega
            obtain ⟨w8, hw8⟩ : ∃ W : World, W = wr := ⟨_, rfl⟩
            subst hw8
            have hc8 : Below wc.heap.size wc w8 := S7.out.trans HW.out
            have hroomG := OwnR.room HO.out
            rw [List.length_append, mksF_len, HLL.out] at hroomG
            obtain ⟨gV, hist, hgl, hgc⟩ := His.at_ (R := R) HHis.out HCF.out.2 (by omega) (by omega) (Rows.left (OwnR.reads coC_size OC.out))
            have MS : Hid (MSt w8 w8.heap.size w.heap.size g10 n A5 Ak Ag A' R l gT (hisT n R Ak ck gV)) := ⟨((KC.out.below hc8).at_ 1), ((DC.out.more ZC.out).below hc8).more hc8.size, ((OwnR.reads coC_size OC.out).below hc8).more hc8.size, FRow.of_rows (OwnR.reads ffC_size HO.out), ((RC.out.more BC.out.size).below hc8).more hc8.size, (hist.below hc8).more hc8.size, ((hc8.cell (p := ⟨g10, 0, none⟩) hgl).trans hgc), (KC.out.below hc8).len, Nat.lt_of_lt_of_le hgl hc8.size⟩
            have B8 := Lib.hid (BC.out.trans (hc8.mono BC.out.size))
            clear hc8 hist hgl hgc HO HW OC DC KC RC ZC O7 S7 HHis D2 K2 B2 BC
            -- what is asked of them
            have p10 : w8.cell? ⟨g10, 0, none⟩ = some (.slice (some ⟨gT, 0, none⟩) 1 1) := MS.out.hbox
            have C20 := columns_any (w := w8) 1 0 1 MS.out.hist (hisT_fit HNN.out HCF.out.1)
            rw [hisT_cols] at C20
            dsimp only at C20
            rw [HCF.out.2] at C20
            go_wp2_with fail
            refine C20.mono ?_
            rintro e w9 ⟨A13, c13, rfl, n9⟩
            clear C20 p10
            have Q9 := Lib.hid n9.old
            have N9 := Lib.hid n9.own
            have M9 := Lib.hid (MS.out.below n9.old)
            have C21 := lsame_any (w := w9) c13 c5 n9.reads M9.out.d (by rw [HCF.out.2]; omega) (by rw [HCF.out.2]; omega)
            rw [same_self, HCF.out.2] at C21
            clear n9
            go_upto_region 21 with fail
            go_cut [101] (fun s wx => s = .bool false ∧ Hid (Below w9.heap.size w9 wx))
            case first =>
              by_cases qE : E = 0
              · have qEb : (E == 0) = true := beq_iff_eq.2 qE
                clear qE
                go_wp2_with (go_at_call 15; refine C21.mono ?_; rintro e x9 ⟨rfl, y9⟩)
                go_meet
                exact ⟨rfl, y9⟩
              · have qEb : (E == 0) = false := beq_eq_false_iff_ne.2 qE
                clear qE
                go_wp2
                go_meet
                exact ⟨rfl, Below.refl _ _⟩
            case rest =>
              obtain ⟨rfl, H10⟩ := hcut
              obtain ⟨w10, hw10⟩ : ∃ W : World, W = wc := ⟨_, rfl⟩
              subst hw10
              have Q10 := Lib.hid (Q9.out.trans (H10.out.mono Q9.out.size))
              have N10 := Lib.hid (N9.out.then_ H10.out)
              clear C21 H10 N9 Q9 M9
              have hcutM : ∀ W : World, (Instr.sliceAt 29 (.slice Ak (M + 9) ck) none (some (.int .i64 (M : Int))) none).run Tryd.prog W = .ok (.slice Ak M ck) W := CR.run_h (P := Tryd.prog) (s := 3) Tryd.underlying29 sizeCo Ak (M + 9) ck M (by omega)
              have hcutL : ∀ W : World, (Instr.sliceAt 39 (.slice Ag (L + 9) cg) none (some (.int .i64 (L : Int))) none).run Tryd.prog W = .ok (.slice Ag L cg) W := CR.run_h (P := Tryd.prog) (s := 4) Tryd.underlying39 sizeFd Ag (L + 9) cg L (by omega)
              -- Typed
              have e1 := fun (d : Nat) (os : Array Obj) => Calls.regrown_of (typed_any (HG.out.2.2.then_ (B8.out.trans ((Q10.out.trans ((below_regrown w10 d os).mono Q10.out.size)).mono B8.out.size))) ck cg ((Rows.left (MS.out.below Q10.out).mine).below ((below_regrown w10 d os).mono Q10.out.size) |>.more (Nat.le_trans Q10.out.size (below_regrown w10 d os).size)) (FRow.more (FRow.below (by have := (MS.out.below Q10.out).given.take l.length; rw [List.take_left] at this; exact this) ((below_regrown w10 d os).mono Q10.out.size)) (Nat.le_trans Q10.out.size (below_regrown w10 d os).size)) HG.out.2.1 (by rw [HCF.out.2]; omega) (by rw [HLL.out]; omega))
              simp only [HCF.out.2, HLL.out] at e1
              go_upto_region 23 with fail
              refine wp_region_quiet_below (by kernel_rfl) (by kernel_rfl) ?_
              repeat (go_big_quiet_step ((go_at_call 18; exact e1 _ _)))
              refine wpQuiet_nil ?_
              intro _ hw'
              obtain ⟨⟨dq, osq⟩, hw''⟩ := hw'
              subst hw''
              dsimp only
              have h11 := below_regrown w10 dq osq
              have Q11 := Lib.hid (Q10.out.trans (h11.mono Q10.out.size))
              have N11 := Lib.hid (N10.out.then_ h11)
              generalize Go.Sort.grow (Go.redrawn w10 dq) osq = w11 at *
              clear e1 h11 Q10 N10
              -- Column
              have p1 : w11.cell? ⟨w.heap.size, 1, none⟩ = some (.string n) := (MS.out.below Q11.out).nm
              have q1' := cell_regrown p1
              have e1 := fun (d : Nat) (os : Array Obj) => Calls.regrown_of (column_any ck n ((Rows.left (MS.out.below Q11.out).mine).below ((below_regrown w11 d os).mono Q11.out.size) |>.more (Nat.le_trans Q11.out.size (below_regrown w11 d os).size)) HCF.out.1.n' (by rw [HCF.out.2]; omega))
              simp only [HCF.out.2] at e1
              go_upto_region 24 with fail
              refine wp_region_quiet_below (by kernel_rfl) (by kernel_rfl) ?_
              repeat (go_big_quiet_step ((go_at_call 16; exact e1 _ _)))
              refine wpQuiet_nil ?_
              intro _ hw'
              obtain ⟨⟨dq, osq⟩, hw''⟩ := hw'
              subst hw''
              dsimp only
              have h12 := below_regrown w11 dq osq
              have Q12 := Lib.hid (Q11.out.trans (h12.mono Q11.out.size))
              have N12 := Lib.hid (N11.out.then_ h12)
              generalize Go.Sort.grow (Go.redrawn w11 dq) osq = w12 at *
              clear e1 h12 Q11 N11 p1 q1'
              -- Extends
              have p10 : w12.cell? ⟨g10, 0, none⟩ = some (.slice (some ⟨gT, 0, none⟩) 1 1) := (MS.out.below Q12.out).hbox
              have e2 := ext_any 1 1 ((MS.out.below Q12.out).hist.more Q12.out.size) ((MS.out.below Q12.out).hist.more Q12.out.size) (Nat.le_refl _)
              rw [extH_self] at e2
              go_wp2_with fail
              refine e2.mono ?_
              rintro e w13 ⟨rfl, h13⟩
              have Q13 := Lib.hid (Q12.out.trans (h13.mono Q12.out.size))
              have N13 := Lib.hid (Rw.of (N12.out.then_ h13))
              rw [HCF.out.2] at N13
              clear e2 h13 Q12 N12 p10
              -- the answer is written over
              go_wp2_with fail
              go_loopw [15] (fun i wr => ∃ k : Nat, i = .int .i64 k ∧ k ≤ M ∧ Hid (Rw wr w8.heap.size 35 3 (.slice A13 M c13) M) ∧ Hid (Below w8.heap.size w8 wr)) (fun i _ => M - (intOf i).toNat)
              case atStart => exact ⟨0, rfl, Nat.zero_le _, N13.out, Q13.out⟩
              case round =>
                obtain ⟨k, rfl, hk, HO, HW⟩ := hrel
                by_cases hlt : k < M
                · have hltz : (k : Int) < (M : Int) := by omega
                  have k0 : (0 : Int) ≤ (k : Int) := by omega
                  obtain ⟨g13, rfl, _, hg13, _⟩ := Rw.form HO.out (by omega)
                  have HOO := HO.out
                  have HG13 := Lib.hid hg13
                  clear hg13
                  go_wp2_with (refine wpList_store_rw (s := 3) (B := w8.heap.size) (m := M) (c := c13) (g := g13) rfl (.tmp 128) (.tmp 127) rfl k _ #[.string ⟨#[111, 119, 110]⟩, .int .i64 0, .int .i64 0] rfl (by kernel_rfl) sizeCo rfl rfl rfl HOO hlt ?_; intro w14 h14 t14; have H14 := Lib.hid h14; have T14 := Lib.hid (HW.out.trans (t14.below HG13.out)))
                  go_roundw
                  case rel => exact ⟨k + 1, by go_num, by omega, H14.out, T14.out⟩
                  case measure => simp [intOf]; omega
                · have hkM : M = k := by omega
                  subst hkM
                  obtain ⟨w15, hw15⟩ : ∃ W : World, W = wr := ⟨_, rfl⟩
                  subst hw15
                  clear hlt hk Q13 N13
                  -- and grown
                  go_wp2
                  go_loopw [16, 17] (fun gg i wr => ∃ (k cg2 : Nat) (Agg : Option Addr), gg = .slice Agg (M + k) cg2 ∧ i = .int .i64 k ∧ k ≤ 9 ∧ Hid (Rw wr w8.heap.size 35 3 (.slice Agg (M + k) cg2) (M + k)) ∧ Hid (Below w8.heap.size w8 wr)) (fun _ i _ => 9 - (intOf i).toNat)
                  case atStart => exact ⟨0, c13, A13, rfl, rfl, Nat.zero_le _, HO.out, HW.out⟩
                  case round =>
                    obtain ⟨k, cg2, Agg, rfl, rfl, hk, HO2, HW2⟩ := hrel
                    by_cases hlt : k < 9
                    · have hltz : (k : Int) < 9 := by omega
                      obtain ⟨A16, c16, w16, hr, ho, hb⟩ := run_app_rw (P := Tryd.prog) (TS := 29) #[.string ⟨#[111, 119, 110]⟩, .int .i64 0, .int .i64 0] rfl (coC_one ⟨⟨#[111, 119, 110]⟩, 0, 0⟩) (by decide) Tryd.underlying29 infoCo rfl HO2.out (by omega) (by omega) HW2.out.size
                      have HRR := Lib.hid hr
                      have HOO := Lib.hid ho
                      have HBB := Lib.hid (HW2.out.trans hb)
                      clear hr ho hb
                      go_wp2_with (at_builtin; refine wpList_append_run rfl (.tmp 134) (.tmp 136) _ rfl rfl rfl HRR.out ?_)
                      go_roundw
                      case rel => exact ⟨k + 1, c16, A16, rfl, by go_num, by omega, HOO.out, HBB.out⟩
                      case measure => simp [intOf]; omega
                    · have hk9 : 9 = k := by omega
                      subst hk9
                      obtain ⟨w16, hw16⟩ : ∃ W : World, W = wr := ⟨_, rfl⟩
                      subst hw16
                      have Q16 := HW2
                      clear hlt hk HO2 HO HW
                      have hne1 : (((M + 9 : Nat) : Int) != (M : Int) + 9) = false := bne_self_eq_false _
                      have hne2 : ((M : Int) + 9 != (M : Int) + 9) = false := bne_self_eq_false _
                      have e3 := lsame_any (w := w16) ck c5 (Rows.left (MS.out.below Q16.out).mine) (MS.out.below Q16.out).d (by rw [HCF.out.2]; omega) (by rw [HCF.out.2]; omega)
                      rw [same_self, HCF.out.2] at e3
                      go_wp2_with fail
                      refine e3.mono ?_
                      rintro e w17 ⟨rfl, h17⟩
                      have Q17 := Lib.hid (Q16.out.trans (h17.mono Q16.out.size))
                      clear e3 h17 Q16 hne1 hne2
                      have MX := Lib.hid (MS.out.below Q17.out)
                      -- the marks stand
                      go_wp2
                      go_loopw [18] (fun i wr => wr = w17 ∧ ∃ k : Nat, i = .int .i64 k ∧ k ≤ 9) (fun i _ => 9 - (intOf i).toNat)
                      case atStart => exact ⟨rfl, 0, rfl, Nat.zero_le _⟩
                      case round =>
                        obtain ⟨rfl, k, rfl, hk⟩ := hrel
                        by_cases hlt : k < 9
                        · have hltz : (k : Int) < 9 := by omega
                          obtain ⟨J, hJ⟩ : ∃ J, M + k = J := ⟨_, rfl⟩
                          obtain ⟨J2, hJ2⟩ : ∃ J, L + k = J := ⟨_, rfl⟩
                          have hx := mksC_at (R := R) hlt
                          rw [HCF.out.2, hJ] at hx
                          have hf := mksF_at (R := l) hlt
                          rw [HLL.out, hJ2] at hf
                          obtain ⟨gm, om, hAk, _, m0, m1, m2⟩ := CoR.cells MX.out.mine hx
                          obtain ⟨gf, of_, hAg, _, hcf⟩ := MX.out.given.at_ (List.length_pos_of_mem (List.mem_of_getElem? hf))
                          obtain ⟨f0, f1, f2, f3⟩ := hcf J2 _ hf
                          have hc1 : ∀ W : World, (Instr.sliceAt 29 (.slice Ak (M + 9) ck) none (some (.int .i64 ((M : Int) + 9))) none).run Tryd.prog W = .ok (.slice Ak (M + 9) ck) W := fun W => CR.run_h (P := Tryd.prog) (s := 3) Tryd.underlying29 sizeCo Ak (M + 9) ck (M + 9) (by omega) W
                          have hc2 : ∀ W : World, (Instr.sliceAt 39 (.slice Ag (L + 9) cg) none (some (.int .i64 ((L : Int) + 9))) none).run Tryd.prog W = .ok (.slice Ag (L + 9) cg) W := fun W => CR.run_h (P := Tryd.prog) (s := 4) Tryd.underlying39 sizeFd Ag (L + 9) cg (L + 9) (by omega) W
                          have hj1 : (M : Int) + (k : Int) = (J : Int) := by omega
                          have hj2 : (L : Int) + (k : Int) = (J2 : Int) := by omega
                          have j10 : (0 : Int) ≤ (J : Int) := by omega
                          have j11 : (J : Int) < ((M + 9 : Nat) : Int) := by omega
                          have j12 : (J : Int) < (M : Int) + 9 := by omega
                          have j20 : (0 : Int) ≤ (J2 : Int) := by omega
                          have j21 : (J2 : Int) < ((L + 9 : Nat) : Int) := by omega
                          have j22 : (J2 : Int) < (L : Int) + 9 := by omega
                          have hneg : IntKind.i64.wrap (-(k : Int)) = -(k : Int) := by rw [IntKind.wrap_i64]; omega
                          have m0' : wr.cell? ⟨gm, om + J * 3, none⟩ = some (.string ⟨#[109, 97, 114, 107]⟩) := m0
                          have m1' : wr.cell? ⟨gm, om + J * 3 + 1, none⟩ = some (.int .i64 (k : Int)) := m1
                          have m2' : wr.cell? ⟨gm, om + J * 3 + 2, none⟩ = some (.int .i64 0) := m2
                          have f0' : wr.cell? ⟨gf, of_ + J2 * 4, none⟩ = some (.int .i64 (-(k : Int))) := f0
                          have f1' : wr.cell? ⟨gf, of_ + J2 * 4 + 1, none⟩ = some (.int .i64 0) := f1
                          have f2' : wr.cell? ⟨gf, of_ + J2 * 4 + 2, none⟩ = some (.int .u64 0) := f2
                          have f3' : wr.cell? ⟨gf, of_ + J2 * 4 + 3, none⟩ = some (.string ⟨#[]⟩) := f3
                          clear hJ hJ2 hx hf hcf m0 m1 m2 f0 f1 f2 f3
                          subst hAk hAg
                          go_wp2
                          go_roundw
                          case rel => exact ⟨trivial, k + 1, by go_num, by omega⟩
                          case measure => simp [intOf]; omega
                        · have hk9 : 9 = k := by omega
                          subst hk9
                          obtain ⟨w18, hw18⟩ : ∃ W : World, W = wr := ⟨_, rfl⟩
                          subst hw18
                          clear hlt hk
                          -- the record stands
                          go_wp2
                          go_loopw [19] (fun i wr => ∃ k : Nat, i = .int .i64 k ∧ k ≤ L ∧ ∃ d, wr = w18.drewN d) (fun i _ => L - (intOf i).toNat)
                          case atStart => exact ⟨0, rfl, Nat.zero_le _, 0, rfl⟩
                          case round =>
                            obtain ⟨k, rfl, hk, d, rfl⟩ := hrel
                            by_cases hlt : k < L
                            · have hltz : (k : Int) < (L : Int) := by omega
                              have hltz9 : (k : Int) < ((L + 9 : Nat) : Int) := by omega
                              have hltz8 : (k : Int) < (L : Int) + 9 := by omega
                              have k0 : (0 : Int) ≤ (k : Int) := by omega
                              obtain ⟨f, hf⟩ : ∃ f, l[k]? = some f := ⟨l[k]'(by rw [HLL.out]; exact hlt), List.getElem?_eq_getElem _⟩
                              have hf2 : (l ++ mksF 9)[k]? = some f := by rw [List.getElem?_append_left (by rw [HLL.out]; exact hlt)]; exact hf
                              obtain ⟨gf, of_, hAg, _, hcf⟩ := MX.out.given.at_ (List.length_pos_of_mem (List.mem_of_getElem? hf2))
                              obtain ⟨gr, or_, hAr, _, hcr⟩ := MX.out.rc.at_ (List.length_pos_of_mem (List.mem_of_getElem? hf))
                              obtain ⟨f0, f1, f2, f3⟩ := hcf k f hf2
                              obtain ⟨r0, r1, r2, r3⟩ := hcr k f hf
                              have f0' : (w18.drewN d).cell? ⟨gf, of_ + k * 4, none⟩ = some (.int .i64 f.t) := f0
                              have f1' : (w18.drewN d).cell? ⟨gf, of_ + k * 4 + 1, none⟩ = some (.int .i64 f.v.k) := f1
                              have f2' : (w18.drewN d).cell? ⟨gf, of_ + k * 4 + 2, none⟩ = some (.int .u64 f.v.n) := f2
                              have f3' : (w18.drewN d).cell? ⟨gf, of_ + k * 4 + 3, none⟩ = some (.string f.v.s) := f3
                              have r0' : (w18.drewN d).cell? ⟨gr, or_ + k * 4, none⟩ = some (.int .i64 f.t) := r0
                              have r1' : (w18.drewN d).cell? ⟨gr, or_ + k * 4 + 1, none⟩ = some (.int .i64 f.v.k) := r1
                              have r2' : (w18.drewN d).cell? ⟨gr, or_ + k * 4 + 2, none⟩ = some (.int .u64 f.v.n) := r2
                              have r3' : (w18.drewN d).cell? ⟨gr, or_ + k * 4 + 3, none⟩ = some (.string f.v.s) := r3
                              clear hf hf2 hcf hcr
                              subst hAg hAr
                              obtain ⟨ft, fv⟩ := f
                              obtain ⟨vk, vn, vs⟩ := fv
                              dsimp only at *
                              go_wp2
                              go_quiet (fail)
                              go_wp2
                              go_roundw
                              case rel => exact ⟨k + 1, by go_num, by omega, _, rfl⟩
                              case measure => simp [intOf]; omega
                            · have hkL : L = k := by omega
                              subst hkL
                              clear hlt hk
                              have hdN : Below w18.heap.size w18 (w18.drewN d) := Below.newN w18 d
                              have Q19 := Lib.hid (Q17.out.trans (hdN.mono Q17.out.size))
                              generalize w18.drewN d = w19 at *
                              have p10 : w19.cell? ⟨g10, 0, none⟩ = some (.slice (some ⟨gT, 0, none⟩) 1 1) := (MS.out.below Q19.out).hbox
                              have C20 := columns_any (w := w19) 1 0 1 ((MS.out.below Q19.out).hist.more Q19.out.size) (hisT_fit HNN.out HCF.out.1)
                              rw [hisT_cols] at C20
                              dsimp only at C20
                              rw [HCF.out.2] at C20
                              clear hdN
                              go_wp2_with fail
                              refine C20.mono ?_
                              rintro e w20 ⟨A20, c20, rfl, n20⟩
                              have Q20 := Lib.hid (Q19.out.trans (n20.old.mono Q19.out.size))
                              have e4 := lsame_any (w := w20) c20 c5 n20.reads (MS.out.below Q20.out).d (by rw [HCF.out.2]; omega) (by rw [HCF.out.2]; omega)
                              rw [same_self, HCF.out.2] at e4
                              clear n20 C20 p10 Q19
                              go_wp2_with fail
                              refine e4.mono ?_
                              rintro e w21 ⟨rfl, h21⟩
                              have B21 := Lib.hid (B8.out.trans ((Q20.out.trans (h21.mono Q20.out.size)).mono B8.out.size))
                              clear e4 h21
                              go_wp2
                              go_ret
                              exact ⟨rfl, B21.out⟩
end Go.Proofs.YtnflbnchkcigiaaDoor
