/- The walk of the reference: Value. -/
import Derived.Test.YtmbiompmhaiehaaDoorExGn
import Derived.Deep.DeepCutAuto
import Derived.Deep.RegionHeld3
import Derived.BigCall
import Derived.Deep.RegionLaw
namespace Go.Proofs.YtmbiompmhaiehaaDoor
open Go.RowKit

theorem step_app_th {P : Program} {w w' : World} {ops : Array Oper} {o : Oper} {a : Act} {K : Act → World → Prop} {Q : Exit → Act → World → Prop} {E : Prop} (hgd : o.guard = none) (s x : Operand) (T : TypeId)
    (ho : o.op = .call { callee := .builtin .append, args := #[s, x], argTypes := #[T, T] }) {u v v' : Value} (hs : a.eval s = u) (hx : a.eval x = v)
    (hrun : (Builtin.append_ #[T, T] o.type #[u, v]).run P w = .ok v' w') (h : K (a.put o.dst v') w') : if Region.wanted o (yielded ops a.tmps) = true then Oper.wp P o a w K Q else E := by
  have hw : Region.wanted o (yielded ops a.tmps) = true := by simp [Region.wanted, hgd]
  rw [if_pos hw]
  unfold Oper.wp execOp
  simp only [ho, resolve, invoke, builtin, Sem.run_bind, Sem.run_pure, Result.andThen_ok, List.map_toArray, List.map_cons, List.map_nil, hs, hx, hrun]
  exact h
/-- few things -/
theorem VlSt.small {N : List Rn} {i : Nat} {L : List Th} (h : VlSt N i L) : L.length ≤ i := by
  obtain ⟨P, hP, hl⟩ := h.pile
  rw [hl]
  exact chain_len P i (pile_chain i P hP)
set_option maxRecDepth 100000 in
set_option maxHeartbeats 8000000 in
theorem rvalue_any {w : World} {A : Option Addr} {c : Nat} {N : List Rn} {kd : Int} (hK : KSt w w) (hR : RN w w.heap.size A N) (hF : Few N) :
    Calls Tryd.prog 12 #[.slice A N.length c, .int .i64 kd] w fun e w' => e = vaEnd (valV N kd) ∧ Below w.heap.size w w' := by
  obtain ⟨n, hn⟩ : ∃ n, N.length = n := ⟨_, rfl⟩
  obtain ⟨wz, hww⟩ : ∃ W, w.alloc (.cells #[.int .i64 0, .int .u64 0, .string ⟨#[]⟩] 31) = W := ⟨_, rfl⟩
  have BZ : Hid (Below w.heap.size w wz) := by rw [← hww]; exact (Below.refl _ w).alloc (Nat.le_refl _) _
  have KZ : Hid (CB wz w.heap.size 31 #[.int .i64 0, .int .u64 0, .string ⟨#[]⟩]) := by rw [← hww]; exact CB.new w _ _
  have HR : Hid (RN wz wz.heap.size A N) := (hR.below BZ.out).more BZ.out.size
  have HC := Lib.hid (rcheck_any (c := c) HR.out hF)
  obtain ⟨ca, hca⟩ : ∃ a, (chkP N).1 = a := ⟨_, rfl⟩
  obtain ⟨ce, hce⟩ : ∃ a, (chkP N).2 = a := ⟨_, rfl⟩
  obtain ⟨V, hV⟩ : ∃ v, valV N kd = v := ⟨_, rfl⟩
  have HV := Lib.hid hV
  have hn9 : n ≤ 2932031007402 := by rw [← hn]; exact hF.few
  have HF := Lib.hid hF
  have HN := Lib.hid hn
  rw [hn, hca, hce] at HC
  rw [hn, hV]
  have hwz : w.heap.size < wz.heap.size := CB.len KZ.out
  clear hR hF hV hn
  by_cases hg : ce = 0
  case neg =>
    obtain rfl : V = noneV ca ce := by rw [← HV.out, val_bad (by rw [hce]; exact hg), hca, hce]
    have hgz : ((ce : Int) != 0) = true := by rw [bne_iff_ne]; omega
    clear hca hce hg hK
    go_enter Tryd.func12, Tryd.ntmps12
    go_wp2_with fail
    refine HC.out.mono ?_
    rintro e w1 ⟨rfl, b1⟩
    have k1 := Lib.hid (KZ.out.below b1)
    have B1 := Lib.hid (BZ.out.trans (b1.mono BZ.out.size))
    clear b1 HC
    go_wp2_with (refine wpList_store_cb rfl 31 (.tmp 4) (.tmp 22) rfl w.heap.size _ #[.int .i64 0, .int .u64 0, .string ⟨#[]⟩] rfl rfl k1.out rfl (by kernel_rfl) (by kernel_rfl) ?_; intro w9 k9 t9)
    exact bodyPost_ret (v := .tuple #[.agg #[.int .i64 0, .int .u64 0, .string ⟨#[]⟩], .int .i64 (ca : Nat), .int .i64 (ce : Nat)]) (results_ctt rfl _ _ _ _ _ _ rfl rfl rfl k9 Tryd.underlying31 rfl (by kernel_rfl)) rfl ⟨rfl, B1.out.trans (t9.below (Nat.le_refl _))⟩
  subst hg
  by_cases hkd : 1 ≤ kd ∧ kd ≤ 5
  case neg =>
    obtain rfl : V = noneV n 1 := by
      rw [← HV.out]
      unfold valV
      rw [if_neg (by rw [hce]; decide), if_pos (by omega), HN.out]
    clear hca hce hK
    by_cases h1 : kd < 1
    case pos =>
      clear hkd
      go_enter Tryd.func12, Tryd.ntmps12
      go_wp2_with fail
      refine HC.out.mono ?_
      rintro e w1 ⟨rfl, b1⟩
      have k1 := Lib.hid (KZ.out.below b1)
      have B1 := Lib.hid (BZ.out.trans (b1.mono BZ.out.size))
      clear b1 HC
      go_wp2_with (refine wpList_store_cb rfl 31 (.tmp 4) (.tmp 31) rfl w.heap.size _ #[.int .i64 0, .int .u64 0, .string ⟨#[]⟩] rfl rfl k1.out rfl (by kernel_rfl) (by kernel_rfl) ?_; intro w9 k9 t9)
      exact bodyPost_ret (v := .tuple #[.agg #[.int .i64 0, .int .u64 0, .string ⟨#[]⟩], .int .i64 (n : Nat), .int .i64 1]) (results_ctt rfl _ _ _ _ _ _ rfl rfl rfl k9 Tryd.underlying31 rfl (by kernel_rfl)) rfl ⟨rfl, B1.out.trans (t9.below (Nat.le_refl _))⟩
    have h1d : decide (kd < 1) = false := by rw [decide_eq_false_iff_not]; exact h1
    have h5 : 5 < kd := by omega
    clear hkd h1
    go_enter Tryd.func12, Tryd.ntmps12
    go_wp2_with fail
    refine HC.out.mono ?_
    rintro e w1 ⟨rfl, b1⟩
    have k1 := Lib.hid (KZ.out.below b1)
    have B1 := Lib.hid (BZ.out.trans (b1.mono BZ.out.size))
    clear b1 HC
    go_wp2_with (refine wpList_store_cb rfl 31 (.tmp 4) (.tmp 31) rfl w.heap.size _ #[.int .i64 0, .int .u64 0, .string ⟨#[]⟩] rfl rfl k1.out rfl (by kernel_rfl) (by kernel_rfl) ?_; intro w9 k9 t9)
    exact bodyPost_ret (v := .tuple #[.agg #[.int .i64 0, .int .u64 0, .string ⟨#[]⟩], .int .i64 (n : Nat), .int .i64 1]) (results_ctt rfl _ _ _ _ _ _ rfl rfl rfl k9 Tryd.underlying31 rfl (by kernel_rfl)) rfl ⟨rfl, B1.out.trans (t9.below (Nat.le_refl _))⟩
  have HG : Hid ((chkP N).2 = 0) := hce
  have q1 : ¬ kd < 1 := by omega
  have q1d : decide (kd < 1) = false := by rw [decide_eq_false_iff_not]; exact q1
  have q5 : ¬ 5 < kd := by omega
  have q5d : decide (5 < kd) = false := by rw [decide_eq_false_iff_not]; exact q5
  have HKD := Lib.hid hkd
  have HK := Lib.hid (hK.then_ BZ.out)
  clear hca hce hkd hK
  go_enter Tryd.func12, Tryd.ntmps12
  go_wp2_with fail
  refine HC.out.mono ?_
  rintro e w1 ⟨rfl, b1⟩
  have B1 := Lib.hid b1
  have HO0 : Hid (OwnT w1 wz.heap.size none 0 []) := OwnT.nil w1 _
  clear b1 HC
  go_wp2_with fail
  go_loopw [9, 10] (fun u v wr => ∃ (L : List Th) (A2 : Option Addr) (c2 i : Nat), u = .slice A2 L.length c2 ∧ v = .int .i64 i ∧ i ≤ n ∧ Hid (VlSt N i L) ∧ Hid (OwnT wr wz.heap.size A2 c2 L) ∧ Hid (Below wz.heap.size wz wr)) (fun _ v _ => n - (intOf v).toNat)
  case atStart => exact ⟨[], none, 0, 0, rfl, rfl, Nat.zero_le _, vl_start N, HO0, B1.out⟩
  case round =>
    obtain ⟨L, A2, c2, i, rfl, rfl, hi, HS, HO, HB⟩ := hrel
    by_cases hlt : i < n
    · have hltz : (i : Int) < (n : Int) := by omega
      obtain ⟨x, hx⟩ : ∃ x, N[i]? = some x := ⟨N[i]'(by rw [HN.out]; exact hlt), List.getElem?_eq_getElem _⟩
      obtain ⟨k, hak, hkk, hkL⟩ := vl_kids HG.out HS.out hx
      have HX := Lib.hid hx
      have HAK := Lib.hid hak
      obtain ⟨b, o, rfl, hb, x0, x1, x2, x3, x4⟩ := RN.cells (HR.out.below HB.out) hx
      have hbr : b < wr.heap.size := Nat.lt_of_lt_of_le hb HB.out.size
      have hLi := HS.out.small
      obtain ⟨m, hm⟩ : ∃ m, L.length = m := ⟨_, rfl⟩
      have HM := Lib.hid hm
      rw [hm] at hkL hLi ⊢
      obtain ⟨X3, hX3⟩ : ∃ T, str x.t = T := ⟨_, rfl⟩
      have ck := rkids_any wr x
      rw [hkk, hX3] at ck
      rw [hX3] at x3
      have HX3 := Lib.hid hX3
      obtain ⟨fr, hfr⟩ : ∃ fr, m - k = fr := ⟨_, rfl⟩
      have hfz : (m : Int) - (k : Int) = (fr : Int) := by omega
      have hfl : fr ≤ m := by omega
      have HFR : Hid (L.length - k = fr) := by unfold Hid; rw [hm]; exact hfr
      clear hx hak hm hX3 hfr hkk
      go_wp2_with fail
      refine ck.mono ?_
      rintro e w2 ⟨rfl, H2⟩
      have y0 := (H2.out.cell (p := ⟨b, o + i * 5, none⟩) hbr).trans x0
      have y1 := (H2.out.cell (p := ⟨b, o + i * 5 + 1, none⟩) hbr).trans x1
      have y2 := (H2.out.cell (p := ⟨b, o + i * 5 + 2, none⟩) hbr).trans x2
      have y3 := (H2.out.cell (p := ⟨b, o + i * 5 + 3, none⟩) hbr).trans x3
      have y4 := (H2.out.cell (p := ⟨b, o + i * 5 + 4, none⟩) hbr).trans x4
      have HB2 := Lib.hid (HB.out.trans (H2.out.mono HB.out.size))
      have HO2 := Lib.hid (HO.out.then_ H2.out)
      have hb2 : b < w2.heap.size := Nat.lt_of_lt_of_le hbr H2.out.size
      clear x0 x1 x2 x3 x4 ck HO HB H2
      go_upto_region 11 with fail
      obtain ⟨A3, hslice, HT3⟩ := HO2.out.rest fr (by rw [HM.out]; exact hfl)
      obtain ⟨d, hd⟩ : ∃ d, (L.drop fr).length = d := ⟨_, rfl⟩
      rw [HM.out, hd] at hslice
      have hT3 := Lib.hid HT3
      have HD := Lib.hid hd
      clear HT3 hd
      obtain ⟨R, hR⟩ : ∃ R, ownV x (L.drop fr) = R := ⟨_, rfl⟩
      have RX : Hid (∀ W, Below w2.heap.size w2 W → Calls Tryd.prog 20 #[.agg #[.int .i64 x.op, .int .i64 x.n, .int .u64 (x.num : Nat), .string X3, .int .i64 x.a], .slice A3 d (c2 - fr)] W (RAt R W)) := fun W hW => by
        have hlen : (L.drop fr).length = k := by
          rw [List.length_drop, ← HFR.out]
          have := HM.out
          omega
        have := rnode_any (c := c2 - fr) x (by rw [hlen]; exact HAK.out) ((hT3.out.below hW).more hW.size) (by omega) (fun t h => HS.out.inn t (List.mem_of_mem_drop h)) (HF.out.num x (List.mem_of_getElem? HX.out)).1
        rw [HX3.out, hR, HD.out] at this
        exact this
      have HRR := Lib.hid hR
      clear hR
      have hB1 : Below w2.heap.size w2 w2.drew := Below.thenN (Below.refl _ _) 1
      have hB2 : Below w2.heap.size w2 (w2.alloc (.cells #[.int .i64 0, .bool false, .int .u64 0, .string ⟨#[]⟩] 51)).drew := Below.both ((Below.refl _ w2).alloc (Nat.le_refl _) _) (Below.thenN (Below.refl _ _) 1)
      have kA : CB (w2.alloc (.cells #[.int .i64 0, .bool false, .int .u64 0, .string ⟨#[]⟩] 51)).drew w2.heap.size 51 #[.int .i64 0, .bool false, .int .u64 0, .string ⟨#[]⟩] := CB.new w2 _ _
      have hsA : (w2.alloc (.cells #[.int .i64 0, .bool false, .int .u64 0, .string ⟨#[]⟩] 51)).drew.heap.size = w2.heap.size + 1 := by show (w2.alloc (.cells #[.int .i64 0, .bool false, .int .u64 0, .string ⟨#[]⟩] 51)).heap.size = _; simp
      have u0 : w2.drew.cell? ⟨b, o + i * 5, none⟩ = some (.int .i64 x.op) := y0
      have u1 : w2.drew.cell? ⟨b, o + i * 5 + 1, none⟩ = some (.int .i64 x.n) := y1
      have u2 : w2.drew.cell? ⟨b, o + i * 5 + 2, none⟩ = some (.int .u64 (x.num : Nat)) := y2
      have u3 : w2.drew.cell? ⟨b, o + i * 5 + 3, none⟩ = some (.string X3) := y3
      have u4 : w2.drew.cell? ⟨b, o + i * 5 + 4, none⟩ = some (.int .i64 x.a) := y4
      have v0 := (hB2.cell (p := ⟨b, o + i * 5, none⟩) hb2).trans y0
      have v1 := (hB2.cell (p := ⟨b, o + i * 5 + 1, none⟩) hb2).trans y1
      have v2 := (hB2.cell (p := ⟨b, o + i * 5 + 2, none⟩) hb2).trans y2
      have v3 := (hB2.cell (p := ⟨b, o + i * 5 + 3, none⟩) hb2).trans y3
      have v4 := (hB2.cell (p := ⟨b, o + i * 5 + 4, none⟩) hb2).trans y4
      have i0 : (0 : Int) ≤ (i : Int) := by omega
      have f0 : (0 : Int) ≤ (fr : Int) := by omega
      have f1 : (fr : Int) ≤ (m : Int) := by omega
      have HKA := Lib.hid kA
      clear kA
      go_cut [12, 13] (fun s12 s13 wc => ∃ (g : Nat) (i4 : Int) (g4 : Bool) (m4 : Int) (s4 : ByteArray) (x4 : Int), s12 = .pointer (some ⟨g, 0, none⟩) ∧ s13 = .int .i64 x4 ∧ Hid (CB wc g 51 #[.int .i64 i4, .bool g4, .int .u64 m4, .string s4] ∧ Below w2.heap.size w2 wc ∧ Says R i4 g4 m4 s4 x4))
      case first =>
        go_region_with (first
          | (go_at_call 20; (refine (RX.out _ (by first | (with_reducible exact hB1) | (with_reducible exact hB2))).mono ?_); rintro e w3 ⟨i4, g4, m4, s4, x4, rfl, b4, hs4⟩; have HS4 := Lib.hid hs4; clear hs4; have hB3 : Below w2.heap.size w2 w3 := (by first | (with_reducible exact Below.both hB1 b4) | (with_reducible exact Below.both hB2 b4)); (first | (have k4 := CB.below HKA.out b4; have p0 := k4.at_ 0; have p1 := k4.at_ 1; have p2 := k4.at_ 2; have p3 := k4.at_ 3; have r0 := CB.frozen k4 0; have r1 := CB.frozen k4 1; have r2 := CB.frozen k4 2; have r3 := CB.frozen k4 3) | (have k4 := True.intro)))
          | fail)
        all_goals
          go_wp2_with fail
          go_meet
          first
          | (exact ⟨_, _, _, _, _, _, rfl, rfl, CB.new w3 _ _, Below.both hB3 ((Below.refl _ w3).alloc (Nat.le_refl _) _), HS4.out⟩)
          | (exact ⟨_, _, _, _, _, _, rfl, rfl, CB.store (cs := #[.int .i64 i4, .bool g4, .int .u64 m4, .string s4]) k4 rfl, hB3.trans ((((((Turned.refl _ w3).setCell 0 _).setCell 1 _).setCell 2 _).setCell 3 _).below (Nat.le_refl _)), HS4.out⟩)
      case rest =>
        obtain ⟨g, i4, g4, m4, s4, x4, rfl, rfl, HX4⟩ := hcut
        have HBC := Lib.hid (HB2.out.trans (HX4.out.2.1.mono HB2.out.size))
        have HOC := Lib.hid (HO2.out.then_ HX4.out.2.1)
        clear hslice hB1 hB2 hsA u0 u1 u2 u3 u4 v0 v1 v2 v3 v4 y0 y1 y2 y3 y4 RX hT3 HKA HB2 HO2
        cases R with
        | error e =>
          obtain ⟨hx4, hx40⟩ := HX4.out.2.2
          obtain rfl : V = noneV i e := by
            rw [← HV.out]
            exact vl_bad HG.out (vl_fault HS.out HX.out HAK.out (by rw [HFR.out]; exact HRR.out)) (by rw [HN.out]; exact hlt) HKD.out.1 HKD.out.2
          subst hx4
          have hz : (((e : Nat) : Int) != 0) = true := by rw [bne_iff_ne]; exact hx40
          have k9 := Lib.hid (KZ.out.below HBC.out)
          have B9 := Lib.hid (BZ.out.trans (HBC.out.mono BZ.out.size))
          clear hx40
          go_wp2_with (refine wpList_store_cb rfl 31 (.tmp 4) (.tmp 61) rfl w.heap.size _ #[.int .i64 0, .int .u64 0, .string ⟨#[]⟩] rfl rfl k9.out rfl (by kernel_rfl) (by kernel_rfl) ?_; intro w9 l9 t9)
          exact bodyPost_ret (v := .tuple #[.agg #[.int .i64 0, .int .u64 0, .string ⟨#[]⟩], .int .i64 (i : Nat), .int .i64 (e : Nat)]) (results_ctt rfl _ _ _ _ _ _ rfl rfl rfl l9 Tryd.underlying31 rfl (by kernel_rfl)) rfl ⟨rfl, B9.out.trans (t9.below (Nat.le_refl _))⟩
        | ok t =>
          obtain ⟨rfl, rfl, rfl, rfl, rfl⟩ := HX4.out.2.2
          have hnext := vl_next HS.out HX.out HAK.out (by have := HFR.out; have := HM.out; omega) (HF.out.num x (List.mem_of_getElem? HX.out)).1 (by rw [HFR.out]; exact HRR.out)
          rw [HFR.out] at hnext
          have hlen : (L.take fr).length = fr := by rw [List.length_take, HM.out]; omega
          have hd : Below wc.heap.size wc wc.drew := Below.thenN (Below.refl _ _) 1
          have hoC := (HOC.out.then_ hd).cut fr (by rw [HM.out]; exact hfl)
          have hcap := HOC.out.cap
          rw [HM.out] at hcap
          have hsrc := erows_new (f := thR) (s := 4) (fun _ => rfl) wc.drew #[.int .i64 (isR t), .bool (ngR t), .int .u64 (mgR t), .string (txR t)] 51 [t] rfl
          have hal : Below wc.drew.heap.size wc.drew (wc.drew.alloc (.cells #[.int .i64 (isR t), .bool (ngR t), .int .u64 (mgR t), .string (txR t)] 51)) := (Below.refl _ _).alloc (Nat.le_refl _) _
          obtain ⟨g1, c1, w4, ha, ho4, hg4, hb4⟩ := run_app_th (cS := 1) (hoC.then_ hal) hsrc (by simp) (by rw [hlen]; simp only [List.length_cons, List.length_nil]; omega) (Nat.le_trans HBC.out.size (Nat.le_trans hd.size hal.size))
          rw [hlen, World.alloc_drew] at ha
          obtain ⟨r1, hr1⟩ : ∃ r1, r1 = L.take fr ++ [t] := ⟨_, rfl⟩
          have hr1l : r1.length = fr + 1 := by rw [hr1, List.length_append, hlen]; rfl
          rw [← hr1] at hnext ho4
          have HA1 : Hid ((Builtin.append_ #[48, 48] 48 #[.slice A2 fr c2, .slice (some ⟨wc.heap.size, 0, none⟩) 1 1]).run Tryd.prog (wc.alloc (.cells #[.int .i64 (isR t), .bool (ngR t), .int .u64 (mgR t), .string (txR t)] 51)).drew = .ok (.slice (some ⟨g1, 0, none⟩) r1.length c1) w4) := by
            rw [hr1l]
            exact ha
          have hbw : Below wz.heap.size wz w4 := HBC.out.trans (((hd.trans (hal.mono hd.size)).mono HBC.out.size).trans (hb4.mono (Nat.le_refl _)))
          have HQ : Hid (VlSt N (i + 1) r1 ∧ OwnT w4 wz.heap.size (some ⟨g1, 0, none⟩) c1 r1 ∧ Below wz.heap.size wz w4) := ⟨hnext, ho4, hbw⟩
          have e0 : wc.cell? ⟨g, 0, none⟩ = some (.int .i64 (isR t)) := CB.at_ HX4.out.1 0
          have e1 : wc.cell? ⟨g, 1, none⟩ = some (.bool (ngR t)) := CB.at_ HX4.out.1 1
          have e2 : wc.cell? ⟨g, 2, none⟩ = some (.int .u64 (mgR t)) := CB.at_ HX4.out.1 2
          have e3 : wc.cell? ⟨g, 3, none⟩ = some (.string (txR t)) := CB.at_ HX4.out.1 3
          have hslice2 := run_cutT_h A2 m c2 fr (by omega)
          clear hnext hlen hoC hsrc hal ha ho4 hg4 hb4 hbw hr1 hr1l hd
          go_wp2_with fail
          go_region_law (first
            | (refine step_app_th rfl (.tmp 66) (.tmp 68) _ rfl rfl rfl HA1.out ?_))
          go_wp2_with fail
          go_roundw
          case rel => exact ⟨r1, some ⟨g1, 0, none⟩, c1, i + 1, rfl, by go_num, by omega, HQ.out.1, HQ.out.2.1, HQ.out.2.2⟩
          case measure => simp [intOf]; omega
    · obtain rfl : i = n := by omega
      have hltz : ¬ (i : Int) < (i : Int) := by omega
      obtain ⟨t, hL, hsem⟩ := vl_end (N := N) (L := L) HG.out (by rw [HN.out]; exact HS.out)
      subst hL
      have htin := HS.out.inn t (.head _)
      obtain ⟨g, rfl⟩ := HO.out.some_ (by simp)
      obtain ⟨b0, o0, e, hgb, hc⟩ := HO.out.rt.at_ (i := 0) (x := t) rfl
      cases e
      have c0 : wr.cell? ⟨g, 0, none⟩ = some (.int .i64 (isR t)) := hc 0 _ rfl
      have c1 : wr.cell? ⟨g, 1, none⟩ = some (.bool (ngR t)) := hc 1 _ rfl
      have c2' : wr.cell? ⟨g, 2, none⟩ = some (.int .u64 (mgR t)) := hc 2 _ rfl
      have c3 : wr.cell? ⟨g, 3, none⟩ = some (.string (txR t)) := hc 3 _ rfl
      have RL := Lib.hid (rlast_any wr (HK.out.then_ HB.out).self t htin kd)
      have hpos : 1 ≤ i := by have := (good_vals HG.out).1; have := HN.out; omega
      have hval := val_good HG.out HKD.out.1 HKD.out.2
      rw [hsem, HV.out, HN.out] at hval
      dsimp only at hval
      have HVL := Lib.hid hval
      clear hc hsem htin hval
      go_wp2_with fail
      refine RL.out.mono ?_
      rintro e w5 ⟨z0, z1, z2, x5, rfl, b5, hv5⟩
      have B5 := Lib.hid (BZ.out.trans ((HB.out.trans (b5.mono HB.out.size)).mono BZ.out.size))
      have b6 : Below w5.heap.size w5 (w5.alloc (.cells #[.int .i64 z0, .int .u64 z1, .string z2] 31)) := (Below.refl _ _).alloc (Nat.le_refl _) _
      have k6 := Lib.hid (((KZ.out.below HB.out).below b5).below b6)
      have B6 := Lib.hid (B5.out.trans (b6.mono B5.out.size))
      have m6 := CB.new w5 31 #[.int .i64 z0, .int .u64 z1, .string z2]
      have d0 : (w5.alloc (.cells #[.int .i64 z0, .int .u64 z1, .string z2] 31)).cell? ⟨w5.heap.size, 0, none⟩ = some (.int .i64 z0) := m6.at_ 0
      have d1 : (w5.alloc (.cells #[.int .i64 z0, .int .u64 z1, .string z2] 31)).cell? ⟨w5.heap.size, 1, none⟩ = some (.int .u64 z1) := m6.at_ 1
      have d2 : (w5.alloc (.cells #[.int .i64 z0, .int .u64 z1, .string z2] 31)).cell? ⟨w5.heap.size, 2, none⟩ = some (.string z2) := m6.at_ 2
      clear c0 c1 c2' c3 RL b5 b6 m6 hgb
      cases hlv : lastV t kd with
      | error e =>
        rw [hlv] at hv5
        obtain ⟨hx5, hx50⟩ := hv5
        have hV := HVL.out
        rw [hlv] at hV
        subst hx5
        have hz : (((e : Nat) : Int) != 0) = true := by rw [bne_iff_ne]; exact hx50
        have HVV : Hid (V = noneV (i - 1) e) := hV
        clear hx50 hlv hV HVL HV
        go_wp2_with (refine wpList_store_cb rfl 31 (.tmp 4) (.tmp 80) rfl w.heap.size _ #[.int .i64 0, .int .u64 0, .string ⟨#[]⟩] rfl rfl k6.out rfl (by kernel_rfl) (by kernel_rfl) ?_; intro w9 l9 t9)
        refine bodyPost_ret (v := .tuple #[.agg #[.int .i64 0, .int .u64 0, .string ⟨#[]⟩], .int .i64 ((i : Int) - 1), .int .i64 (e : Nat)]) (results_ctt rfl _ _ _ _ _ _ rfl rfl rfl l9 Tryd.underlying31 rfl (by kernel_rfl)) rfl ⟨?_, B6.out.trans (t9.below (Nat.le_refl _))⟩
        rw [HVV.out, show (i : Int) - 1 = ((i - 1 : Nat) : Int) by omega]
        rfl
      | ok p =>
        obtain ⟨q, s⟩ := p
        rw [hlv] at hv5
        obtain ⟨rfl, rfl, rfl, rfl⟩ := hv5
        have hV := HVL.out
        rw [hlv] at hV
        have HVV : Hid (V = ⟨z0, q, s, 0, 0⟩) := hV
        clear hlv hV HVL HV
        go_wp2_with (refine wpList_store_cb rfl 31 (.tmp 4) (.tmp 85) rfl w.heap.size _ #[.int .i64 z0, .int .u64 (q : Nat), .string (str s)] rfl rfl k6.out rfl (by kernel_rfl) (by kernel_rfl) ?_; intro w9 l9 t9)
        refine bodyPost_ret (v := .tuple #[.agg #[.int .i64 z0, .int .u64 (q : Nat), .string (str s)], .int .i64 0, .int .i64 0]) (results_ctt rfl _ _ _ _ _ _ rfl rfl rfl l9 Tryd.underlying31 rfl (by kernel_rfl)) rfl ⟨?_, B6.out.trans (t9.below (Nat.le_refl _))⟩
        rw [HVV.out]
        rfl
end Go.Proofs.YtmbiompmhaiehaaDoor
