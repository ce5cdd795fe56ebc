/- The walk of ConvDigits below 2^63. -/
import Derived.Test.YtijgcfnjbfaelaaDoorConvAwake
import Derived.Test.YtijgcfnjbfaelaaDoorConvDigFacts
import Derived.Test.YtijgcfnjbfaelaaDoorBytRow
import Derived.Deep.RegionWith
import Derived.Deep.DeepCutAuto
namespace Go.Proofs.YtijgcfnjbfaelaaDoor
open Go.RowKit
open Go.Lib (byteCells)

section
variable {w : World}
set_option maxRecDepth 100000 in
set_option maxHeartbeats 8000000 in
theorem dig_pos (h : CSt w w) (N z : Nat) (hN : N < 18446744073709551616) (A : Int) (J : ByteArray) (hz : z ≤ 1048576) (hJ : J.size ≤ 1048576) (pos : N < 9223372036854775808) : Calls Tryd.prog 7 #[.int .u64 (N : Int), .int .i64 (z : Int), .string J, .int .i64 A] w (Yes w) := by
  obtain ⟨S, hS⟩ : ∃ S, tx (ditx N) = S := ⟨_, rfl⟩
  obtain ⟨U, hU⟩ : ∃ U, tx (dg N) = U := ⟨_, rfl⟩
  have hlU : ls U = dg N := by rw [← hU, ls_tx]
  have hlS : ls S = dg N := by rw [← hS, ls_tx, ditx, if_neg (by omega)]
  have hc4 := dig4 N
  have hc3 := dig3 N
  rw [hS] at hc4
  rw [hU] at hc3
  have hUs : U.size ≤ 21 := by rw [← hU]; exact size_dg hN
  have hUe : U.toList.isEmpty = false := by
    rw [Lib.toList_data, List.isEmpty_eq_false_iff]
    show ls U ≠ []
    rw [hlU]; exact dg_ne N
  have hSe : S.toList.isEmpty = false := by
    rw [Lib.toList_data, List.isEmpty_eq_false_iff]
    show ls S ≠ []
    rw [hlS]; exact dg_ne N
  have hSz : 0 < S.size := by rw [← size_ls, hlS]; exact List.length_pos_iff.2 (dg_ne N)
  have hSzz : (0 : Int) < (S.size : Int) := by omega
  obtain ⟨x0, hx0⟩ : ∃ x, S[0]'hSz = x := ⟨_, rfl⟩
  have hxi : ((x0.toNat : Int) == 45) = false := by
    have e : (ls S)[0]? = some x0 := by
      rw [List.getElem?_eq_getElem (by rw [size_ls]; exact hSz)]
      exact congrArg some hx0
    rw [hlS] at e
    have := List.all_eq_true.1 (allD_dg N) x0 (List.mem_of_getElem? e)
    simp [isD] at this
    rw [beq_eq_false_iff_ne]
    omega
  have hSs : S.size ≤ 21 := by rw [← size_ls, hlS]; exact dg_len64 (by omega)
  obtain ⟨P, hP⟩ : ∃ P, tx (List.replicate z 48) = P := ⟨_, rfl⟩
  have hlP : ls P = List.replicate z 48 := by rw [← hP, ls_tx]
  have hPs : P.size ≤ 1048576 := by rw [← hP, size_tx, List.length_replicate]; exact hz
  have hmk := run_mkB z (by omega)
  have HN := Lib.hid hN
  have HLS := Lib.hid hlS
  have HLP := Lib.hid hlP
  have HLU := Lib.hid hlU
  have HP := Lib.hid hP
  have HPOS := Lib.hid pos
  have H4 := Lib.hid hc4
  have H3 := Lib.hid hc3
  have hfit : Fit64 ⟨2, (N : Int), ⟨#[]⟩⟩ := ⟨by show (0 : Int) ≤ (N : Int); omega, by show (N : Int) ≤ _; omega⟩
  have hzi : ¬ (z : Int) < 0 := by omega
  have hzj : ¬ (1048576 : Int) < (z : Int) := by omega
  have hJj : ¬ (1048576 : Int) < (J.size : Int) := by omega
  have HFI := Lib.hid hfit
  have HFJ : Hid (Fit64 ⟨1, (N : Int), ⟨#[]⟩⟩) := ⟨hfit.1, hfit.2⟩
  clear hS hU hlU hlS hc4 hc3 hlP hP pos hN hfit
  obtain ⟨Ni, hNi⟩ : ∃ Ni : Int, (N : Int) = Ni := ⟨_, rfl⟩
  have HNI := Lib.hid hNi
  rw [hNi] at H4 H3 HFI HFJ ⊢
  clear hNi
  go_enter Tryd.func7, Tryd.ntmps7
  go_wp2_with fail
  refine (awake_any h).mono ?_
  rintro e w1 ⟨rfl, k1⟩
  go_wp2_with fail
  refine (c_apply k1 HFI.out (by decide) H4.out).mono ?_
  rintro e w2 ⟨rfl, k2, b2⟩
  have k2' := k2.new (.cells #[.int .i64 4, .int .u64 0, .string S] 24)
  have vS := VBlk.new w2 ⟨4, 0, S⟩
  go_wp2_with fail
  refine (c_apply k2' HFJ.out (by decide) H3.out).mono ?_
  rintro e w3 ⟨rfl, k3, b3⟩
  obtain ⟨W4, hW4⟩ : ∃ W4, W4 = w3.alloc (.cells #[.int .i64 4, .int .u64 0, .string U] 24) := ⟨_, rfl⟩
  have k4 : CSt w W4 := by rw [hW4]; exact k3.new _
  have vS4 : VBlk W4 w2.heap.size ⟨4, 0, S⟩ := by rw [hW4]; exact (VBlk.below vS b3).new_ _
  have vU4 : VBlk W4 w3.heap.size ⟨4, 0, U⟩ := by rw [hW4]; exact VBlk.new w3 ⟨4, 0, U⟩
  obtain ⟨p0, p1, p2⟩ := vS4.cells
  obtain ⟨q0, q1, q2⟩ := vU4.cells
  dsimp only at p0 p1 p2 q0 q1 q2
  rw [hW4] at p2 q2
  have HW4 := Lib.hid hW4
  clear p0 p1 q0 q1 vS b2 b3 k1 k2 k2' k3 hW4
  go_wp2_with fail
  rw [← HW4.out]
  obtain ⟨G, hGz⟩ : ∃ G, G = w3.heap.size + 1 := ⟨_, rfl⟩
  have hG : G = W4.heap.size := by rw [hGz, HW4.out]; simp
  obtain ⟨wb, hwb⟩ : ∃ wb, wb = W4.alloc (.cells (Array.replicate z (.int .u8 0)) 5) := ⟨_, rfl⟩
  have hg0 : BRow wb G (List.replicate z 0) := by rw [hwb, hG]; exact BRow.start W4 z
  have hBb : Below W4.heap.size W4 wb := by rw [hwb]; exact (Below.refl _ _).alloc (Nat.le_refl _) _
  rw [← hwb, ← hGz]
  have HGW := Lib.hid hG
  have HG0 := Lib.hid hg0
  have HBb := Lib.hid hBb
  clear hG hGz hg0 hBb hwb hmk p2 q2
  go_loopw [15] (fun i wr => ∃ (k : Nat) (cur : List UInt8), i = .int .i64 k ∧ k ≤ z ∧ Hid (Below W4.heap.size W4 wr) ∧ Hid (BRow wr G cur) ∧ Hid (cur.length = z) ∧ Hid (cur.take k = (List.replicate z (48 : UInt8)).take k)) (fun i _ => z - (intOf i).toNat)
  case atStart => exact ⟨0, _, rfl, Nat.zero_le _, HBb, HG0, by unfold Hid; rw [List.length_replicate], by unfold Hid; rw [List.take_zero, List.take_zero]⟩
  case round =>
    clear HG0 HBb
    obtain ⟨k, cur, rfl, hk, HB, HR, HCL, HCT⟩ := hrel
    by_cases hlt : k < z
    · have hkc : k < cur.length := by rw [HCL.out]; exact hlt
      have hltz : (k : Int) < (z : Int) := by omega
      have hd := HR.out.cell (List.getElem?_eq_getElem hkc)
      have hf := HR.out.frozen k
      have hst := Lib.hid (HR.out.set k 48 48 rfl)
      have HWK : Hid ((List.replicate z (48 : UInt8))[k]? = some 48) := by unfold Hid; rw [List.getElem?_replicate, if_pos hlt]
      go_wp2_with fail
      go_roundw
      case rel => exact ⟨k + 1, _, by go_num, by omega, HB.out.setCell (by rw [HGW.out]; exact Nat.le_refl _) _, hst, by unfold Hid; rw [List.length_set]; exact HCL.out, by unfold Hid; exact take_set (HCL.out.trans List.length_replicate.symm) HCT.out HWK.out⟩
      case measure => simp [intOf]; omega
    · have hkz : k = z := by omega
      have hcur : cur = List.replicate z 48 := take_all HCL.out List.length_replicate (by have := HCT.out; rw [hkz] at this; exact this)
      have hby : Byt wr wr.heap.size (some ⟨G, 0, none⟩) (List.replicate z 48) := by rw [← hcur]; exact HR.out.reads
      have k5 : CSt w wr := k4.then_ HB.out
      have vS5 := vS4.below HB.out
      have vU5 := vU4.below HB.out
      have hcv := fun (W : World) (hb : Below wr.heap.size wr W) => run_text z (hby.below hb)
      rw [List.length_replicate, HP.out] at hcv
      obtain ⟨p0, p1, p2⟩ := vS5.cells
      obtain ⟨q0, q1, q2⟩ := vU5.cells
      dsimp only at p2 q2
      have cv0 := hcv wr (Below.refl _ _)
      have n1 : ¬ 9223372036854775807 < P.size := by omega
      have n2 : ¬ 9223372036854775807 < P.size + S.size := by omega
      have n1' : ¬ 9223372036854775807 < 0 + P.size := by omega
      have n2' : ¬ 9223372036854775807 < 0 + P.size + S.size := by omega
      have n3 : ¬ 9223372036854775807 < P.size + U.size := by omega
      clear hkz hcur HCT HCL HR p0 p1 q0 q1 hby
      go_wp2_with fail
      have f40 : ∀ T : ByteArray, Fit64 ⟨4, 0, T⟩ := fun T => ⟨Int.le_refl 0, by show (0 : Int) ≤ 18446744073709551615; decide⟩
      refine (c_apply k5 (f40 _) (by first | (rw [ByteArray.size_append, ByteArray.size_append]; show 0 + P.size + S.size ≤ _; omega) | (rw [ByteArray.size_append]; omega)) (x := 2) (y := Ni) (z := ⟨#[]⟩) (E := 0) (by rw [← HNI.out]; exact dig6 (z := z) HN.out (.inr ⟨HPOS.out, by first | (rw [ls_app, ls_app, HLP.out, HLS.out]; rfl) | (rw [ls_app, HLP.out, HLS.out])⟩))).mono ?_
      rintro e w6 ⟨rfl, k6, b6⟩
      have k7 := k6.new (.cells #[.int .i64 2, .int .u64 Ni, .string ⟨#[]⟩] 24)
      have vU7 := (vU5.below b6).new_ (.cells #[.int .i64 2, .int .u64 Ni, .string ⟨#[]⟩] 24)
      have vX7 := VBlk.new w6 ⟨2, Ni, ⟨#[]⟩⟩
      have cv7 := hcv (w6.alloc (.cells #[.int .i64 2, .int .u64 Ni, .string ⟨#[]⟩] 24)) ((b6).alloc b6.size _)
      clear p2 q2 cv0
      obtain ⟨_, _, q2⟩ := vU7.cells
      dsimp only at q2
      go_wp2_with fail
      refine (c_apply k7 (f40 _) (by rw [ByteArray.size_append]; omega) (x := 1) (y := Ni) (z := ⟨#[]⟩) (E := 0) (by rw [← HNI.out]; exact dig5 (z := z) HN.out (by rw [ls_app, HLP.out, HLU.out]))).mono ?_
      rintro e w8 ⟨rfl, k8, b8⟩
      obtain ⟨W9, hW9⟩ : ∃ W9, W9 = w8.alloc (.cells #[.int .i64 1, .int .u64 Ni, .string ⟨#[]⟩] 24) := ⟨_, rfl⟩
      have k9 : CSt w W9 := by rw [hW9]; exact k8.new _
      have vU9 : VBlk W9 w3.heap.size ⟨4, 0, U⟩ := by rw [hW9]; exact (vU7.below b8).new_ _
      obtain ⟨x0, x1, x2⟩ := ((VBlk.below vX7 b8).new_ (.cells #[.int .i64 1, .int .u64 Ni, .string ⟨#[]⟩] 24)).cells
      dsimp only at x0 x1 x2
      have HW9 := Lib.hid hW9
      clear q2 cv7 hcv vU7 vX7 hW9 k8 b8 b6 k7 k6 vU5 vS5 k5 n1 n2 n3 n1' n2'
      go_wp2_with fail
      rw [← HW9.out]
      clear x0 x1 x2
      obtain ⟨wo, rfl⟩ : ∃ wo : World, wo = wr := ⟨_, rfl⟩
      go_loopw [20, 21] (fun o i wr => ∃ (k : Nat) (b : Bool), o = .bool b ∧ i = .int .i64 k ∧ k ≤ J.size ∧ W9 = wr ∧ Hid (oddL ((ls J).take k) = b)) (fun _ i _ => J.size - (intOf i).toNat)
      case atStart => exact ⟨0, false, rfl, rfl, Nat.zero_le _, rfl, rfl⟩
      case round =>
        obtain ⟨k, b, rfl, rfl, hk, rfl, HOD⟩ := hrel
        by_cases hlt : k < J.size
        · have hltz : (k : Int) < (J.size : Int) := by omega
          obtain ⟨x, hx⟩ : ∃ x, J[k]'hlt = x := ⟨_, rfl⟩
          have HS := Lib.hid (odd_take (l := ls J) (k := k) (x := x) (by rw [List.getElem?_eq_getElem (by rw [size_ls]; exact hlt)]; exact congrArg some hx))
          cases b
          · by_cases h1 : (57 : Int) < x.toNat
            · have HO : Hid (oddL ((ls J).take (k + 1)) = true) := by
                unfold Hid
                rw [HS.out]; unfold oddB
                rw [decide_eq_true (show 57 < x.toNat by omega)]; simp
              go_wp2_with fail
              go_roundw
              case rel => exact ⟨k + 1, true, rfl, by go_num, by omega, by trivial, HO⟩
              case measure => simp [intOf]; omega
            · by_cases h2 : (x.toNat : Int) < 48
              · by_cases h3 : (x.toNat : Int) = 45
                · have HO : Hid (oddL ((ls J).take (k + 1)) = false) := by
                    unfold Hid
                    rw [HS.out, HOD.out]; unfold oddB
                    rw [decide_eq_false (show ¬ 57 < x.toNat by omega), decide_eq_true (show x = 45 from UInt8.toNat_inj.1 (by show x.toNat = 45; omega))]; simp
                  go_wp2_with fail
                  go_roundw
                  case rel => exact ⟨k + 1, false, rfl, by go_num, by omega, by trivial, HO⟩
                  case measure => simp [intOf]; omega
                · have HO : Hid (oddL ((ls J).take (k + 1)) = true) := by
                    unfold Hid
                    rw [HS.out, HOD.out]; unfold oddB
                    rw [decide_eq_true (show x.toNat < 48 by omega), decide_eq_false (show ¬ x = 45 from fun e => h3 (by rw [e]; rfl))]; simp
                  go_wp2_with fail
                  go_roundw
                  case rel => exact ⟨k + 1, true, congrArg Value.bool (bne_iff_ne.2 h3), by go_num, by omega, by trivial, HO⟩
                  case measure => simp [intOf]; omega
              · have HO : Hid (oddL ((ls J).take (k + 1)) = false) := by
                  unfold Hid
                  rw [HS.out, HOD.out]; unfold oddB
                  rw [decide_eq_false (show ¬ 57 < x.toNat by omega), decide_eq_false (show ¬ x.toNat < 48 by omega)]; simp
                go_wp2_with fail
                go_roundw
                case rel => exact ⟨k + 1, false, rfl, by go_num, by omega, by trivial, HO⟩
                case measure => simp [intOf]; omega
          · have HO : Hid (oddL ((ls J).take (k + 1)) = true) := by
              unfold Hid
              rw [HS.out, HOD.out]; simp
            go_wp2_with fail
            go_roundw
            case rel => exact ⟨k + 1, true, rfl, by go_num, by omega, by trivial, HO⟩
            case measure => simp [intOf]; omega
        · have HO : Hid (oddL (ls J) = b) := by
            unfold Hid
            have := HOD.out
            rwa [List.take_of_length_le (by rw [size_ls]; omega)] at this
          clear HOD
          obtain ⟨u0, u1, u2⟩ := vU9.cells
          dsimp only at u0 u1 u2
          have k9' := k9
          cases b
          · go_wp2_with fail
            go_ret
            exact ⟨rfl, k9'.below⟩
          · by_cases hA : A < 0
            · go_wp2_with fail
              go_ret
              exact ⟨rfl, k9'.below⟩
            · by_cases hB : (U.size : Int) < A
              · go_wp2_with fail
                go_ret
                exact ⟨rfl, k9'.below⟩
              · obtain ⟨a, rfl⟩ : ∃ a : Nat, A = (a : Int) := ⟨A.toNat, by omega⟩
                have ha : a ≤ U.size := by omega
                have n1 : ¬ 9223372036854775807 < (U.extract 0 a).size + J.size := by rw [ByteArray.size_extract]; omega
                have n2 : ¬ 9223372036854775807 < (U.extract 0 a).size + J.size + (U.extract a U.size).size := by rw [ByteArray.size_extract, ByteArray.size_extract]; omega
                obtain ⟨T, hT⟩ : ∃ T, U.extract 0 a ++ J ++ U.extract a U.size = T := ⟨_, rfl⟩
                have hTs : T.size ≤ 140737488355328 := by rw [← hT, ByteArray.size_append, ByteArray.size_append, ByteArray.size_extract, ByteArray.size_extract]; omega
                have HJ := Lib.hid (dig_junk (a := ls (U.extract 0 a)) (j := ls J) (b := ls (U.extract a U.size)) HO.out (T := T) (by rw [← hT, ls_app, ls_app]))
                obtain ⟨wq, rfl⟩ : ∃ wq : World, wq = W9 := ⟨_, rfl⟩
                go_upto_region 29 with fail
                go_cut [22] (fun s22 wx => ∃ g7 : Nat, s22 = .pointer (some ⟨g7, 0, none⟩) ∧ Below wq.heap.size wq wx ∧ VBlk wx g7 ⟨4, 0, T⟩)
                case first =>
                  have bA : Below wq.heap.size wq (wq.drew.alloc (.cells (vaC v0) 24)) := (Below.refl _ wq).drew.alloc (Nat.le_refl _) _
                  obtain ⟨y0, y1, y2⟩ := (VBlk.new_ (w := wq.drew) vU9 (.cells (vaC v0) 24)).cells
                  dsimp only at y0 y1 y2
                  have hlen := vU9.len
                  have hin : (a : Int) ≤ (U.size : Int) := by omega
                  have hin0 : (0 : Int) ≤ (a : Int) := by omega
                  have hin2 : (0 : Int) ≤ (a : Int) ∧ (a : Int) ≤ (U.size : Int) := ⟨hin0, hin⟩
                  go_region_with fail
                  all_goals (go_wp2_with fail; go_meet; first
                    | exact ⟨wq.heap.size, rfl, ((Below.refl _ wq).alloc (Nat.le_refl _) _).drew, VBlk.new wq ⟨4, 0, T⟩⟩
                    | exact ⟨wq.heap.size, rfl, bA.trans ((Turned.setCells (vaC ⟨4, 0, T⟩).toList 0 _ (Turned.refl wq.heap.size _)).below (Nat.le_refl _)), (VBlk.new wq v0).set ⟨4, 0, T⟩⟩)
                case rest =>
                  obtain ⟨g7, rfl, hb2, hv7⟩ := hcut
                  have kt := k9'.then_ hb2
                  have cv := kvalid_any kt.self.k ⟨4, 0, T⟩ ⟨Int.le_refl 0, by show (0 : Int) ≤ 18446744073709551615; decide⟩ hTs
                  obtain ⟨r0, r1, r2⟩ := hv7.cells
                  dsimp only at r0 r1 r2
                  rcases hok : okV ⟨4, 0, T⟩ with _ | _
                  · have j5 := capp_no (n := 5) (v := ⟨4, 0, T⟩) (fun q => by rw [hok] at q; exact absurd q.2.2.1 (by decide))
                    have j6 := capp_no (n := 6) (v := ⟨4, 0, T⟩) (fun q => by rw [hok] at q; exact absurd q.2.2.1 (by decide))
                    rw [hok] at cv
                    have J5 := Lib.hid j5
                    have J6 := Lib.hid j6
                    clear j5 j6 hok hT HJ
                    go_wp2_with fail
                    refine cv.mono ?_
                    rintro e w11 ⟨rfl, k11⟩
                    have hv8 := hv7.below k11.below
                    have kt2 := kt.then_ k11.below
                    obtain ⟨s0, s1, s2⟩ := hv8.cells
                    dsimp only at s0 s1 s2
                    clear r0 r1 r2
                    go_wp2_with fail
                    refine (c_apply kt2 ⟨Int.le_refl 0, by show (0 : Int) ≤ 18446744073709551615; decide⟩ hTs (x := 0) (y := 0) (z := ⟨#[]⟩) J5.out).mono ?_
                    rintro e w12 ⟨rfl, k12, b12⟩
                    obtain ⟨t0, t1, t2⟩ := (hv8.below b12).cells
                    dsimp only at t0 t1 t2
                    clear s0 s1 s2
                    go_wp2_with fail
                    refine (c_apply k12 ⟨Int.le_refl 0, by show (0 : Int) ≤ 18446744073709551615; decide⟩ hTs (x := 0) (y := 0) (z := ⟨#[]⟩) J6.out).mono ?_
                    rintro e w13 ⟨rfl, k13, b13⟩
                    go_wp2_with fail
                    go_ret
                    exact ⟨rfl, k13.below⟩
                  · have J5 := Lib.hid (HJ.out hok).1
                    have J6 := Lib.hid (HJ.out hok).2
                    rw [hok] at cv
                    clear hok hT HJ
                    go_wp2_with fail
                    refine cv.mono ?_
                    rintro e w11 ⟨rfl, k11⟩
                    have hv8 := hv7.below k11.below
                    have kt2 := kt.then_ k11.below
                    obtain ⟨s0, s1, s2⟩ := hv8.cells
                    dsimp only at s0 s1 s2
                    clear r0 r1 r2
                    go_wp2_with fail
                    refine (c_apply kt2 ⟨Int.le_refl 0, by show (0 : Int) ≤ 18446744073709551615; decide⟩ hTs (x := 0) (y := 0) (z := ⟨#[]⟩) J5.out).mono ?_
                    rintro e w12 ⟨rfl, k12, b12⟩
                    obtain ⟨t0, t1, t2⟩ := (hv8.below b12).cells
                    dsimp only at t0 t1 t2
                    clear s0 s1 s2
                    go_wp2_with fail
                    refine (c_apply k12 ⟨Int.le_refl 0, by show (0 : Int) ≤ 18446744073709551615; decide⟩ hTs (x := 0) (y := 0) (z := ⟨#[]⟩) J6.out).mono ?_
                    rintro e w13 ⟨rfl, k13, b13⟩
                    go_wp2_with fail
                    go_ret
                    exact ⟨rfl, k13.below⟩
end
end Go.Proofs.YtijgcfnjbfaelaaDoor
