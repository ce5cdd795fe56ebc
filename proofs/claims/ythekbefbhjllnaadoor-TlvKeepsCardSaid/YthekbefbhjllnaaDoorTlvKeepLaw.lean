/- The walk of TlvKeeps. -/
import Derived.Test.YthekbefbhjllnaaDoorTlvKeepMem
import Derived.Test.YthekbefbhjllnaaDoorTlvPieLaw
import Derived.Deep.QuietTactic
import Derived.BigQuiet
namespace Go.Proofs.YthekbefbhjllnaaDoor
open Go.RowKit
open Go.Lib (byteCells uvarint)

section
variable {w0 w : World}
theorem d_size {A : Option Addr} {l : List Fd} (c : Nat) (hA : FRow w w.heap.size A l) (hg : Good l) (hl : Light l) (h : KSt w0 w) :
    Calls Tryd.prog 18 #[.slice A l.length c] w fun e w' => e = .returned (.tuple #[.int .i64 (csz l), .int .i64 (cer l)]) ∧ KSt w0 w' ∧ Below w.heap.size w w' :=
  (size5_any h c hA hg hl).mono fun _ _ ⟨he, hb⟩ => ⟨he, h.then_ hb, hb⟩
end

set_option maxRecDepth 100000 in
set_option maxHeartbeats 2000000 in
theorem keeps_out {w : World} (h : KSt w w) {A : Option Addr} {l : List Fd} (c : Nat) (hA : FRow w w.heap.size A l) (hg : Good l) (hl : l.length ≤ 140737488355328) (hz : 65536 < l.length ∨ hvy l = true) :
    Calls Tryd.prog 10 #[.slice A l.length c] w (Yes w) := by
  have ch := fun {W : World} (q : KSt w W) => c_heavy c hA hg hl q
  by_cases hlen : 65536 < l.length
  · clear hz
    go_enter Tryd.func10, Tryd.ntmps10
    go_wp2_with (go_at_call 11; refine (c_lives h).mono ?_; rintro e w1 ⟨rfl, h1⟩)
    go_ret
    exact ⟨rfl, h1.below⟩
  · have hh : hvy l = true := by rcases hz with g | g; exact absurd g hlen; exact g
    simp only [hh] at ch
    clear hh hz
    go_enter Tryd.func10, Tryd.ntmps10
    go_wp2_with (first
      | (go_at_call 11; refine (c_lives h).mono ?_; rintro e w1 ⟨rfl, h1⟩)
      | (go_at_call 12; refine (ch h1).mono ?_; rintro e w2 ⟨rfl, rfl⟩))
    go_ret
    exact ⟨rfl, h1.below⟩

set_option maxRecDepth 100000 in
set_option maxHeartbeats 16000000 in
theorem keeps_in {w : World} (h : KSt w w) {A : Option Addr} {l : List Fd} (c : Nat) (hA : FRow w w.heap.size A l) (hg : Good l) (hlen : l.length ≤ 65536) (hh : hvy l = false) :
    Calls Tryd.prog 10 #[.slice A l.length c] w (Yes w) := by
  have ch := fun {W : World} (q : KSt w W) => c_heavy c hA hg (by omega) q
  have hL := hvy_light hh
  simp only [hh] at ch
  obtain ⟨N, hN⟩ : ∃ N, N = l.length + 9 := ⟨_, rfl⟩
  have hmk : ∀ W : World, (Instr.makeSlice 22 (.int .i64 ((l.length : Int) + 9)) (.int .i64 ((l.length : Int) + 9))).run Tryd.prog W =
      .ok (.slice (some ⟨W.heap.size, 0, none⟩) N N) (W.alloc (.cells (fcs (List.replicate N noneF)).toArray 41)) := by
    intro W
    have := run_mkF N (by omega) W
    rw [hN] at this ⊢
    exact this
  have HN := Lib.hid hN
  have hn1 : l.length < N := by omega
  have hn2 : N ≤ 65545 := by omega
  have HH := Lib.hid hh
  have HG := Lib.hid hg
  have HL := Lib.hid hL
  have HA := Lib.hid hA
  clear hN hh hg hL hA
  go_enter Tryd.func10, Tryd.ntmps10
  go_wp2_with (first
    | (go_at_call 11; refine (c_lives h).mono ?_; rintro e w1 ⟨rfl, h1⟩)
    | (go_at_call 12; refine (ch h1).mono ?_; rintro e w2 ⟨rfl, rfl⟩))
  have hB1 := h1.below
  have hs1 := hB1.size
  obtain ⟨M, hM⟩ : ∃ M, M = w1.heap.size := ⟨_, rfl⟩
  obtain ⟨F, hF⟩ : ∃ F, F = w1.heap.size + 1 := ⟨_, rfl⟩
  obtain ⟨wa, hwa⟩ : ∃ wa, wa = (w1.alloc (.cells #[.int .i64 (-7), .int .i64 0, .int .u64 0, .string ⟨#[]⟩] 41)).alloc (.cells (fcs (List.replicate N noneF)).toArray 41) := ⟨_, rfl⟩
  have hm0 : MAt wa M := by rw [hwa, hM]; unfold MAt; rw [heap_alloc_old _ _ (by simp)]; exact heap_alloc_new w1 _
  have hf0 : FBlk wa F (List.replicate N noneF) := by rw [hwa, hF]; unfold FBlk; have := heap_alloc_new (w1.alloc (.cells #[.int .i64 (-7), .int .i64 0, .int .u64 0, .string ⟨#[]⟩] 41)) (.cells (fcs (List.replicate N noneF)).toArray 41); simpa using this
  have hBa : Below w.heap.size w wa := by rw [hwa]; exact (hB1.alloc hs1 _).alloc (by simp; omega) _
  rw [← hwa, ← hF, ← hM]
  have hwM : w.heap.size ≤ M := by omega
  have hMF : M ≠ F := by omega
  have hwF : w.heap.size ≤ F := by omega
  have HM0 := Lib.hid hm0
  have HF0 := Lib.hid hf0
  clear hm0 hf0 hwa hF hM hmk h1 hs1 hB1 ch
  go_loopw [5] (fun i wr => ∃ (k : Nat) (cur : List Fd), i = .int .i64 k ∧ k ≤ N ∧ Below w.heap.size w wr ∧ Hid (MAt wr M) ∧ Hid (FBlk wr F cur) ∧ Hid (cur.length = N) ∧ Hid (cur.take k = (wideF l).take k)) (fun i _ => N - (intOf i).toNat)
  case atStart => exact ⟨0, _, rfl, Nat.zero_le _, hBa, HM0, HF0, by unfold Hid; rw [List.length_replicate], by unfold Hid; rw [List.take_zero, List.take_zero]⟩
  case round =>
    clear HM0 HF0 hBa
    obtain ⟨k, cur, rfl, hk, hB, HM, HF, HCL, HCT⟩ := hrel
    have HWL : Hid ((wideF l).length = N) := by unfold Hid; rw [wideF_len]; exact HN.out.symm
    by_cases hlt : k < N
    · have hkc : k < cur.length := by rw [HCL.out]; exact hlt
      have HKC := Lib.hid hkc
      clear hkc
      obtain ⟨m0, m1, m2, m3⟩ := HM.out.cells
      by_cases hkl : k < l.length
      · obtain ⟨f, hf⟩ : ∃ f, l[k]? = some f := ⟨l[k], List.getElem?_eq_getElem hkl⟩
        obtain ⟨g, o, rfl, hgB, hcs⟩ := (HA.out.below hB).at_ (by omega)
        obtain ⟨c0, c1, c2, c3⟩ := hcs k f hf
        have hne : g ≠ F := by omega
        have HWK : Hid ((wideF l)[k]? = some f) := (wideF_low hkl).trans hf
        clear hcs hf
        obtain ⟨t, v⟩ := f
        obtain ⟨vk, vn, vs⟩ := v
        dsimp only at c0 c1 c2 c3
        go_wp2_with (first
          | (refine wpList_store_fld rfl (.tmp 46) (.tmp 45) rfl F k (k * 4) markF cur rfl rfl rfl HF.out HKC.out ?_; intro w2 hf2 ht2; have b0 := (ht2.cell hne _).trans c0; have b1 := (ht2.cell hne _).trans c1; have b2 := (ht2.cell hne _).trans c2; have b3 := (ht2.cell hne _).trans c3; have HF2 := Lib.hid hf2; have HT2 := Lib.hid ht2; clear hf2 ht2 c0 c1 c2 c3 m0 m1 m2 m3)
          | (refine wpList_store_fld rfl (.tmp 57) (.tmp 56) rfl F k (k * 4) ⟨t, ⟨vk, vn, vs⟩⟩ (cur.set k markF) rfl rfl rfl HF2.out (by rw [List.length_set]; exact HKC.out) ?_; intro w3 hf3 ht3))
        go_roundw
        case rel => exact ⟨k + 1, _, by go_num, by omega, (hB.trans (HT2.out.below hwF)).trans (ht3.below hwF), (HM.out.keep (HT2.out.others M hMF)).keep (ht3.others M hMF), hf3, by unfold Hid; rw [List.length_set, List.length_set]; exact HCL.out, by unfold Hid; rw [List.set_set]; exact take_set (HCL.out.trans HWL.out.symm) HCT.out HWK.out⟩
        case measure => simp [intOf]; omega
      · have HWK : Hid ((wideF l)[k]? = some markF) := wideF_high hkl (by have := HN.out; omega)
        go_wp2_with (refine wpList_store_fld rfl (.tmp 46) (.tmp 45) rfl F k (k * 4) markF cur rfl rfl rfl HF.out HKC.out ?_; intro w2 hf2 ht2; have HF2 := Lib.hid hf2; have HT2 := Lib.hid ht2; clear hf2 ht2 m0 m1 m2 m3)
        go_roundw
        case rel => exact ⟨k + 1, _, by go_num, by omega, hB.trans (HT2.out.below hwF), HM.out.keep (HT2.out.others M hMF), HF2, by unfold Hid; rw [List.length_set]; exact HCL.out, by unfold Hid; exact take_set (HCL.out.trans HWL.out.symm) HCT.out HWK.out⟩
        case measure => simp [intOf]; omega
    · have hkN : k = N := by omega
      have hcur : cur = wideF l := take_all HCL.out HWL.out (by rw [← hkN]; exact HCT.out)
      have HF1 : Hid (FBlk wr F (wideF l)) := by rw [← hcur]; exact HF.out
      have HFR : Hid (FRow wr wr.heap.size (some ⟨F, 0, none⟩) l) := by
        have := HF1.out.reads.take l.length
        rwa [wideF_take] at this
      have HKS : Hid (KSt w wr) := h.then_ hB
      clear hcur hkN HCT HCL HF
      have hcut := run_cutF_h (some ⟨F, 0, none⟩) N N l.length (by omega)
      go_wp2_with fail
      refine (d_check N HFR.out HG.out HL.out HKS.out).mono ?_
      rintro e w2 ⟨rfl, k2, b2⟩
      go_wp2_with fail
      refine (d_size N (HFR.out.then_ b2) HG.out HL.out k2).mono ?_
      rintro e w3 ⟨rfl, k3, b3⟩
      go_wp2_with fail
      obtain ⟨d, hd⟩ : ∃ d, cer l = d := ⟨_, rfl⟩
      obtain ⟨r, hr⟩ : ∃ r, cby l = r := ⟨_, rfl⟩
      have ce := fun {W : World} (q : KSt w W) (hF : FRow W W.heap.size (some ⟨F, 0, none⟩) l) => d_encode N hF HG.out HL.out q
      simp only [hd, hr] at ce
      refine (ce k3 ((HFR.out.then_ b2).then_ b3)).mono ?_
      rintro e w4 ⟨A4, c4, rfl, h4⟩
      go_wp2_with fail
      have hk4 := h4.st
      have hf4 := ((HFR.out.then_ b2).then_ b3).then_ h4.old
      refine (ce hk4 hf4).mono ?_
      rintro e w5 ⟨A5, c5, rfl, h5⟩
      clear hk4 hf4 ce hcut
      go_wp2_with fail
      have HDR := Lib.hid (And.intro hd hr)
      have b5 := Below.both (Below.both (Below.both b2 b3) h4.old) h5.old
      have HK5 := Lib.hid h5.st
      have HM5 := Lib.hid (HM.out.below b5)
      have HF5 := Lib.hid (HF1.out.below b5)
      have HO4 : Hid (OwnB w5 w3.heap.size 5 A4 c4 r) := own_then h4.own h5.old
      have HO5 := Lib.hid h5.own
      have HB4 : Hid (∀ k, (Value.slice A4 r.length c4).ownBlock = some k → w3.heap.size ≤ k ∧ k < w4.heap.size) := h4.own.lt
      have HB5 : Hid (∀ k, (Value.slice A5 r.length c5).ownBlock = some k → w4.heap.size ≤ k ∧ k < w5.heap.size) := h5.own.lt
      have HS5 : Hid (w.heap.size ≤ w3.heap.size ∧ w3.heap.size ≤ w4.heap.size ∧ w4.heap.size ≤ w5.heap.size ∧ wr.heap.size ≤ w3.heap.size) := by
        have q1 := hB.size
        have q2 := b2.size
        have q3 := b3.size
        have q4 := h4.old.size
        have q5 := h5.old.size
        exact ⟨by omega, q4, q5, by omega⟩
      have HF1l := HF1.out.len
      have HM1l := HM.out.len
      clear hd hr b5 h5 h4 b3 b2 k2 k3 HM HF1 HFR HKS hB hk hlt
      obtain ⟨wo, rfl⟩ : ∃ wo : World, wo = wr := ⟨_, rfl⟩
      go_loopw [11] (fun i wr => ∃ k : Nat, i = .int .i64 k ∧ k ≤ N ∧ ∃ dd, wr = w5.drewN dd) (fun i _ => N - (intOf i).toNat)
      case atStart => exact ⟨0, rfl, Nat.zero_le _, 0, rfl⟩
      case round =>
        obtain ⟨k, rfl, hk, dd, rfl⟩ := hrel
        by_cases hlt : k < N
        · have i0 : (0 : Int) ≤ (k : Int) := by omega
          have i1 : (k : Int) < (N : Int) := by omega
          by_cases hkl : k < l.length
          · obtain ⟨f, hf⟩ : ∃ f, l[k]? = some f := ⟨l[k], List.getElem?_eq_getElem hkl⟩
            obtain ⟨g, o, rfl, hgB, hcs⟩ := (HA.out.below HK5.out.below).at_ (by omega)
            obtain ⟨c0, c1, c2, c3⟩ := hcs k f hf
            obtain ⟨e0, e1, e2, e3⟩ := HF5.out.cells ((wideF_low hkl).trans hf)
            have i2 : (k : Int) < (l.length : Int) := by omega
            have d1 : decide (k < l.length) = true := by simp; omega
            have d2 : decide ((k : Int) < (l.length : Int)) = true := by simp; omega
            have d3 : decide (l.length ≤ k) = false := by simp; omega
            have d4 : decide ((l.length : Int) ≤ (k : Int)) = false := by simp; omega
            clear hcs hf
            obtain ⟨t, v⟩ := f
            obtain ⟨vk, vn, vs⟩ := v
            dsimp only at c0 c1 c2 c3 e0 e1 e2 e3
            go_wp2_with fail
            go_quiet (fail)
            go_wp2
            go_roundw
            case rel => exact ⟨k + 1, by go_num, by omega, _, rfl⟩
            case measure => simp [intOf]; omega
          · obtain ⟨e0, e1, e2, e3⟩ := HF5.out.cells (wideF_high hkl (by have := HN.out; omega))
            obtain ⟨m0, m1, m2, m3⟩ := HM5.out.cells
            have e0' : w5.cell? ⟨F, k * 4, none⟩ = some (.int .i64 (-7)) := e0
            have e1' : w5.cell? ⟨F, k * 4 + 1, none⟩ = some (.int .i64 0) := e1
            have e2' : w5.cell? ⟨F, k * 4 + 2, none⟩ = some (.int .u64 0) := e2
            have e3' : w5.cell? ⟨F, k * 4 + 3, none⟩ = some (.string ⟨#[]⟩) := e3
            have d1 : decide (k < l.length) = false := by simp; omega
            have d2 : decide ((k : Int) < (l.length : Int)) = false := by simp; omega
            have d3 : decide (l.length ≤ k) = true := by simp; omega
            have d4 : decide ((l.length : Int) ≤ (k : Int)) = true := by simp; omega
            clear e0 e1 e2 e3
            go_wp2_with fail
            go_quiet (fail)
            go_wp2
            go_roundw
            case rel => exact ⟨k + 1, by go_num, by omega, _, rfl⟩
            case measure => simp [intOf]; omega
        · clear hk
          obtain ⟨w6, hw6⟩ : ∃ w6, w6 = w5.drewN dd := ⟨_, rfl⟩
          have b6 : Below w5.heap.size w5 w6 := by rw [hw6]; exact Below.newN w5 dd
          have HK6 := Lib.hid (HK5.out.then_ b6)
          have HM6 := Lib.hid (HM5.out.below b6)
          have HO46 : Hid (OwnB w6 w3.heap.size 5 A4 c4 r) := own_then HO4.out b6
          have HO56 : Hid (OwnB w6 w4.heap.size 5 A5 c5 r) := own_then HO5.out b6
          have hr4 := HO46.out.reads
          have hr5 := HO56.out.reads
          have hs6 : w5.heap.size ≤ w6.heap.size := b6.size
          rw [← hw6]
          have ca := alike_any c4 c5 hr4 hr5
          have hdd : decide (r = r) = true := decide_eq_true rfl
          rw [hdd] at ca
          clear hr4 hr5 hdd hw6 b6 HK5 HM5 HF5 HO4 HO5
          by_cases hd0 : d = 0
          · subst hd0
            by_cases hbig : 1048576 < r.length
            · go_wp2_with (go_at_call 19; refine ca.mono ?_; rintro e w7 ⟨rfl, rfl⟩)
              go_ret
              exact ⟨rfl, HK6.out.below⟩
            · obtain ⟨n2, hn⟩ : ∃ n2, n2 = r.length + 20 := ⟨_, rfl⟩
              have hmk : ∀ W : World, (Instr.makeSlice 28 (.int .i64 ((r.length : Int) + 20)) (.int .i64 ((r.length : Int) + 20))).run Tryd.prog W =
                  .ok (.slice (some ⟨W.heap.size, 0, none⟩) n2 n2) (W.alloc (.cells (Array.replicate n2 (.int .u8 0)) 5)) := by
                intro W
                have := run_mk n2 n2 (Nat.le_refl _) (by omega) W
                rw [hn] at this ⊢
                exact this
              have HN2 := Lib.hid hn
              have hr1 : r.length < n2 := by omega
              have hr2 : n2 ≤ 1048596 := by omega
              clear hn
              go_wp2_with (go_at_call 19; refine ca.mono ?_; rintro e w7 ⟨rfl, rfl⟩)
              clear hmk ca
              obtain ⟨G, hG⟩ : ∃ G, G = w6.heap.size := ⟨_, rfl⟩
              obtain ⟨wb, hwb⟩ : ∃ wb, wb = w6.alloc (.cells (Array.replicate n2 (.int .u8 0)) 5) := ⟨_, rfl⟩
              have hg0 : BRow wb G (List.replicate n2 0) := by rw [hwb, hG]; exact BRow.start w6 n2
              have hBb : Below w6.heap.size w6 wb := by rw [hwb]; exact (Below.refl _ _).alloc (Nat.le_refl _) _
              rw [← hwb, ← hG]
              have HGW := Lib.hid hG
              have HG0 := Lib.hid hg0
              have HBb := Lib.hid hBb
              have HW2 : Hid ((wide r).length = n2) := by unfold Hid; rw [wide_len]; exact HN2.out.symm
              clear hG hg0 hBb hwb
              go_loopw [13] (fun i wr => ∃ (k : Nat) (cur : List UInt8), i = .int .i64 k ∧ k ≤ n2 ∧ Hid (Below w6.heap.size w6 wr) ∧ Hid (BRow wr G cur) ∧ Hid (cur.length = n2) ∧ Hid (cur.take k = (wide r).take k)) (fun i _ => n2 - (intOf i).toNat)
              case atStart => exact ⟨0, _, rfl, Nat.zero_le _, HBb, HG0, by unfold Hid; rw [List.length_replicate], by unfold Hid; rw [List.take_zero, List.take_zero]⟩
              case round =>
                clear HG0 HBb
                obtain ⟨k, cur, rfl, hk, HB, HR, HCL, HCT⟩ := hrel
                by_cases hlt : k < n2
                · have hkc : k < cur.length := by rw [HCL.out]; exact hlt
                  have hd := HR.out.cell (List.getElem?_eq_getElem hkc)
                  have hf := HR.out.frozen k
                  by_cases hkr : k < r.length
                  · obtain ⟨g, o, rfl, hg, hc⟩ := (HO46.out.reads.below HB.out).at_ (by omega)
                    have hck := hc k hkr
                    have hne : g ≠ G := by have := HGW.out; omega
                    have hwk := (wide_low hkr).trans (List.getElem?_eq_getElem hkr)
                    obtain ⟨y, hy⟩ : ∃ y, r[k] = y := ⟨_, rfl⟩
                    rw [hy] at hck hwk
                    have HWK := Lib.hid hwk
                    have hst := Lib.hid ((HR.out.set k 90 90 rfl).set k y _ rfl)
                    clear hc hwk hy
                    go_wp2_with fail
                    go_roundw
                    case rel => exact ⟨k + 1, _, by go_num, by omega, (HB.out.setCell (by rw [HGW.out]; exact Nat.le_refl _) _).setCell (by rw [HGW.out]; exact Nat.le_refl _) _, hst, by unfold Hid; rw [List.length_set, List.length_set]; exact HCL.out, by unfold Hid; rw [List.set_set]; exact take_set (HCL.out.trans HW2.out.symm) HCT.out HWK.out⟩
                    case measure => simp [intOf]; omega
                  · have HWK : Hid ((wide r)[k]? = some 90) := wide_high hkr (by have := HN2.out; omega)
                    have hst := Lib.hid (HR.out.set k 90 90 rfl)
                    go_wp2_with fail
                    go_roundw
                    case rel => exact ⟨k + 1, _, by go_num, by omega, HB.out.setCell (by rw [HGW.out]; exact Nat.le_refl _) _, hst, by unfold Hid; rw [List.length_set]; exact HCL.out, by unfold Hid; exact take_set (HCL.out.trans HW2.out.symm) HCT.out HWK.out⟩
                    case measure => simp [intOf]; omega
                · have hkn : k = n2 := by omega
                  have hcur : cur = wide r := take_all HCL.out HW2.out (by rw [← hkn]; exact HCT.out)
                  have HG7 : Hid (BRow wr G (wide r)) := by rw [← hcur]; exact HR.out
                  obtain ⟨q1, q2, q3, q4⟩ := HS5.out
                  have hs7 := HB.out.size
                  have HK7 := Lib.hid (HK6.out.then_ HB.out)
                  have HM7 := Lib.hid (HM6.out.below HB.out)
                  have HR7 : Hid (Rw wr w.heap.size 5 1 (.slice A4 r.length c4) r.length) := Rw.low (Rw.of (own_then HO46.out HB.out)) q1
                  have HO57 : Hid (OwnB wr w4.heap.size 5 A5 c5 r) := own_then HO56.out HB.out
                  obtain ⟨row, hrow⟩ : ∃ row, row = (Value.slice A4 r.length c4).ownBlock := ⟨_, rfl⟩
                  have HRB : Hid (∀ k, row = some k → w3.heap.size ≤ k ∧ k < w4.heap.size) := fun k hk => HB4.out k (hrow ▸ hk)
                  have HROW := Lib.hid hrow
                  clear hcur hkn HCT HCL HR HB HO46 HO56 HK6 HM6 hrow
                  go_wp2_with fail
                  obtain ⟨w7, rfl⟩ : ∃ w7 : World, w7 = wr := ⟨_, rfl⟩
                  go_loopw [14] (fun i wr => ∃ j : Nat, i = .int .i64 j ∧ j ≤ r.length ∧ Hid (Rw wr w.heap.size 5 1 (.slice A4 r.length c4) r.length) ∧ Hid (w7.grownBy wr row)) (fun i _ => r.length - (intOf i).toNat)
                  case atStart => exact ⟨0, rfl, Nat.zero_le _, HR7, World.grownBy.refl _ _⟩
                  case round =>
                    clear HR7
                    obtain ⟨j, rfl, hj, HR, HGr⟩ := hrel
                    by_cases hjr : j < r.length
                    · obtain ⟨g, rfl, _, _, _⟩ := HR.out.form (by omega)
                      obtain ⟨v, hd⟩ := HR.out.cell (j := j) (by omega)
                      have hf := HR.out.frozen j
                      have hrg : row = some g := HROW.out
                      go_wp2_with fail
                      go_roundw
                      case rel => exact ⟨j + 1, by go_num, by omega, HR.out.setCell _ _, by unfold Hid; have := HGr.out; rw [hrg] at this ⊢; exact grown_set this _⟩
                      case measure => simp [intOf]; omega
                    · go_wp2_with fail
                      have HAP : Hid (∀ k, (Value.slice A4 r.length c4).ownBlock = some k → row = some k ∨ w7.heap.size ≤ k) := fun k hk => .inl (by rw [HROW.out]; exact hk)
                      obtain ⟨wq, rfl⟩ : ∃ wq : World, wq = wr := ⟨_, rfl⟩
                      go_loopw [7, 15] (fun v i ws => ∃ (q m cap : Nat) (Ax : Option Addr), i = .int .i64 q ∧ q ≤ 16 ∧ v = .slice Ax m cap ∧ m ≤ r.length + q ∧ Hid (Rw ws w.heap.size 5 1 (.slice Ax m cap) m) ∧ Hid (w7.grownBy ws row) ∧ Hid (∀ k, (Value.slice Ax m cap).ownBlock = some k → row = some k ∨ w7.heap.size ≤ k)) (fun _ i _ => 16 - (intOf i).toNat)
                      case atStart => exact ⟨0, _, _, _, rfl, Nat.zero_le _, rfl, Nat.le_refl _, HR, HGr, HAP⟩
                      case round =>
                        clear HR HGr HAP
                        obtain ⟨q, m, cap, Ax, rfl, hq, rfl, hm2, HR, HGr, HAP⟩ := hrel
                        by_cases hq16 : q < 16
                        · obtain ⟨i0, hi, hz0, hz1, hz2⟩ := info_parts infoB
                          have HI := Lib.hid hi
                          have HZ := Lib.hid (And.intro hz0 (And.intro hz1 hz2))
                          clear hi hz0 hz1 hz2
                          go_wp2_with (at_builtin; refine wpList_app_own rfl (.tmp 164) (.tmp 165) 28 rfl w.heap.size 5 i0 _ 1 1 Tryd.underlying28 HI.out HZ.out.1 HZ.out.2.1 HZ.out.2.2 rfl (by decide) (by decide) Ax cap m (m + 1) row w7 rfl HR.out HGr.out HAP.out #[.int .u8 238] rfl rfl (by simp [Value.oneCell']) (by omega) rfl (by omega) ?_; intro A' c' w' g1 g2 g3)
                          go_roundw
                          case rel => exact ⟨q + 1, m + 1, _, _, by go_num, by omega, rfl, by omega, g1, g2, g3⟩
                          case measure => simp [intOf]; omega
                        · obtain ⟨q1, q2, q3, q4⟩ := HS5.out
                          have hGW := HGW.out
                          have hgs := HGr.out.size
                          have hBw8 : Below w.heap.size w wr := grown_below HK7.out.below HGr.out (by have := HK7.out.below.size; exact this) (fun k hk => by have := (HRB.out k hk).1; omega)
                          have HM8 := Lib.hid (HM7.out.grown HGr.out (row_ne (a := w3.heap.size) (fun k hk => (HRB.out k hk).1) (by omega)))
                          have HG8 := Lib.hid (HG7.out.grown HGr.out (row_ne' (a := w4.heap.size) (fun k hk => (HRB.out k hk).2) (by omega)))
                          have HO58 : Hid (OwnB wr w4.heap.size 5 A5 c5 r) := World.ownsRow.kept HO57.out HGr.out (apart_of (a := w4.heap.size) (fun k hk => (HB5.out k hk).1) (fun k hk => (HRB.out k hk).2))
                          have HK8 : Hid (KSt w wr) := h.then_ hBw8
                          have HB8 : Hid (Byt wr wr.heap.size (some ⟨G, 0, none⟩) r) := by
                            have := HG8.out.reads.take r.length
                            rwa [wide_take] at this
                          have hG8 : G < wr.heap.size := HG8.out.len
                          have hM8 : M < G := by omega
                          have hwG : w.heap.size ≤ G := by omega
                          have hz8 : w.heap.size ≤ wr.heap.size := by omega
                          have h6 : Is 0 l ∧ (enc l).length ≤ 16777215 := by
                            have e := HDR.out.1
                            rcases cer_is HG.out.fit with ⟨g, _⟩ | ⟨g, _⟩ | ⟨_, g⟩
                            · omega
                            · omega
                            · exact g
                          have he : enc l = r := by have := (cer_ok h6.1 h6.2).2.2.2; rw [HDR.out.2] at this; exact this.symm
                          obtain ⟨e1, e2⟩ := der_ok (b := r) (by rw [← he]; exact h6.2) h6.1 he
                          have cd := fun {W : World} (q : KSt w W) (hB : Byt W W.heap.size (some ⟨G, 0, none⟩) r) => c_decode n2 hB (Nat.le_of_lt hr1) (by omega) q
                          simp only [e1, e2] at cd
                          have hcut := run_cut_h (P := Tryd.prog) Tryd.underlying28 (by kernel_rfl) (some ⟨G, 0, none⟩) n2 n2 r.length (Nat.le_of_lt hr1)
                          clear HK7 HM7 HG7 HO57 HR HGr HAP HRB HROW HB4 hBw8 h6 he e1 e2 hm2 hGW hgs
                          obtain ⟨w8, rfl⟩ : ∃ w8 : World, w8 = wr := ⟨_, rfl⟩
                          go_wp2_with fail
                          refine (cd HK8.out HB8.out).mono ?_
                          rintro e w9 ⟨A9, c9, rfl, h9⟩
                          go_wp2_with fail
                          refine (cd h9.st (HB8.out.then_ h9.old)).mono ?_
                          rintro e w10 ⟨A10, c10, rfl, h10⟩
                          clear cd
                          have hb10 := Below.both h9.old h10.old
                          have csm := c_same (w0 := w) c9 c (h9.reads.then_ h10.old) (HA.out.then_ h10.st.below) (by omega) (by omega) h10.st
                          rw [sm_self] at csm
                          have ca := fun {W : World} (hb : Below w8.heap.size w8 W) => alike_any n2 c5 (HB8.out.then_ hb) ((OwnB.reads HO58.out).then_ hb)
                          have hdd : decide (r = r) = true := decide_eq_true rfl
                          rw [hdd] at ca
                          clear hdd
                          go_wp2_with (first
                            | (go_at_call 22; refine csm.mono ?_; rintro e w11 ⟨rfl, k11, b11⟩)
                            | (go_at_call 19; refine (ca (Below.both hb10 b11)).mono ?_; rintro e w12 ⟨rfl, rfl⟩))
                          have hb11 := Below.both hb10 b11
                          have HK11 := Lib.hid k11
                          have HM11 := Lib.hid (HM8.out.below hb11)
                          have HG11 := Lib.hid (HG8.out.below hb11)
                          have HO9 : Hid (OwnF w11 w8.heap.size A9 c9 l) := OwnF.then_ (OwnF.then_ h9.own h10.old) b11
                          have HO10 : Hid (OwnF w11 w9.heap.size A10 c10 l) := OwnF.then_ h10.own b11
                          have HP9 : Hid (∀ k, (Value.slice A9 l.length c9).ownBlock = some k → w8.heap.size ≤ k ∧ k < w9.heap.size) := h9.own.lt
                          have HP10 : Hid (∀ k, (Value.slice A10 l.length c10).ownBlock = some k → w9.heap.size ≤ k ∧ k < w10.heap.size) := h10.own.lt
                          have hz9 : w8.heap.size ≤ w9.heap.size := h9.old.size
                          have hz11 : w8.heap.size ≤ w11.heap.size := hb11.size
                          clear hb10 hb11 b11 k11 h9 h10 csm ca hcut HK8 HM8 HG8 HO58 HB8
                          go_loopw [20] (fun i ws => ∃ (j : Nat) (cur : List UInt8), i = .int .i64 j ∧ j ≤ n2 ∧ Hid (BRow ws G cur) ∧ Hid (cur.length = n2) ∧ Hid (cur.drop j = (wide r).drop j) ∧ Hid (w11.grownBy ws (some G))) (fun i _ => n2 - (intOf i).toNat)
                          case atStart => exact ⟨0, _, rfl, Nat.zero_le _, HG11, HW2, rfl, World.grownBy.refl _ _⟩
                          case round =>
                            clear HG11
                            obtain ⟨j, cur, rfl, hj, HR, HCL, HCD, HGr⟩ := hrel
                            by_cases hjn : j < n2
                            · have hjc : j < cur.length := by rw [HCL.out]; exact hjn
                              have hf := HR.out.frozen j
                              have hst := Lib.hid (HR.out.set j 17 17 rfl)
                              have HCD2 := Lib.hid (drop_set (x := 17) HCD.out)
                              by_cases hjr : j < r.length
                              · have hd := HR.out.cell (List.getElem?_eq_getElem hjc)
                                go_wp2_with fail
                                go_roundw
                                case rel => exact ⟨j + 1, _, by go_num, by omega, hst, by unfold Hid; rw [List.length_set]; exact HCL.out, HCD2, grown_set HGr.out _⟩
                                case measure => simp [intOf]; omega
                              · have hd := HR.out.cell ((drop_get HCD.out).trans (wide_high hjr (by have := HN2.out; omega)))
                                have hd' : wr.cell? ⟨G, j, none⟩ = some (.int .u8 90) := hd
                                clear hd
                                go_wp2_with fail
                                go_roundw
                                case rel => exact ⟨j + 1, _, by go_num, by omega, hst, by unfold Hid; rw [List.length_set]; exact HCL.out, HCD2, grown_set HGr.out _⟩
                                case measure => simp [intOf]; omega
                            · have hK12 : KSt w wr := h.then_ (grown_below HK11.out.below HGr.out HK11.out.below.size (fun k hk => by obtain rfl := Option.some.inj hk; exact hwG))
                              have HM12 := Lib.hid (HM11.out.grown HGr.out (fun e => by have := Option.some.inj e; omega))
                              have HR12 : Hid (Rw wr w.heap.size 41 4 (.slice A9 l.length c9) l.length) := Rw.low (Rw.kept (Rw.of HO9.out) HGr.out (apart_of (a := w8.heap.size) (fun k hk => (HP9.out k hk).1) (fun k hk => by obtain rfl := Option.some.inj hk; exact hG8))) hz8
                              have HO12 : Hid (OwnF wr w9.heap.size A10 c10 l) := World.ownsRow.kept HO10.out HGr.out (apart_of (a := w9.heap.size) (fun k hk => (HP10.out k hk).1) (fun k hk => by obtain rfl := Option.some.inj hk; omega))
                              have hs12 := HGr.out.size
                              obtain ⟨row, hrow⟩ : ∃ row, row = (Value.slice A9 l.length c9).ownBlock := ⟨_, rfl⟩
                              have HRB : Hid (∀ k, row = some k → w8.heap.size ≤ k ∧ k < w9.heap.size) := fun k hk => HP9.out k (hrow ▸ hk)
                              have HROW := Lib.hid hrow
                              have HK12 := Lib.hid hK12
                              clear hK12 hrow HR HCL HCD HGr HO9 HO10 HM11 HK11 HP9
                              go_wp2_with fail
                              obtain ⟨w12, rfl⟩ : ∃ w12 : World, w12 = wr := ⟨_, rfl⟩
                              go_loopw [21] (fun i ws => ∃ j : Nat, i = .int .i64 j ∧ j ≤ l.length ∧ Hid (Rw ws w.heap.size 41 4 (.slice A9 l.length c9) l.length) ∧ Hid (w12.grownBy ws row)) (fun i _ => l.length - (intOf i).toNat)
                              case atStart => exact ⟨0, rfl, Nat.zero_le _, HR12, World.grownBy.refl _ _⟩
                              case round =>
                                clear HR12
                                obtain ⟨j, rfl, hj, HR, HGr⟩ := hrel
                                by_cases hjl : j < l.length
                                · obtain ⟨g, rfl, _, _, _⟩ := HR.out.form (by omega)
                                  have hrg : row = some g := HROW.out
                                  obtain ⟨m0, m1, m2, m3⟩ := (HM12.out.grown HGr.out (row_ne (a := w8.heap.size) (fun k hk => (HRB.out k hk).1) (by omega))).cells
                                  go_wp2_with (refine wpList_store_own rfl (.tmp 233) (.tmp 232) rfl w.heap.size g j (j * 4) l.length c9 markF rfl rfl rfl HR.out hjl ?_; intro w13 hr13 ht13)
                                  go_roundw
                                  case rel => exact ⟨j + 1, by go_num, by omega, hr13, by unfold Hid; have := HGr.out; rw [hrg] at this ⊢; exact grown_trans this ht13.grown⟩
                                  case measure => simp [intOf]; omega
                                · go_wp2_with fail
                                  have HAP : Hid (∀ k, (Value.slice A9 l.length c9).ownBlock = some k → row = some k ∨ w12.heap.size ≤ k) := fun k hk => .inl (by rw [HROW.out]; exact hk)
                                  obtain ⟨wq, rfl⟩ : ∃ wq : World, wq = wr := ⟨_, rfl⟩
                                  go_loopw [16, 22] (fun v i ws => ∃ (q m cap : Nat) (Ax : Option Addr), i = .int .i64 q ∧ q ≤ 16 ∧ v = .slice Ax m cap ∧ m ≤ l.length + q ∧ Hid (Rw ws w.heap.size 41 4 (.slice Ax m cap) m) ∧ Hid (w12.grownBy ws row) ∧ Hid (∀ k, (Value.slice Ax m cap).ownBlock = some k → row = some k ∨ w12.heap.size ≤ k)) (fun _ i _ => 16 - (intOf i).toNat)
                                  case atStart => exact ⟨0, _, _, _, rfl, Nat.zero_le _, rfl, Nat.le_refl _, HR, HGr, HAP⟩
                                  case round =>
                                    clear HR HGr HAP
                                    obtain ⟨q, m, cap, Ax, rfl, hq, rfl, hm2, HR, HGr, HAP⟩ := hrel
                                    have hmm := HM12.out.grown HGr.out (row_ne (a := w8.heap.size) (fun k hk => (HRB.out k hk).1) (by omega))
                                    by_cases hq16 : q < 16
                                    · obtain ⟨m0, m1, m2, m3⟩ := hmm.cells
                                      obtain ⟨i0, hi, hz0, hz1, hz2⟩ := info_f
                                      have HI := Lib.hid hi
                                      have HZ := Lib.hid (And.intro hz0 (And.intro hz1 hz2))
                                      clear hi hz0 hz1 hz2 hmm
                                      go_wp2_with (at_builtin; refine wpList_app_own rfl (.tmp 238) (.tmp 240) 22 rfl w.heap.size 41 i0 _ 4 40 Tryd.underlying22 HI.out HZ.out.1 HZ.out.2.1 HZ.out.2.2 rfl (by decide) (by decide) Ax cap m (m + 1) row w12 rfl HR.out HGr.out HAP.out #[.int .i64 (-7), .int .i64 0, .int .u64 0, .string ⟨#[]⟩] rfl rfl (by simp [Value.oneCell']) (by omega) rfl (by omega) ?_; intro A' c' w' g1 g2 g3)
                                      go_roundw
                                      case rel => exact ⟨q + 1, m + 1, _, _, by go_num, by omega, rfl, by omega, g1, g2, g3⟩
                                      case measure => simp [intOf]; omega
                                    · have hB : Below w.heap.size w wr := grown_below HK12.out.below HGr.out HK12.out.below.size (fun k hk => by have := (HRB.out k hk).1; omega)
                                      have hk : KSt w wr := h.then_ hB
                                      have ho : OwnF wr w9.heap.size A10 c10 l := World.ownsRow.kept HO12.out HGr.out (apart_of (a := w9.heap.size) (fun k hk => (HP10.out k hk).1) (fun k hk => (HRB.out k hk).2))
                                      have csm := c_same (w0 := w) c10 c ho.reads (HA.out.then_ hB) (by omega) (by omega) hk
                                      rw [sm_self] at csm
                                      clear hmm ho hk
                                      go_wp2_with (go_at_call 22; refine csm.mono ?_; rintro e w14 ⟨rfl, k14, _⟩)
                                      go_ret
                                      exact ⟨rfl, k14.below⟩
          · have gb : (d != 0) = true := by simpa using hd0
            clear hd0
            go_wp2_with (go_at_call 19; refine ca.mono ?_; rintro e w7 ⟨rfl, rfl⟩)
            go_ret
            exact ⟨rfl, HK6.out.below⟩

theorem keeps_any {w : World} (h : KSt w w) {A : Option Addr} {l : List Fd} (c : Nat) (hA : FRow w w.heap.size A l) (hg : Good l) (hl : l.length ≤ 140737488355328) :
    Calls Tryd.prog 10 #[.slice A l.length c] w (Yes w) := by
  by_cases hlen : 65536 < l.length
  · exact keeps_out h c hA hg hl (.inl hlen)
  · by_cases hh : hvy l = true
    · exact keeps_out h c hA hg hl (.inr hh)
    · exact keeps_in h c hA hg (by omega) (by simpa using hh)
end Go.Proofs.YthekbefbhjllnaaDoor
