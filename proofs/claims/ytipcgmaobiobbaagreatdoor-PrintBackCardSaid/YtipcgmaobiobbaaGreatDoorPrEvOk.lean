/- The walks of the code: whether raw events, raw trees are some. -/
import Derived.Test.YtipcgmaobiobbaaGreatDoorPrStepOk
namespace Go.Proofs.YtipcgmaobiobbaaGreatDoor
open Go.RowKit

theorem MvAt.cells {w : World} {B : Nat} {m : Mv} (h : MvAt w B m) {j : Nat} {y : Ms} (hy : m.st[j]? = some y) : ∃ b o, m.A = some ⟨b, o, none⟩ ∧ b < B ∧
    (w.cell? ⟨b, o + j * 8, none⟩ = some (.int .i64 y.s.kind) ∧ w.cell? ⟨b, o + j * 8 + 1, none⟩ = some (.string (str y.s.a)) ∧ w.cell? ⟨b, o + j * 8 + 2, none⟩ = some (.string (str y.s.b)) ∧ w.cell? ⟨b, o + j * 8 + 3, none⟩ = some (.string (str y.s.c)) ∧
    w.cell? ⟨b, o + j * 8 + 4, none⟩ = some (.string (str y.s.sep)) ∧ w.cell? ⟨b, o + j * 8 + 5, none⟩ = some (.string (str y.s.ty)) ∧ w.cell? ⟨b, o + j * 8 + 6, none⟩ = some (.slice y.A y.s.v.length y.c) ∧ w.cell? ⟨b, o + j * 8 + 7, none⟩ = some (.int .i64 y.s.p)) ∧ MsAt w B y := by
  obtain ⟨b, o, hA, hb, hc⟩ := h.row.at_ hy
  exact ⟨b, o, hA, hb, ⟨hc 0 _ rfl, hc 1 _ rfl, hc 2 _ rfl, hc 3 _ rfl, hc 4 _ rfl, hc 5 _ rfl, hc 6 _ rfl, hc 7 _ rfl⟩, h.each y (List.mem_of_getElem? hy)⟩
theorem MeAt.cells {w : World} {B : Nat} {m : Me} (h : MeAt w B m) {j : Nat} {y : Mv} (hy : m.vs[j]? = some y) : ∃ b o, m.A = some ⟨b, o, none⟩ ∧ b < B ∧
    (w.cell? ⟨b, o + j * 3, none⟩ = some (.int .u64 (y.num : Nat)) ∧ w.cell? ⟨b, o + j * 3 + 1, none⟩ = some (.slice y.A y.st.length y.c) ∧ w.cell? ⟨b, o + j * 3 + 2, none⟩ = some (.int .i64 y.p)) ∧ MvAt w B y := by
  obtain ⟨b, o, hA, hb, hc⟩ := h.row.at_ hy
  exact ⟨b, o, hA, hb, ⟨hc 0 _ rfl, hc 1 _ rfl, hc 2 _ rfl⟩, h.each y (List.mem_of_getElem? hy)⟩
theorem MtAt.cells {w : World} {B : Nat} {A : Option Addr} {l : List Me} (h : MtAt w B A l) {j : Nat} {y : Me} (hy : l[j]? = some y) : ∃ b o, A = some ⟨b, o, none⟩ ∧ b < B ∧
    (w.cell? ⟨b, o + j * 3, none⟩ = some (.string (str y.name)) ∧ w.cell? ⟨b, o + j * 3 + 1, none⟩ = some (.slice y.A y.vs.length y.c) ∧ w.cell? ⟨b, o + j * 3 + 2, none⟩ = some (.int .i64 y.p)) ∧ MeAt w B y := by
  obtain ⟨b, o, hA, hb, hc⟩ := h.row.at_ hy
  exact ⟨b, o, hA, hb, ⟨hc 0 _ rfl, hc 1 _ rfl, hc 2 _ rfl⟩, h.each y (List.mem_of_getElem? hy)⟩
def okM (m : Ms) : Bool := okS m.s
def okW (m : Mv) : Bool := m.st.all okM
theorem okE_of (m : Me) : okE m.e = (nmB m.name && !decide (m.vs = []) && m.vs.all okW) := by
  unfold okE Me.e okW okM Mv.v
  simp [List.all_map, Function.comp_def]

set_option maxHeartbeats 4000000 in
set_option maxRecDepth 100000 in
theorem pisevent_any {w : World} {B : Nat} {m : Me} (h : MeAt w B m) (hB : B ≤ w.heap.size) :
    Calls Tryz.prog 24 #[.agg m.C] w fun e w' => e = .returned (.bool (okE m.e)) ∧ Below w.heap.size w w' := by
  obtain ⟨bb, hbb0⟩ : ∃ bb, okE m.e = bb := ⟨_, rfl⟩
  rw [hbb0]
  rw [okE_of] at hbb0
  obtain ⟨name, vs, A, c, p⟩ := m
  have hbb0 : (nmB name && !decide (vs = []) && vs.all okW) = bb := hbb0
  have HBB := Lib.hid hbb0
  clear hbb0
  have eC : (⟨name, vs, A, c, p⟩ : Me).C = #[.string (str name), .slice A vs.length c, .int .i64 p] := rfl
  rw [eC]
  clear eC
  obtain ⟨n, hn⟩ : ∃ n, vs.length = n := ⟨_, rfl⟩
  rw [hn]
  have HN := Lib.hid hn
  have hname : name.length ≤ 140737488355328 := h.name
  have hvl : n ≤ 140737488355328 := by rw [← hn]; exact h.len
  have CL : Hid (∀ {W : World}, Below w.heap.size w W → MeAt W B ⟨name, vs, A, c, p⟩) := fun hW => h.below (hW.mono hB)
  obtain ⟨w1, hw1⟩ : ∃ w1, w.alloc (.cells #[.string (str name), .slice A n c, .int .i64 p] 48) = w1 := ⟨_, rfl⟩
  have b1 : Below w.heap.size w w1 := by rw [← hw1]; exact (Below.refl _ w).alloc (Nat.le_refl _) _
  have k1 : CB w1 w.heap.size 48 #[.string (str name), .slice A n c, .int .i64 p] := by rw [← hw1]; exact CB.new w _ _
  obtain ⟨nb, hnb⟩ : ∃ nb, nmB name = nb := ⟨_, rfl⟩
  have NX : Hid (Calls Tryz.prog 41 #[.slice (some ⟨w1.heap.size, 0, none⟩) 1 1] (w1.alloc (.cells #[.string (str name)] 9)) fun e w3 => e = .returned (.bool nb) ∧ w3.cell? ⟨w.heap.size, 1, none⟩ = some (.slice A n c) ∧ Hid (Below w.heap.size w w3)) := by
    refine (pnames_new w1 [name] 1 rfl (fun x hx => by rw [List.mem_singleton] at hx; rw [hx]; exact hname) (by decide) _ rfl).mono ?_
    rintro e w3 ⟨rfl, h3⟩
    exact ⟨by rw [← hnb]; simp, (k1.below h3).at_ 1, b1.trans (h3.mono b1.size)⟩
  have y0 : w1.cell? ⟨w.heap.size, 0, none⟩ = some (.string (str name)) := k1.at_ 0
  clear h b1 k1 hn
  go_enter Tryz.func24, Tryz.ntmps24
  cases nb with
  | false =>
    obtain rfl : bb = false := by rw [← HBB.out, hnb]; rfl
    clear hnb
    go_wp2_with (go_at_call 41; refine NX.out.mono ?_; rintro e w3 ⟨rfl, y1, B3⟩)
    go_ret
    exact ⟨rfl, B3.out⟩
  | true =>
    by_cases hv : vs = []
    · obtain rfl : bb = false := by rw [← HBB.out, hnb, hv]; rfl
      have hz0 : ((n : Int) == 0) = true := by rw [← HN.out, hv]; rfl
      clear hnb hv
      go_wp2_with (go_at_call 41; refine NX.out.mono ?_; rintro e w3 ⟨rfl, y1, B3⟩)
      go_ret
      exact ⟨rfl, B3.out⟩
    · have hpos : 0 < n := by rw [← HN.out]; exact List.length_pos_iff.2 hv
      have hz0 : ((n : Int) == 0) = false := by rw [beq_eq_false_iff_ne]; omega
      have hq0 : vs.all okW = bb := by
        have := HBB.out
        rw [hnb, decide_eq_false hv] at this
        simpa using this
      have HQ := Lib.hid hq0
      clear HBB hnb hq0 hv hpos
      go_wp2_with (go_at_call 41; refine NX.out.mono ?_; rintro e w3 ⟨rfl, y1, B3⟩)
      go_loopw [21] (fun u wr => ∃ (i : Nat), u = .int .i64 i ∧ i ≤ n ∧ Hid ((vs.take i).all okW = true ∧ Below w.heap.size w wr)) (fun u _ => n - (intOf u).toNat)
      case atStart => exact ⟨0, rfl, Nat.zero_le _, rfl, B3.out⟩
      case round =>
        obtain ⟨i, rfl, hil, HF⟩ := hrel
        by_cases hlt : i < n
        · have hiz : (i : Int) < (n : Int) := by omega
          have hlv : i < vs.length := by rw [HN.out]; exact hlt
          have hi0 : (0 : Int) ≤ (i : Int) := by omega
          have hgi : vs[i]? = some vs[i] := List.getElem?_eq_getElem hlv
          have hall : (vs.take (i + 1)).all okW = okW vs[i] := by rw [List.take_succ_eq_append_getElem hlv, List.all_append, HF.out.1]; simp
          have hmem : vs[i] ∈ vs := List.getElem_mem hlv
          obtain ⟨x, hx⟩ : ∃ x, vs[i] = x := ⟨_, rfl⟩
          rw [hx] at hgi hall hmem
          obtain ⟨gb, go, hA, _, ⟨x0, x1, x2⟩, hX⟩ := (CL.out HF.out.2).cells hgi
          have hA : A = some ⟨gb, go, none⟩ := hA
          subst hA
          have HX : Hid (∀ {W : World}, Below w.heap.size w W → MvAt W B x) := fun hW => (CL.out hW).each x hmem
          have HA := Lib.hid hall
          have HM := Lib.hid hmem
          have hsl : x.st.length ≤ 140737488355328 := hX.len
          obtain ⟨num, st, A2, c2, p2⟩ := x
          obtain ⟨wx, rfl⟩ : ∃ wx : World, wx = wr := ⟨_, rfl⟩
          clear hX hall hmem hgi hx
          obtain ⟨wo, hwo⟩ : ∃ wo, wx.alloc (.cells #[.int .u64 (num : Nat), .slice A2 st.length c2, .int .i64 p2] 45) = wo := ⟨_, rfl⟩
          have bo : Below wx.heap.size wx wo := by rw [← hwo]; exact (Below.refl _ wx).alloc (Nat.le_refl _) _
          have BO : Hid (Below w.heap.size w wo) := HF.out.2.trans (bo.mono HF.out.2.size)
          have v1 : wo.cell? ⟨wx.heap.size, 1, none⟩ = some (.slice A2 st.length c2) := by rw [← hwo]; exact (CB.new wx _ #[.int .u64 (num : Nat), .slice A2 st.length c2, .int .i64 p2]).at_ 1
          obtain ⟨k, hk⟩ : ∃ k, st.length = k := ⟨_, rfl⟩
          rw [hk] at v1 hwo x1 hsl
          have HK := Lib.hid hk
          clear bo hk
          go_wp2
          go_loopw [28] (fun u wq => ∃ (j : Nat), u = .int .i64 j ∧ j ≤ k ∧ Hid ((st.take j).all okM = true ∧ Below w.heap.size w wq)) (fun u _ => k - (intOf u).toNat)
          case atStart => exact ⟨0, rfl, Nat.zero_le _, rfl, BO.out⟩
          case round =>
            obtain ⟨j, rfl, hjl, HG⟩ := hrel
            by_cases hjlt : j < k
            · have hjz : (j : Int) < (k : Int) := by omega
              have hj0 : (0 : Int) ≤ (j : Int) := by omega
              have hjv : j < st.length := by rw [HK.out]; exact hjlt
              have hgj : st[j]? = some st[j] := List.getElem?_eq_getElem hjv
              have halj : (st.take (j + 1)).all okM = okM st[j] := by rw [List.take_succ_eq_append_getElem hjv, List.all_append, HG.out.1]; simp
              have hmej : st[j] ∈ st := List.getElem_mem hjv
              obtain ⟨y, hy⟩ : ∃ y, st[j] = y := ⟨_, rfl⟩
              rw [hy] at hgj halj hmej
              obtain ⟨gb2, go2, hA2, _, ⟨y0, y1, y2, y3, y4, y5, y6, y7⟩, hY⟩ := (HX.out HG.out.2).cells hgj
              have hA2 : A2 = some ⟨gb2, go2, none⟩ := hA2
              subst hA2
              obtain ⟨ob, hob⟩ : ∃ ob, okM y = ob := ⟨_, rfl⟩
              have CI : Hid (Calls Tryz.prog 42 #[.agg y.C] (wr.alloc (.cells y.C 42)) fun e w' => e = .returned (.bool ob) ∧ Hid (Below w.heap.size w w')) := by
                have hb : Below wr.heap.size wr (wr.alloc (.cells y.C 42)) := (Below.refl _ wr).alloc (Nat.le_refl _) _
                have hwr := HG.out.2
                refine (pisstep_any (hY.below (hb.mono (Nat.le_trans hB hwr.size))) (Nat.le_trans hB (Nat.le_trans hwr.size hb.size))).mono ?_
                rintro e w' ⟨rfl, h2⟩
                exact ⟨by rw [← hob]; rfl, hwr.trans ((hb.trans (h2.mono hb.size)).mono hwr.size)⟩
              clear hY hy hgj
              cases ob with
              | false =>
                obtain rfl : bb = false := by
                  rw [← HQ.out, List.all_eq_false]
                  refine ⟨_, HM.out, ?_⟩
                  unfold okW
                  rw [Bool.not_eq_true, List.all_eq_false]
                  exact ⟨y, hmej, by rw [hob]; simp⟩
                clear halj hmej hob
                go_wp2_with (go_at_call 42; refine CI.out.mono ?_; rintro e w5 ⟨rfl, H5⟩)
                go_ret
                exact ⟨rfl, H5.out⟩
              | true =>
                rw [hob] at halj
                have HAJ := Lib.hid halj
                clear halj hmej hob
                go_wp2_with (go_at_call 42; refine CI.out.mono ?_; rintro e w5 ⟨rfl, H5⟩)
                go_roundw
                case rel => exact ⟨j + 1, by go_num, by omega, HAJ.out, H5.out⟩
                case measure => simp [intOf]; omega
            · obtain rfl : j = k := by omega
              have hjz : ¬ (j : Int) < (j : Int) := by omega
              have e1 : st.take j = st := by rw [← HK.out]; exact List.take_length
              rw [e1] at HG
              go_wp2
              go_roundw
              case rel => exact ⟨i + 1, by go_num, by omega, HA.out.trans HG.out.1, HG.out.2⟩
              case measure => simp [intOf]; omega
        · obtain rfl : i = n := by omega
          have hiz : ¬ (i : Int) < (i : Int) := by omega
          have e1 : vs.take i = vs := by rw [← HN.out]; exact List.take_length
          rw [e1] at HF
          obtain rfl : bb = true := HQ.out.symm.trans HF.out.1
          go_wp2
          go_ret
          exact ⟨rfl, HF.out.2⟩
end Go.Proofs.YtipcgmaobiobbaaGreatDoor
