/- The walk of the statements' own function that makes a marked copy of a tree. -/
import Derived.Test.YtdkcnepjjinpdaaDoorPrMark
namespace Go.Proofs.YtdkcnepjjinpdaaDoor
open Go.RowKit

/-- few enough of everything -/
structure SizT (l : List Me) : Prop where
  len : l.length ≤ 65536
  vs : ∀ x ∈ l, x.vs.length ≤ 65536
  st : ∀ x ∈ l, ∀ v ∈ x.vs, v.st.length ≤ 65536
  nd : ∀ x ∈ l, ∀ v ∈ x.vs, ∀ s ∈ v.st, s.s.v.length ≤ 65536
/-- what copied answers -/
def CopAt (d : Int) (l : List Me) (w : World) (e : Ending) (w' : World) : Prop :=
  ∃ A' c' l', e = .returned (.agg #[.slice A' l'.length c']) ∧ Below w.heap.size w w' ∧ KtAt w' w'.heap.size A' c' l' ∧ Rel2 (ShE d) l l'

set_option maxRecDepth 100000 in
set_option maxHeartbeats 8000000 in
theorem copied_any {w : World} {c : Nat} {A : Option Addr} {l : List Me} {d : Int} (h : MtAt w w.heap.size A l) (hz : SizT l) :
    Calls Tryd.prog 15 #[.agg #[.slice A l.length c], .int .i64 d] w (CopAt d l w) := by
  obtain ⟨n, hn⟩ : ∃ n, l.length = n := ⟨_, rfl⟩
  have hvl : n ≤ 65536 := by rw [← hn]; exact hz.len
  rw [hn]
  obtain ⟨wz, hwz⟩ : ∃ wz, ((w.alloc (.cells #[.slice A n c] 30)).alloc (.cells #[.slice none 0 0] 30)).alloc (.cells #[.slice none 0 0] 30) = wz := ⟨_, rfl⟩
  have bz : Below w.heap.size w wz := by rw [← hwz]; exact (((Below.refl _ w).alloc (Nat.le_refl _) _).alloc (by simp) _).alloc (by simp; omega) _
  have sz : wz.heap.size = w.heap.size + 1 + 1 + 1 := by rw [← hwz]; simp
  have kz : CB wz w.heap.size 30 #[.slice A n c] := by
    rw [← hwz]
    exact (CB.new w 30 #[.slice A n c]).below (((Below.refl _ _).alloc (Nat.le_refl _) _).alloc (by simp) _)
  have rz : CB wz (w.heap.size + 1) 30 #[.slice none 0 0] := by
    rw [← hwz]
    have e : (w.alloc (.cells #[.slice A n c] 30)).heap.size = w.heap.size + 1 := by simp
    rw [← e]
    exact (CB.new _ _ _).below ((Below.refl _ _).alloc (by simp) _)
  have uz : CB wz (w.heap.size + 1 + 1) 30 #[.slice none 0 0] := by
    rw [← hwz]
    have e : ((w.alloc (.cells #[.slice A n c] 30)).alloc (.cells #[.slice none 0 0] 30)).heap.size = w.heap.size + 1 + 1 := by simp
    rw [← e]
    exact CB.new _ _ _
  have HA := Lib.hid (h.below bz)
  have HN := Lib.hid hn
  have HS := Lib.hid hz
  have HZ := Lib.hid bz
  have SZ := Lib.hid sz
  have BX : Hid (∀ W, Below (w.heap.size + 1) wz W → W.cell? ⟨w.heap.size, 0, none⟩ = some (.slice A n c)) := fun W hW => (hW.cell (p := ⟨w.heap.size, 0, none⟩) (by show w.heap.size < w.heap.size + 1; omega)).trans (kz.at_ 0)
  have I0 : Hid (Below (w.heap.size + 1) wz wz ∧ CB wz (w.heap.size + 1 + 1) 30 #[.slice none 0 0] ∧ CB wz (w.heap.size + 1) 30 #[.slice none 0 0] ∧ wz.heap.size ≤ wz.heap.size ∧ Built LvE wz wz.heap.size none 0 [] ∧ mkE ∉ ([] : List Me) ∧ ([] : List Me).length = 0 ∧ Rel2 (ShE d) (l.take 0) []) := ⟨Below.refl _ _, uz, rz, Nat.le_refl _, Built.nil _ _ _, by simp, rfl, .nil⟩
  have z0 := BX.out wz (Below.refl _ _)
  have z1 : wz.cell? ⟨w.heap.size + 1 + 1, 0, none⟩ = some (.slice none 0 0) := uz.at_ 0
  clear h hn hz bz sz kz uz rz
  go_enter Tryd.func15, Tryd.ntmps15
  go_wp2
  go_loopw [6] (fun i wr => ∃ (k : Nat) (Ae : Option Addr) (ce : Nat) (ls : List Me), i = .int .i64 k ∧ k ≤ n ∧ Hid (Below (w.heap.size + 1) wz wr ∧ CB wr (w.heap.size + 1 + 1) 30 #[.slice Ae k ce] ∧ CB wr (w.heap.size + 1) 30 #[.slice none 0 0] ∧ wz.heap.size ≤ wr.heap.size ∧ Built LvE wr wz.heap.size Ae ce ls ∧ mkE ∉ ls ∧ ls.length = k ∧ Rel2 (ShE d) (l.take k) ls)) (fun i _ => n - (intOf i).toNat)
  case atStart => exact ⟨0, none, 0, [], rfl, Nat.zero_le _, I0⟩
  case round =>
    clear z0 z1 I0
    obtain ⟨k, Ae, ce, ls, rfl, hk, HW⟩ := hrel
    obtain ⟨wo, rfl⟩ : ∃ wo : World, wo = wr := ⟨_, rfl⟩
    have z0 := BX.out wo HW.out.1
    have z1 : wo.cell? ⟨w.heap.size + 1 + 1, 0, none⟩ = some (.slice Ae k ce) := HW.out.2.1.at_ 0
    by_cases hlt : k < n
    · have hltz : (k : Int) < (n : Int) := by omega
      have k0 : (0 : Int) ≤ (k : Int) := by omega
      obtain ⟨x, hx⟩ : ∃ f, l[k]? = some f := ⟨_, List.getElem?_eq_getElem (show k < l.length by have : l.length = n := HN.out; omega)⟩
      have hbo : Below w.heap.size wz wo := HW.out.1.mono (by omega)
      obtain ⟨ga, oa, rfl, hga, ⟨a0, a1, a2⟩, hX⟩ := (HA.out.below hbo).cells hx
      have HXM := Lib.hid (List.mem_of_getElem? hx)
      have HTK := Lib.hid (take_more hx)
      have hso := HW.out.1.size
      have hsz := SZ.out
      obtain ⟨xn, xv, xA, xC, xp⟩ := x
      dsimp only at a0 a1 a2
      obtain ⟨nv, hnv⟩ : ∃ nv, xv.length = nv := ⟨_, rfl⟩
      have hnvl : nv ≤ 65536 := by rw [← hnv]; exact HS.out.vs _ HXM.out
      rw [hnv] at a1
      obtain ⟨w2, hw2⟩ : ∃ w2, wo.alloc (.cells #[.string (str xn), .slice xA nv xC, .int .i64 xp] 49) = w2 := ⟨_, rfl⟩
      have s2 : w2.heap.size = wo.heap.size + 1 := by rw [← hw2]; simp
      have b2 : Below wo.heap.size wo w2 := by rw [← hw2]; exact (Below.refl _ wo).alloc (Nat.le_refl _) _
      have k2 : CB w2 wo.heap.size 49 #[.string (str xn), .slice xA nv xC, .int .i64 xp] := by rw [← hw2]; exact CB.new wo _ _
      have E2 : Hid (∀ W, Below w2.heap.size w2 W → (Below wo.heap.size wo W ∧ w2.heap.size = wo.heap.size + 1) ∧ W.cell? ⟨wo.heap.size, 0, none⟩ = some (.string (str xn)) ∧ W.cell? ⟨wo.heap.size, 1, none⟩ = some (.slice xA nv xC) ∧ W.cell? ⟨wo.heap.size, 2, none⟩ = some (.int .i64 xp) ∧ W.cell? ⟨w.heap.size + 1 + 1, 0, none⟩ = some (.slice Ae k ce)) := by
        intro W hW
        have hb := b2.trans (hW.mono (by omega))
        exact ⟨⟨hb, s2⟩, (k2.below hW).at_ 0, (k2.below hW).at_ 1, (k2.below hW).at_ 2, (hb.cell (p := ⟨w.heap.size + 1 + 1, 0, none⟩) (show w.heap.size + 1 + 1 < wo.heap.size by omega)).trans z1⟩
      have I2 : Hid (Below w2.heap.size w2 w2 ∧ Built LvV w2 w2.heap.size none 0 [] ∧ mkV ∉ ([] : List Mv) ∧ ([] : List Mv).length = 0 ∧ Rel2 (ShV d) (xv.take 0) []) := ⟨Below.refl _ _, Built.nil _ _ _, by simp, rfl, .nil⟩
      obtain ⟨e0, e1, e2, -⟩ := (E2.out w2 (Below.refl _ _)).2
      have HX := Lib.hid hX
      have HNV := Lib.hid hnv
      have HGA := Lib.hid hga
      have HSO := Lib.hid hso
      clear hX hnv hbo s2 b2 k2 hx hga hso hsz
      go_wp2
      go_loopw [8, 9] (fun a i wr => ∃ (j : Nat) (Av : Option Addr) (cv : Nat) (vs : List Mv), a = .slice Av j cv ∧ i = .int .i64 j ∧ j ≤ nv ∧ Hid (Below w2.heap.size w2 wr ∧ Built LvV wr w2.heap.size Av cv vs ∧ mkV ∉ vs ∧ vs.length = j ∧ Rel2 (ShV d) (xv.take j) vs)) (fun _ i _ => nv - (intOf i).toNat)
      case atStart => exact ⟨0, none, 0, [], rfl, rfl, Nat.zero_le _, I2⟩
      case round =>
        clear z0 z1 a0 a1 a2 e0 e1 e2 I2 hltz k0 hw2
        obtain ⟨j, Av, cv, vs, rfl, rfl, hj, HV⟩ := hrel
        obtain ⟨wp, rfl⟩ : ∃ wp : World, wp = wr := ⟨_, rfl⟩
        obtain ⟨hbp, e0, e1, e2, z1⟩ := E2.out wp HV.out.1
        have HBP := Lib.hid hbp
        clear hbp
        by_cases hjlt : j < nv
        · have hjltz : (j : Int) < (nv : Int) := by omega
          have j0 : (0 : Int) ≤ (j : Int) := by omega
          obtain ⟨y, hy⟩ : ∃ f, xv[j]? = some f := ⟨_, List.getElem?_eq_getElem (show j < xv.length by have : xv.length = nv := HNV.out; omega)⟩
          have hbo : Below w.heap.size wo wp := HBP.out.1.mono (by have := HSO.out; have := SZ.out; omega)
          obtain ⟨gb, ob, hq, hgb, ⟨b0, b1, b2⟩, hY⟩ := (HX.out.below hbo).cells hy
          have hq : xA = some ⟨gb, ob, none⟩ := hq
          subst hq
          have HYM := Lib.hid (List.mem_of_getElem? hy)
          have HTY := Lib.hid (take_more hy)
          have hyn := hY.num
          obtain ⟨yn, yv, yA, yC, yp⟩ := y
          dsimp only at b0 b1 b2 hyn
          obtain ⟨ns, hns⟩ : ∃ ns, yv.length = ns := ⟨_, rfl⟩
          have hnsl : ns ≤ 65536 := by rw [← hns]; exact HS.out.st _ HXM.out _ HYM.out
          rw [hns] at b1
          obtain ⟨w3, hw3⟩ : ∃ w3, wp.alloc (.cells #[.int .u64 (yn : Nat), .slice yA ns yC, .int .i64 yp] 52) = w3 := ⟨_, rfl⟩
          have s3 : w3.heap.size = wp.heap.size + 1 := by rw [← hw3]; simp
          have b3 : Below wp.heap.size wp w3 := by rw [← hw3]; exact (Below.refl _ wp).alloc (Nat.le_refl _) _
          have k3 : CB w3 wp.heap.size 52 #[.int .u64 (yn : Nat), .slice yA ns yC, .int .i64 yp] := by rw [← hw3]; exact CB.new wp _ _
          have E3 : Hid (∀ W, Below w3.heap.size w3 W → (Below wp.heap.size wp W ∧ w3.heap.size = wp.heap.size + 1) ∧ W.cell? ⟨wp.heap.size, 0, none⟩ = some (.int .u64 (yn : Nat)) ∧ W.cell? ⟨wp.heap.size, 1, none⟩ = some (.slice yA ns yC) ∧ W.cell? ⟨wp.heap.size, 2, none⟩ = some (.int .i64 yp)) := by
            intro W hW
            have hb := b3.trans (hW.mono (by omega))
            exact ⟨⟨hb, s3⟩, (k3.below hW).at_ 0, (k3.below hW).at_ 1, (k3.below hW).at_ 2⟩
          have I3 : Hid (Below w3.heap.size w3 w3 ∧ Built LvS w3 w3.heap.size none 0 [] ∧ mkS ∉ ([] : List Ms) ∧ ([] : List Ms).length = 0 ∧ Rel2 (ShS d) (yv.take 0) []) := ⟨Below.refl _ _, Built.nil _ _ _, by simp, rfl, .nil⟩
          obtain ⟨f0, f1, f2⟩ := (E3.out w3 (Below.refl _ _)).2
          have HY := Lib.hid hY
          have HNS := Lib.hid hns
          have hsp := HV.out.1.size
          have HSP := Lib.hid hsp
          have HYN := Lib.hid hyn
          clear hY hns hbo s3 b3 k3 hy hgb hsp hyn
          go_wp2
          go_loopw [11, 12] (fun a i wr => ∃ (m : Nat) (As : Option Addr) (cs : Nat) (ss : List Ms), a = .slice As m cs ∧ i = .int .i64 m ∧ m ≤ ns ∧ Hid (Below w3.heap.size w3 wr ∧ Built LvS wr w3.heap.size As cs ss ∧ mkS ∉ ss ∧ ss.length = m ∧ Rel2 (ShS d) (yv.take m) ss)) (fun _ i _ => ns - (intOf i).toNat)
          case atStart => exact ⟨0, none, 0, [], rfl, rfl, Nat.zero_le _, I3⟩
          case round =>
            clear e0 e1 e2 z1 b0 b1 b2 f0 f1 f2 I3 hjltz j0 hw3
            obtain ⟨m, As, cs, ss, rfl, rfl, hm, HQ⟩ := hrel
            obtain ⟨wq, rfl⟩ : ∃ wq : World, wq = wr := ⟨_, rfl⟩
            obtain ⟨hbq, f0, f1, f2⟩ := E3.out wq HQ.out.1
            have HBQ := Lib.hid hbq
            clear hbq
            by_cases hmlt : m < ns
            · have hmltz : (m : Int) < (ns : Int) := by omega
              have m0 : (0 : Int) ≤ (m : Int) := by omega
              obtain ⟨s, hs⟩ : ∃ f, yv[m]? = some f := ⟨_, List.getElem?_eq_getElem (show m < yv.length by have : yv.length = ns := HNS.out; omega)⟩
              have hbo : Below w.heap.size wp wq := HBQ.out.1.mono (by have := HSO.out; have := SZ.out; have := HBP.out.1.size; omega)
              obtain ⟨gc, oc, hq, hgc, ⟨c0, c1, c2, c3, c4, c5, c6, c7⟩, hU⟩ := (HY.out.below hbo).cells hs
              have hq : yA = some ⟨gc, oc, none⟩ := hq
              subst hq
              have HSM := Lib.hid (List.mem_of_getElem? hs)
              have HTS := Lib.hid (take_more hs)
              obtain ⟨⟨sk, sa, sb, sc, sp, sy, sv, sat⟩, sA, sC⟩ := s
              dsimp only at c0 c1 c2 c3 c4 c5 c6 c7
              obtain ⟨nn, hnn⟩ : ∃ nn, sv.length = nn := ⟨_, rfl⟩
              have hnnl : nn ≤ 65536 := by rw [← hnn]; exact HS.out.nd _ HXM.out _ HYM.out _ HSM.out
              rw [hnn] at c6
              obtain ⟨w4, hw4⟩ : ∃ w4, wq.alloc (.cells #[.int .i64 sk, .string (str sa), .string (str sb), .string (str sc), .string (str sp), .string (str sy), .slice sA nn sC, .int .i64 sat] 54) = w4 := ⟨_, rfl⟩
              have s4 : w4.heap.size = wq.heap.size + 1 := by rw [← hw4]; simp
              have b4 : Below wq.heap.size wq w4 := by rw [← hw4]; exact (Below.refl _ wq).alloc (Nat.le_refl _) _
              have k4 : CB w4 wq.heap.size 54 #[.int .i64 sk, .string (str sa), .string (str sb), .string (str sc), .string (str sp), .string (str sy), .slice sA nn sC, .int .i64 sat] := by rw [← hw4]; exact CB.new wq _ _
              have E4 : Hid (∀ W, Below w4.heap.size w4 W → (Below wq.heap.size wq W ∧ w4.heap.size = wq.heap.size + 1) ∧ CB W wq.heap.size 54 #[.int .i64 sk, .string (str sa), .string (str sb), .string (str sc), .string (str sp), .string (str sy), .slice sA nn sC, .int .i64 sat]) := by
                intro W hW
                have hb := b4.trans (hW.mono (by omega))
                exact ⟨⟨hb, s4⟩, k4.below hW⟩
              have I4 : Hid (Below w4.heap.size w4 w4 ∧ OwnRn w4 w4.heap.size none 0 ((sv.take 0).map (shN d))) := ⟨Below.refl _ _, OwnRn.nil _ _⟩
              have g6 : w4.cell? ⟨wq.heap.size, 6, none⟩ = some (.slice sA nn sC) := k4.at_ 6
              have HU := Lib.hid hU
              have HNN := Lib.hid hnn
              have hsq := HQ.out.1.size
              have HSQ := Lib.hid hsq
              clear hU hnn hbo s4 b4 k4 hs hgc hsq
              go_wp2
              go_loopw [14, 15] (fun a i wr => ∃ (q : Nat) (Ax : Option Addr) (cx : Nat), a = .slice Ax q cx ∧ i = .int .i64 q ∧ q ≤ nn ∧ Hid (Below w4.heap.size w4 wr ∧ OwnRn wr w4.heap.size Ax cx ((sv.take q).map (shN d)))) (fun _ i _ => nn - (intOf i).toNat)
              case atStart => exact ⟨0, none, 0, rfl, rfl, Nat.zero_le _, I4⟩
              case round =>
                clear c0 c1 c2 c3 c4 c5 c6 c7 f0 f1 f2 g6 I4 hmltz m0 hw4
                obtain ⟨q, Ax, cx, rfl, rfl, hq, HR⟩ := hrel
                obtain ⟨wx, rfl⟩ : ∃ wx : World, wx = wr := ⟨_, rfl⟩
                obtain ⟨hbx, k4⟩ := E4.out wx HR.out.1
                have HBX := Lib.hid hbx
                have g6 : wx.cell? ⟨wq.heap.size, 6, none⟩ = some (.slice sA nn sC) := k4.at_ 6
                by_cases hqlt : q < nn
                · have hqltz : (q : Int) < (nn : Int) := by omega
                  have q0 : (0 : Int) ≤ (q : Int) := by omega
                  obtain ⟨z, hz⟩ : ∃ f, sv[q]? = some f := ⟨_, List.getElem?_eq_getElem (show q < sv.length by have : sv.length = nn := HNN.out; omega)⟩
                  have hbo : Below w.heap.size wq wx := HBX.out.1.mono (by have := HSO.out; have := SZ.out; have := HBP.out.1.size; have := HBQ.out.1.size; omega)
                  obtain ⟨gd, od, hq2, hgd, d0, d1, d2, d3, d4⟩ := RN.cells (HU.out.rn.below hbo) hz
                  have hq2 : sA = some ⟨gd, od, none⟩ := hq2
                  subst hq2
                  have HTZ := Lib.hid (take_more hz)
                  obtain ⟨zo, zn, zm, zt, za⟩ := z
                  dsimp only at d0 d1 d2 d3 d4
                  have hlq : ((sv.take q).map (shN d)).length = q := by rw [List.length_map, List.length_take, HNN.out]; omega
                  have bw : Below wx.heap.size wx (wx.alloc (.cells #[.int .i64 zo, .int .i64 zn, .int .u64 (zm : Nat), .string (str zt), .int .i64 (wrap64 (za + d))] 38)) := (Below.refl _ _).alloc (Nat.le_refl _) _
                  have sw : (wx.alloc (.cells #[.int .i64 zo, .int .i64 zn, .int .u64 (zm : Nat), .string (str zt), .int .i64 (wrap64 (za + d))] 38)).heap.size = wx.heap.size + 1 := by simp
                  obtain ⟨g5, c5, w7, hr, ho, hb5, -⟩ := app_nd (HR.out.2.alloc (.cells #[.int .i64 zo, .int .i64 zn, .int .u64 (zm : Nat), .string (str zt), .int .i64 (wrap64 (za + d))] 38)) hlq ⟨zo, zn, zm, zt, wrap64 (za + d)⟩ (by omega) (by rw [sw]; have := HR.out.1.size; omega)
                  rw [sw] at hr
                  have N4 : Hid (Below w4.heap.size w4 w7 ∧ OwnRn w7 w4.heap.size (some ⟨g5, 0, none⟩) c5 ((sv.take (q + 1)).map (shN d))) := by
                    refine ⟨(HR.out.1.trans (bw.mono HR.out.1.size)).trans hb5, ?_⟩
                    rw [HTZ.out, List.map_append]
                    exact ho
                  clear k4 hbx hbo hz hgd bw sw ho hb5 hlq
                  go_wp2_with (at_builtin; refine wpList_append_run rfl (.tmp 71) (.tmp 73) _ rfl rfl rfl hr ?_)
                  go_roundw
                  case rel => exact ⟨q + 1, some ⟨g5, 0, none⟩, c5, rfl, by go_num, by omega, N4⟩
                  case measure => simp [intOf]; omega
                · have hge : ¬ (q : Int) < (nn : Int) := by omega
                  obtain rfl : q = nn := by omega
                  have hlq : ((sv.take q).map (shN d)).length = q := by rw [List.length_map, List.length_take, HNN.out]; omega
                  have hfull : sv.take q = sv := by rw [← HNN.out]; exact List.take_length
                  rw [hfull] at hlq
                  have hR2 := HR.out.2
                  rw [hfull] at hR2
                  obtain ⟨g8, c8, w8, hr8, ho8, hb8, hc8⟩ := app_nd hR2 hlq mkN (by omega) HR.out.1.size
                  have q4 : CB w8 wq.heap.size 54 #[.int .i64 sk, .string (str sa), .string (str sb), .string (str sc), .string (str sp), .string (str sy), .slice sA q sC, .int .i64 sat] := (E4.out w8 (HR.out.1.trans hb8)).2
                  have hb48 : Below wq.heap.size wq w8 := (E4.out w8 (HR.out.1.trans hb8)).1.1
                  have hs4 := hbx.2
                  obtain ⟨w9, hw9⟩ : ∃ w9, (w8.setCell ⟨wq.heap.size, 6, none⟩ (.slice (some ⟨g8, 0, none⟩) q c8)).setCell ⟨wq.heap.size, 7, none⟩ (.int .i64 (wrap64 (sat + d))) = w9 := ⟨_, rfl⟩
                  have q9 : CB w9 wq.heap.size 54 #[.int .i64 sk, .string (str sa), .string (str sb), .string (str sc), .string (str sp), .string (str sy), .slice (some ⟨g8, 0, none⟩) q c8, .int .i64 (wrap64 (sat + d))] := by
                    rw [← hw9]
                    exact heap_setCell_same _ _ 7 _ _ _ (heap_setCell_same _ _ 6 _ _ _ q4)
                  have hb9 : Below wq.heap.size wq w9 := by rw [← hw9]; exact (hb48.setCell (Nat.le_refl _) _).setCell (Nat.le_refl _) _
                  have hg8 : wq.heap.size < g8 := by have := (World.ownsRow.lt ho8 g8 rfl).1; omega
                  have ho9 : OwnRn w9 w4.heap.size (some ⟨g8, 0, none⟩) c8 (sv.map (shN d) ++ [mkN]) := ownsRow_keep ho8 fun b hb => by
                    cases hb
                    rw [← hw9]
                    exact (Below.heap_setCell _ _ _ _ (by show g8 ≠ wq.heap.size; omega)).trans (Below.heap_setCell _ _ _ _ (by show g8 ≠ wq.heap.size; omega))
                  have hC9 : Ms.C ⟨⟨sk, sa, sb, sc, sp, sy, sv.map (shN d), wrap64 (sat + d)⟩, some ⟨g8, 0, none⟩, c8⟩ = #[.int .i64 sk, .string (str sa), .string (str sb), .string (str sc), .string (str sp), .string (str sy), .slice (some ⟨g8, 0, none⟩) q c8, .int .i64 (wrap64 (sat + d))] := by
                    unfold Ms.C
                    dsimp only
                    rw [hlq]
                  have hlt9 : Lts ⟨sk, sa, sb, sc, sp, sy, sv.map (shN d), wrap64 (sat + d)⟩ := ⟨HU.out.lt.a, HU.out.lt.b, HU.out.lt.c, HU.out.lt.sep, HU.out.lt.ty, few_sh HU.out.lt.few⟩
                  obtain ⟨g10, c10, w10, hr10, hB10, hb10, -⟩ := app_ms (HQ.out.2.1.below lvS hb9) HQ.out.2.2.2.1 ⟨⟨sk, sa, sb, sc, sp, sy, sv.map (shN d), wrap64 (sat + d)⟩, some ⟨g8, 0, none⟩, c8⟩ (.inr ⟨ownsRow_low ho9 (by have := HQ.out.1.size; omega), hlt9⟩)
                    (fun b hb hm => by
                      have e : b = g8 := by simpa [LvS, obk] using hb
                      have := (HQ.out.2.1.bd lvS b hm).2
                      omega) (by omega) (Nat.le_trans HQ.out.1.size hb9.size)
                  rw [hC9] at hr10
                  have N3 : Hid (Below w3.heap.size w3 w10 ∧ Built LvS w10 w3.heap.size (some ⟨g10, 0, none⟩) c10 (ss ++ [(⟨⟨sk, sa, sb, sc, sp, sy, sv.map (shN d), wrap64 (sat + d)⟩, some ⟨g8, 0, none⟩, c8⟩ : Ms)]) ∧ mkS ∉ ss ++ [(⟨⟨sk, sa, sb, sc, sp, sy, sv.map (shN d), wrap64 (sat + d)⟩, some ⟨g8, 0, none⟩, c8⟩ : Ms)] ∧ (ss ++ [(⟨⟨sk, sa, sb, sc, sp, sy, sv.map (shN d), wrap64 (sat + d)⟩, some ⟨g8, 0, none⟩, c8⟩ : Ms)]).length = m + 1 ∧ Rel2 (ShS d) (yv.take (m + 1)) (ss ++ [(⟨⟨sk, sa, sb, sc, sp, sy, sv.map (shN d), wrap64 (sat + d)⟩, some ⟨g8, 0, none⟩, c8⟩ : Ms)])) := by
                    obtain ⟨p1, p2, p3, p4, p5⟩ := HQ.out
                    refine ⟨(p1.trans (hb9.mono p1.size)).trans hb10, hB10, ?_, by rw [List.length_append, p4]; rfl, ?_⟩
                    · rw [List.mem_append, List.mem_singleton]
                      rintro (hz | hz)
                      · exact p3 hz
                      · exact nomatch (congrArg Ms.A hz : none = some _)
                    · rw [HTS.out]
                      exact Rel2.append p5 (Rel2.one ⟨rfl⟩)
                  have hr8' : (Builtin.append_ #[22, 22] 22 #[.slice Ax q cx, .slice (some ⟨wx.heap.size, 0, none⟩) 1 1]).run Tryd.prog (wx.alloc (.cells #[.int .i64 77, .int .i64 0, .int .u64 0, .string ⟨#[]⟩, .int .i64 0] 38)) = .ok (.slice (some ⟨g8, 0, none⟩) (q + 1) c8) w8 := hr8
                  have q46 := q4.at_ 6
                  have q47 : w8.cell? ⟨wq.heap.size, 7, none⟩ = some (.int .i64 sat) := q4.at_ 7
                  have y46 := q4.frozen 6
                  have y47 := q4.frozen 7
                  have hqz : (q : Int) ≤ 65536 := by omega
                  have hcz : ((q + 1 : Nat) : Int) ≤ (c8 : Int) := by omega
                  clear k4 hbx hR2 hr8 ho8 hb8 hb48 hg8 ho9 hC9 hlt9 hB10 hb10 hb9 hlq hfull hs4 q4
                  go_wp2_with (first
                    | (at_builtin; refine wpList_append_run rfl (.tmp 75) (.tmp 77) _ rfl rfl rfl hr8' ?_)
                    | (refine wpList_load_cb rfl 54 (.tmp 13) rfl _ _ rfl q9 Tryd.underlying54 rfl (by kernel_rfl) ?_)
                    | (at_builtin; refine wpList_append_run rfl (.tmp 90) (.tmp 92) _ rfl rfl rfl hr10 ?_))
                  go_roundw
                  case rel => exact ⟨m + 1, some ⟨g10, 0, none⟩, c10, _, rfl, by go_num, by omega, N3⟩
                  case measure => simp [intOf]; omega
            · have hge : ¬ (m : Int) < (ns : Int) := by omega
              obtain rfl : m = ns := by omega
              have hfull : yv.take m = yv := by rw [← HNS.out]; exact List.take_length
              obtain ⟨p1, p2, p3, p4, p5⟩ := HQ.out
              rw [hfull] at p5
              obtain ⟨g8, c8, w8, hr8, hB8, hb8, hc8, -⟩ := app_ms p2 p4 mkS (.inl rfl) (fun b hb => nomatch hb) (by omega) p1.size
              obtain ⟨⟨hbw, hs3⟩, v0, -, v2⟩ := E3.out w8 (p1.trans hb8)
              have hbd : Below wp.heap.size wp w8.drew := hbw.drew
              have hB9 : Built LvS w8.drew w3.heap.size (some ⟨g8, 0, none⟩) c8 (ss ++ [mkS]) := hB8.below lvS (Below.refl _ _).drew
              have hC : Mv.C ⟨yn, ss, some ⟨g8, 0, none⟩, c8, wrap64 (yp + d)⟩ = #[.int .u64 (yn : Nat), .slice (some ⟨g8, 0, none⟩) m c8, .int .i64 (wrap64 (yp + d))] := by
                unfold Mv.C
                dsimp only
                rw [p4]
              have hp2 := HV.out.1.size
              obtain ⟨g10, c10, w10, hr10, hB10, hb10, -, hk10⟩ := app_mv (HV.out.2.1.below lvV hbd) HV.out.2.2.2.1 ⟨yn, ss, some ⟨g8, 0, none⟩, c8, wrap64 (yp + d)⟩ (.inr ⟨hB9.low lvS (by omega), p3, HYN.out, by show ss.length ≤ 65536; omega⟩)
                (fun b hb hm => by
                  have e := (hB8.bd lvS b (by rw [bls_snoc rfl]; exact hb)).1
                  have := (HV.out.2.1.bd lvV b hm).2
                  omega) (by omega) (Nat.le_trans hp2 hbd.size)
              rw [hC] at hr10
              have N2 : Hid (Below w2.heap.size w2 w10 ∧ Built LvV w10 w2.heap.size (some ⟨g10, 0, none⟩) c10 (vs ++ [(⟨yn, ss, some ⟨g8, 0, none⟩, c8, wrap64 (yp + d)⟩ : Mv)]) ∧ mkV ∉ vs ++ [(⟨yn, ss, some ⟨g8, 0, none⟩, c8, wrap64 (yp + d)⟩ : Mv)] ∧ (vs ++ [(⟨yn, ss, some ⟨g8, 0, none⟩, c8, wrap64 (yp + d)⟩ : Mv)]).length = j + 1 ∧ Rel2 (ShV d) (xv.take (j + 1)) (vs ++ [(⟨yn, ss, some ⟨g8, 0, none⟩, c8, wrap64 (yp + d)⟩ : Mv)])) := by
                obtain ⟨q1, q2, q3, q4, q5⟩ := HV.out
                refine ⟨(q1.trans (hbd.mono q1.size)).trans hb10, hB10, ?_, by rw [List.length_append, q4]; rfl, ?_⟩
                · rw [List.mem_append, List.mem_singleton]
                  rintro (hz | hz)
                  · exact q3 hz
                  · exact nomatch (congrArg Mv.A hz : none = some _)
                · rw [HTY.out]
                  exact Rel2.append q5 (Rel2.one ⟨rfl, rfl, p5⟩)
              have hr8' : (Builtin.append_ #[50, 50] 50 #[.slice As m cs, .slice (some ⟨wq.heap.size, 0, none⟩) 1 1]).run Tryd.prog (wq.alloc (.cells #[.int .i64 77, .string ⟨#[]⟩, .string ⟨#[]⟩, .string ⟨#[]⟩, .string ⟨#[]⟩, .string ⟨#[]⟩, .slice none 0 0, .int .i64 0] 54)) = .ok (.slice (some ⟨g8, 0, none⟩) (m + 1) c8) w8 := hr8
              have hal : ∀ (o : Obj) (b i : Nat), b < w8.heap.size → (w8.alloc o).drew.cell? ⟨b, i, none⟩ = w8.cell? ⟨b, i, none⟩ := fun o b i hb => ((Below.refl w8.heap.size w8).alloc (Nat.le_refl _) o).drew.cell (p := ⟨b, i, none⟩) hb
              have hlp : wp.heap.size < w8.heap.size := World.block_lt_of_cell? w8 _ v0
              have D1 : w8.drew.cell? ⟨wp.heap.size, 0, none⟩ = some (.int .u64 (yn : Nat)) := v0
              have D2 : w8.drew.cell? ⟨wp.heap.size, 2, none⟩ = some (.int .i64 yp) := v2
              have D3 : ∀ o, (w8.alloc o).drew.cell? ⟨wp.heap.size, 0, none⟩ = some (.int .u64 (yn : Nat)) := fun o => (hal o _ _ hlp).trans v0
              have D4 : ∀ o, (w8.alloc o).drew.cell? ⟨wp.heap.size, 2, none⟩ = some (.int .i64 yp) := fun o => (hal o _ _ hlp).trans v2
              rw [World.alloc_drew, ← IntWalk.i64_left] at hr10
              have DA : w8.drew.cell? ⟨wp.heap.size, 0, none⟩ = some (.int .u64 (yn : Nat)) ∧ w8.drew.cell? ⟨wp.heap.size, 2, none⟩ = some (.int .i64 yp) := ⟨v0, v2⟩
              have DB : Hid (∀ o, (w8.alloc o).drew.cell? ⟨wp.heap.size, 0, none⟩ = some (.int .u64 (yn : Nat)) ∧ (w8.alloc o).drew.cell? ⟨wp.heap.size, 2, none⟩ = some (.int .i64 yp)) := fun o => ⟨D3 o, D4 o⟩
              have DC : w10.cell? ⟨wp.heap.size, 0, none⟩ = some (.int .u64 (yn : Nat)) ∧ w10.cell? ⟨wp.heap.size, 2, none⟩ = some (.int .i64 yp) := by
                have e : w10.heap[wp.heap.size]? = w8.drew.heap[wp.heap.size]? := hk10 _ hlp fun e => by
                  have := (HV.out.2.1.bd lvV _ (mem_bls.2 (.inl e))).2
                  omega
                exact ⟨(World.cell?_of_block (w := w8.drew) e).trans v0, (World.cell?_of_block (w := w8.drew) e).trans v2⟩
              clear hal D1 D2 D3 D4
              have hqz : (m : Int) ≤ 65536 := by omega
              have hcz : ((m + 1 : Nat) : Int) ≤ (c8 : Int) := by omega
              have u0 : (0 : Int) ≤ (m : Int) := by omega
              have u1 : (m : Int) ≤ (c8 : Int) := by omega
              have u2 : IntKind.i64.wrap (((m + 1 : Nat) : Int) - 1) = (m : Int) := by rw [IntKind.wrap_i64]; omega
              have u3 : IntKind.i64.wrap ((m : Int) + 1 - 1) = (m : Int) := by rw [IntKind.wrap_i64]; omega
              have u4 : ¬ (c8 : Int) < (m : Int) := by omega
              have u5 : m ≤ c8 := by omega
              have u6 : IntKind.i64.wrap (m : Int) = (m : Int) := by rw [IntKind.wrap_i64]; omega
              clear p1 p2 p3 p4 p5 hr8 hB8 hb8 hbw hs3 hbd hB9 hC hp2 hB10 hb10 hk10 hfull hlp v0 v2
              go_wp2_with (at_builtin; refine wpList_append_run rfl (.tmp 94) (.tmp 96) _ rfl rfl rfl hr8' ?_)
              go_region_held3 (fun W => W.cell? ⟨wp.heap.size, 0, none⟩ = some (.int .u64 (yn : Nat)) ∧ W.cell? ⟨wp.heap.size, 2, none⟩ = some (.int .i64 yp))
                (first | (with_reducible exact DA) | (with_reducible exact DB.out _) | (with_reducible exact DC) | fail)
                (first
                  | (refine step_append_run rfl (.tmp 98) (.tmp 111) _ rfl rfl rfl hr10 ?_)
                  | fail)
              all_goals
                go_wp2
                go_roundw
                case rel => exact ⟨j + 1, some ⟨g10, 0, none⟩, c10, _, rfl, by go_num, by omega, N2⟩
                case measure => simp [intOf]; omega
        · have hge : ¬ (j : Int) < (nv : Int) := by omega
          obtain rfl : j = nv := by omega
          have hfull : xv.take j = xv := by rw [← HNV.out]; exact List.take_length
          obtain ⟨p1, p2, p3, p4, p5⟩ := HV.out
          rw [hfull] at p5
          obtain ⟨g8, c8, w8, hr8, hB8, hb8, hc8, -⟩ := app_mv p2 p4 mkV (.inl rfl) (fun b hb => nomatch hb) (by omega) p1.size
          obtain ⟨⟨hbw, hs2⟩, v0, -, v2, vu⟩ := E2.out w8 (p1.trans hb8)
          have hbd : Below wo.heap.size wo w8.drew := hbw.drew
          have hB9 : Built LvV w8.drew w2.heap.size (some ⟨g8, 0, none⟩) c8 (vs ++ [mkV]) := hB8.below lvV (Below.refl _ _).drew
          have hC : Me.C ⟨xn, vs, some ⟨g8, 0, none⟩, c8, wrap64 (xp + d)⟩ = #[.string (str xn), .slice (some ⟨g8, 0, none⟩) j c8, .int .i64 (wrap64 (xp + d))] := by
            unfold Me.C
            dsimp only
            rw [p4]
          have hso := HSO.out
          have hsz := SZ.out
          obtain ⟨o1, o2, o3, o4, o5, o6, o7, o8⟩ := HW.out
          obtain ⟨g10, c10, w10, hr10, hB10, hb10, -, hk10⟩ := app_me (o5.below lvE hbd) o7 ⟨xn, vs, some ⟨g8, 0, none⟩, c8, wrap64 (xp + d)⟩ (.inr ⟨hB9.low lvV (by omega), p3, HX.out.name, by show vs.length ≤ 65536; omega⟩)
            (fun b hb hm => by
              have e := (hB8.bd lvV b (by rw [bls_snoc rfl]; exact hb)).1
              have := (o5.bd lvE b hm).2
              omega) (by omega) (Nat.le_trans o4 hbd.size)
          rw [hC] at hr10
          have hb11 : Below wz.heap.size wo w10 := (hbd.mono o4).trans hb10
          have u10 : CB w10 (w.heap.size + 1 + 1) 30 #[.slice Ae k ce] := o2.keep (hb11.block _ (by omega))
          have r10 : CB w10 (w.heap.size + 1) 30 #[.slice none 0 0] := o3.keep (hb11.block _ (by omega))
          obtain ⟨w11, hw11⟩ : ∃ w11, w10.setCell ⟨w.heap.size + 1 + 1, 0, none⟩ (.slice (some ⟨g10, 0, none⟩) (k + 1) c10) = w11 := ⟨_, rfl⟩
          have N1 : Hid (Below (w.heap.size + 1) wz w11 ∧ CB w11 (w.heap.size + 1 + 1) 30 #[.slice (some ⟨g10, 0, none⟩) (k + 1) c10] ∧ CB w11 (w.heap.size + 1) 30 #[.slice none 0 0] ∧ wz.heap.size ≤ w11.heap.size ∧ Built LvE w11 wz.heap.size (some ⟨g10, 0, none⟩) c10 (ls ++ [(⟨xn, vs, some ⟨g8, 0, none⟩, c8, wrap64 (xp + d)⟩ : Me)]) ∧ mkE ∉ ls ++ [(⟨xn, vs, some ⟨g8, 0, none⟩, c8, wrap64 (xp + d)⟩ : Me)] ∧ (ls ++ [(⟨xn, vs, some ⟨g8, 0, none⟩, c8, wrap64 (xp + d)⟩ : Me)]).length = k + 1 ∧ Rel2 (ShE d) (l.take (k + 1)) (ls ++ [(⟨xn, vs, some ⟨g8, 0, none⟩, c8, wrap64 (xp + d)⟩ : Me)])) := by
            have e11 : w11.heap.size = w10.heap.size := by rw [← hw11]; simp
            have hk : ∀ b, b ≠ w.heap.size + 1 + 1 → w11.heap[b]? = w10.heap[b]? := fun b hb => by rw [← hw11]; exact Below.heap_setCell _ _ _ _ hb
            refine ⟨?_, ?_, r10.keep (hk _ (by omega)), ?_, ?_, ?_, by rw [List.length_append, o7]; rfl, ?_⟩
            · rw [← hw11]
              exact (o1.trans (hb11.mono (by omega))).setCell (by show w.heap.size + 1 ≤ w.heap.size + 1 + 1; omega) _
            · rw [← hw11]
              exact heap_setCell_same _ _ 0 _ _ _ u10
            · rw [e11]
              exact Nat.le_trans o4 hb11.size
            · refine hB10.keep lvE fun b hb => hk b ?_
              have := (hB10.bd lvE b hb).1
              omega
            · rw [List.mem_append, List.mem_singleton]
              rintro (hz | hz)
              · exact o6 hz
              · exact nomatch (congrArg Me.A hz : none = some _)
            · rw [HTK.out]
              exact Rel2.append o8 (Rel2.one ⟨rfl, rfl, p5⟩)
          have hr8' : (Builtin.append_ #[47, 47] 47 #[.slice Av j cv, .slice (some ⟨wp.heap.size, 0, none⟩) 1 1]).run Tryd.prog (wp.alloc (.cells #[.int .u64 77, .slice none 0 0, .int .i64 0] 52)) = .ok (.slice (some ⟨g8, 0, none⟩) (j + 1) c8) w8 := hr8
          have hal : ∀ (o : Obj) (b i : Nat), b < w8.heap.size → (w8.alloc o).drew.cell? ⟨b, i, none⟩ = w8.cell? ⟨b, i, none⟩ := fun o b i hb => ((Below.refl w8.heap.size w8).alloc (Nat.le_refl _) o).drew.cell (p := ⟨b, i, none⟩) hb
          have hlp : wo.heap.size < w8.heap.size := World.block_lt_of_cell? w8 _ v0
          have D1 : w8.drew.cell? ⟨wo.heap.size, 0, none⟩ = some (.string (str xn)) := v0
          have D2 : w8.drew.cell? ⟨wo.heap.size, 2, none⟩ = some (.int .i64 xp) := v2
          have D3 : ∀ o, (w8.alloc o).drew.cell? ⟨wo.heap.size, 0, none⟩ = some (.string (str xn)) := fun o => (hal o _ _ hlp).trans v0
          have D4 : ∀ o, (w8.alloc o).drew.cell? ⟨wo.heap.size, 2, none⟩ = some (.int .i64 xp) := fun o => (hal o _ _ hlp).trans v2
          have D5 : w8.drew.cell? ⟨w.heap.size + 1 + 1, 0, none⟩ = some (.slice Ae k ce) := vu
          have D6 : ∀ o, (w8.alloc o).drew.cell? ⟨w.heap.size + 1 + 1, 0, none⟩ = some (.slice Ae k ce) := fun o => (hal o _ _ (by omega)).trans vu
          rw [World.alloc_drew, ← IntWalk.i64_left] at hr10
          clear hal
          have x10 : w10.cell? ⟨w.heap.size + 1 + 1, 0, none⟩ = some (.slice Ae k ce) := u10.at_ 0
          have y10 := u10.frozen 0
          have hqz : (j : Int) ≤ 65536 := by omega
          have hcz : ((j + 1 : Nat) : Int) ≤ (c8 : Int) := by omega
          have u0 : (0 : Int) ≤ (j : Int) := by omega
          have u1 : (j : Int) ≤ (c8 : Int) := by omega
          have u2 : IntKind.i64.wrap (((j + 1 : Nat) : Int) - 1) = (j : Int) := by rw [IntKind.wrap_i64]; omega
          have u3 : IntKind.i64.wrap ((j : Int) + 1 - 1) = (j : Int) := by rw [IntKind.wrap_i64]; omega
          have u4 : ¬ (c8 : Int) < (j : Int) := by omega
          have u5 : j ≤ c8 := by omega
          have u6 : IntKind.i64.wrap (j : Int) = (j : Int) := by rw [IntKind.wrap_i64]; omega
          clear p1 p2 p3 p4 p5 hr8 hB8 hb8 hbw hs2 hbd hB9 hC hB10 hb10 hk10 hfull hlp v0 v2 vu hso hsz o1 o2 o3 o4 o5 o6 o7 o8 hb11 u10 r10
          go_wp2_with (at_builtin; refine wpList_append_run rfl (.tmp 113) (.tmp 115) _ rfl rfl rfl hr8' ?_)
          go_region_law (first
            | (refine step_append_run rfl (.tmp 118) (.tmp 131) _ rfl rfl rfl hr10 ?_))
          all_goals
            go_wp2
            go_roundw
            case rel => exact ⟨k + 1, some ⟨g10, 0, none⟩, c10, _, by go_num, by omega, N1⟩
            case measure => simp [intOf]; omega
    · have hge : ¬ (k : Int) < (n : Int) := by omega
      obtain rfl : k = n := by omega
      have hfull : l.take k = l := by rw [← HN.out]; exact List.take_length
      obtain ⟨o1, o2, o3, o4, o5, o6, o7, o8⟩ := HW.out
      rw [hfull] at o8
      have hsz := SZ.out
      obtain ⟨g8, c8, w8, hr8, hB8, hb8, hc8, -⟩ := app_me o5 o7 mkE (.inl rfl) (fun b hb => nomatch hb) (by omega) o4
      have r8 : CB w8 (w.heap.size + 1) 30 #[.slice none 0 0] := o3.keep (hb8.block _ (by omega))
      have r9 : CB (w8.setCell ⟨w.heap.size + 1, 0, none⟩ (.slice (some ⟨g8, 0, none⟩) k c8)) (w.heap.size + 1) 30 #[.slice (some ⟨g8, 0, none⟩) k c8] := heap_setCell_same _ _ 0 _ _ _ r8
      have b9 : Below w.heap.size w (w8.setCell ⟨w.heap.size + 1, 0, none⟩ (.slice (some ⟨g8, 0, none⟩) k c8)) := (HZ.out.trans ((o1.mono (by omega)).trans (hb8.mono (by omega)))).setCell (by show w.heap.size ≤ w.heap.size + 1; omega) _
      have K9 : KtAt (w8.setCell ⟨w.heap.size + 1, 0, none⟩ (.slice (some ⟨g8, 0, none⟩) k c8)) (w8.setCell ⟨w.heap.size + 1, 0, none⟩ (.slice (some ⟨g8, 0, none⟩) k c8)).heap.size (some ⟨g8, 0, none⟩) c8 ls := by
        refine kt_of (B := wz.heap.size) (hB8.keep lvE fun b hb => Below.heap_setCell _ _ _ _ ?_) o6 (by omega)
        have := (hB8.bd lvE b hb).1
        show b ≠ w.heap.size + 1
        omega
      have FIN : Hid (CopAt d l w (.returned (.agg #[.slice (some ⟨g8, 0, none⟩) k c8])) (w8.setCell ⟨w.heap.size + 1, 0, none⟩ (.slice (some ⟨g8, 0, none⟩) k c8))) := ⟨some ⟨g8, 0, none⟩, c8, ls, by rw [o7], b9, K9, o8⟩
      have hr8' : (Builtin.append_ #[28, 28] 28 #[.slice Ae k ce, .slice (some ⟨wo.heap.size, 0, none⟩) 1 1]).run Tryd.prog (wo.alloc (.cells #[.string ⟨#[109, 97, 114, 107]⟩, .slice none 0 0, .int .i64 0] 49)) = .ok (.slice (some ⟨g8, 0, none⟩) (k + 1) c8) w8 := hr8
      have x8 : w8.cell? ⟨w.heap.size + 1, 0, none⟩ = some (.slice none 0 0) := r8.at_ 0
      have y8 := r8.frozen 0
      have hqz : (k : Int) ≤ 65536 := by omega
      have hcz : ((k + 1 : Nat) : Int) ≤ (c8 : Int) := by omega
      clear o1 o2 o3 o4 o5 o6 o7 o8 hsz hr8 hB8 hb8 r8 b9 K9 hfull
      go_wp2_with (at_builtin; refine wpList_append_run rfl (.tmp 135) (.tmp 137) _ rfl rfl rfl hr8' ?_)
      exact bodyPost_ret (v := .agg #[.slice (some ⟨g8, 0, none⟩) k c8]) (results_cb rfl _ _ (w.heap.size + 1) _ rfl r9 Tryd.underlying30 rfl (by kernel_rfl)) rfl FIN.out
end Go.Proofs.YtdkcnepjjinpdaaDoor
