/- The walk of the statements' own function that sets trees side by side (gen_same.py). -/
import Derived.Test.YtdkcnepjjinpdaaDoorPrSameS
namespace Go.Proofs.YtdkcnepjjinpdaaDoor
open Go.RowKit

theorem EqE.un {x y : Me} (h : EqE x.e y.e) : y.name = x.name ∧ Rel2 (fun u v : Mv => EqV u.v v.v) x.vs y.vs := ⟨h.name, Rel2.unmap h.vs⟩
theorem EqV.un {x y : Mv} (h : EqV x.v y.v) : y.num = x.num ∧ Rel2 (fun u v : Ms => EqS u.s v.s) x.st y.st := ⟨h.num, Rel2.unmap h.st⟩

set_option maxRecDepth 100000 in
set_option maxHeartbeats 8000000 in
theorem ptrees_any {w : World} {B B' c c' : Nat} {A A' : Option Addr} {a b : List Me} (ha : MtAt w B A a) (hb : MtAt w B' A' b) (hB : B ≤ w.heap.size) (hB' : B' ≤ w.heap.size) (hr : Rel2 (fun x y : Me => EqE x.e y.e) a b) :
    Calls Tryd.prog 36 #[.agg #[.slice A a.length c], .agg #[.slice A' b.length c']] w fun e w' => e = .returned (.bool true) ∧ Below w.heap.size w w' := by
  have hlb : b.length = a.length := hr.len
  rw [hlb]
  obtain ⟨n, hn⟩ : ∃ n, a.length = n := ⟨_, rfl⟩
  have hvl : n ≤ 140737488355328 := by rw [← hn]; exact ha.len
  rw [hn] at hlb ⊢
  have hne : ((n : Int) != (n : Int)) = false := by simp
  obtain ⟨wz, hwz⟩ : ∃ wz, (w.alloc (.cells #[.slice A n c] 30)).alloc (.cells #[.slice A' n c'] 30) = wz := ⟨_, rfl⟩
  have bz : Below w.heap.size w wz := by rw [← hwz]; exact ((Below.refl _ w).alloc (Nat.le_refl _) _).alloc (by simp) _
  have sz : wz.heap.size = w.heap.size + 1 + 1 := by rw [← hwz]; simp
  have kz : CB wz w.heap.size 30 #[.slice A n c] := by
    rw [← hwz]
    exact (CB.new w 30 #[.slice A n c]).below ((Below.refl _ _).alloc (Nat.le_refl _) _)
  have lz : CB wz (w.heap.size + 1) 30 #[.slice A' n c'] := by
    rw [← hwz]
    have e : (w.alloc (.cells #[.slice A n c] 30)).heap.size = w.heap.size + 1 := by simp
    rw [← e]
    exact CB.new _ _ _
  have HA := Lib.hid ((ha.more hB).below bz)
  have HB := Lib.hid ((hb.more hB').below bz)
  have HR := Lib.hid hr
  have HL := Lib.hid hlb
  have HN := Lib.hid hn
  have HZ := Lib.hid bz
  have BX : Hid (∀ W, Below wz.heap.size wz W → W.cell? ⟨w.heap.size, 0, none⟩ = some (.slice A n c) ∧ W.cell? ⟨w.heap.size + 1, 0, none⟩ = some (.slice A' n c')) := fun W hW => ⟨(kz.below hW).at_ 0, (lz.below hW).at_ 0⟩
  obtain ⟨z0, z1⟩ := BX.out wz (Below.refl _ _)
  have hbz := Lib.hid (Below.refl wz.heap.size wz)
  clear ha hb hr hlb hn kz lz bz
  go_enter Tryd.func36, Tryd.ntmps36
  go_wp2
  go_loopw [5] (fun i wr => ∃ k : Nat, i = .int .i64 k ∧ k ≤ n ∧ Hid (Below wz.heap.size wz wr)) (fun i _ => n - (intOf i).toNat)
  case atStart => exact ⟨0, rfl, Nat.zero_le _, hbz⟩
  case round =>
    clear z0 z1 hbz
    obtain ⟨k, rfl, hk, HW⟩ := hrel
    obtain ⟨z0, z1⟩ := BX.out wr HW.out
    by_cases hlt : k < n
    · have hltz : (k : Int) < (n : Int) := by omega
      have k0 : (0 : Int) ≤ (k : Int) := by omega
      obtain ⟨x, hx⟩ : ∃ f, a[k]? = some f := ⟨_, List.getElem?_eq_getElem (show k < a.length by have : a.length = n := HN.out; omega)⟩
      obtain ⟨y, hy⟩ : ∃ g, b[k]? = some g := ⟨_, List.getElem?_eq_getElem (show k < b.length by have : b.length = n := HL.out; omega)⟩
      obtain ⟨e1, e2⟩ := (HR.out.at_ hx hy).un
      have hW1 : Below w.heap.size wz wr := HW.out.mono (by omega)
      obtain ⟨ga, oa, rfl, hga, ca, hX⟩ := (HA.out.below hW1).cells hx
      obtain ⟨gb, ob, rfl, hgb, cb, hY⟩ := (HB.out.below hW1).cells hy
      have hxl := hX.len
      obtain ⟨xn, xv, xA, xC, xp⟩ := x
      obtain ⟨yn, yv, yA, yC, yp⟩ := y
      dsimp only at e1 e2 ca cb hxl
      subst e1
      have e5 : yv.length = xv.length := e2.len
      obtain ⟨nv, hnv⟩ : ∃ nv, xv.length = nv := ⟨_, rfl⟩
      rw [e5, hnv] at cb
      rw [hnv] at ca hxl e5
      have hne2 : ((nv : Int) != (nv : Int)) = false := by simp
      obtain ⟨wo, rfl⟩ : ∃ wo : World, wo = wr := ⟨_, rfl⟩
      have hsz := HW.out.size
      obtain ⟨a0, a1, a2⟩ := ca
      have nea : ga ≠ wo.heap.size := by omega
      have neb : gb ≠ wo.heap.size := by omega
      have neb1 : gb ≠ wo.heap.size + 1 := by omega
      have nz0 : w.heap.size ≠ wo.heap.size := by omega
      have nz1 : w.heap.size + 1 ≠ wo.heap.size := by omega
      have hgb' : gb < wo.heap.size := by omega
      obtain ⟨w2, hw2⟩ : ∃ w2, wo.alloc (.cells #[.string (str yn), .slice xA nv xC, .int .i64 xp] 49) = w2 := ⟨_, rfl⟩
      have s2 : w2.heap.size = wo.heap.size + 1 := by rw [← hw2]; simp
      have b2 : Below wo.heap.size wo w2 := by rw [← hw2]; exact (Below.refl _ wo).alloc (Nat.le_refl _) _
      have k2 : CB w2 wo.heap.size 49 #[.string (str yn), .slice xA nv xC, .int .i64 xp] := by rw [← hw2]; exact CB.new wo _ _
      obtain ⟨w3, hw3⟩ : ∃ w3, w2.alloc (.cells #[.string (str yn), .slice yA nv yC, .int .i64 yp] 49) = w3 := ⟨_, rfl⟩
      have b3 : Below w2.heap.size w2 w3 := by rw [← hw3]; exact (Below.refl _ w2).alloc (Nat.le_refl _) _
      have k3 : CB w3 (wo.heap.size + 1) 49 #[.string (str yn), .slice yA nv yC, .int .i64 yp] := by rw [← hw3, ← s2]; exact CB.new w2 _ _
      have d0 : w2.cell? ⟨gb, ob + k * 3, none⟩ = some (.string (str yn)) := (b2.cell (p := ⟨gb, _, none⟩) hgb').trans cb.1
      have d1 : w2.cell? ⟨gb, ob + k * 3 + 1, none⟩ = some (.slice yA nv yC) := (b2.cell (p := ⟨gb, _, none⟩) hgb').trans cb.2.1
      have d2 : w2.cell? ⟨gb, ob + k * 3 + 2, none⟩ = some (.int .i64 yp) := (b2.cell (p := ⟨gb, _, none⟩) hgb').trans cb.2.2
      obtain ⟨-, y1⟩ := BX.out w2 (HW.out.trans (b2.mono hsz))
      have k23 : CB w3 wo.heap.size 49 #[.string (str yn), .slice xA nv xC, .int .i64 xp] := k2.below b3
      have s3 : w3.heap.size = w2.heap.size + 1 := by rw [← hw3]; simp
      have B3 : Hid (Below w3.heap.size w3 w3 ∧ Below wz.heap.size wz w3) := ⟨Below.refl _ _, (HW.out.trans (b2.mono hsz)).trans (b3.mono (by omega))⟩
      have bo3 : Below wo.heap.size wo w3 := b2.trans (b3.mono (by omega))
      have INN : Hid (∀ W, Below w3.heap.size w3 W → (Below wz.heap.size wz W ∧ Below wo.heap.size wo W) ∧ W.cell? ⟨wo.heap.size, 1, none⟩ = some (.slice xA nv xC) ∧ W.cell? ⟨wo.heap.size + 1, 1, none⟩ = some (.slice yA nv yC)) := fun W hW =>
        ⟨⟨B3.out.2.trans (hW.mono (by omega)), bo3.trans (hW.mono (by omega))⟩, (k23.below hW).at_ 1, (k3.below hW).at_ 1⟩
      have f0 : w3.cell? ⟨wo.heap.size, 0, none⟩ = some (.string (str yn)) := k23.at_ 0
      have f1 : w3.cell? ⟨wo.heap.size, 1, none⟩ = some (.slice xA nv xC) := k23.at_ 1
      have g0 : w3.cell? ⟨wo.heap.size + 1, 0, none⟩ = some (.string (str yn)) := k3.at_ 0
      have g1 : w3.cell? ⟨wo.heap.size + 1, 1, none⟩ = some (.slice yA nv yC) := k3.at_ 1
      have HX := Lib.hid hX
      have HY := Lib.hid hY
      have E2 := Lib.hid e2
      have E5 := Lib.hid e5
      have NV := Lib.hid hnv
      clear hX hY e2 e5 hnv hx hy b2 b3 k2 k3 k23 cb bo3
      go_wp2
      go_loopw [8] (fun i wq => ∃ j : Nat, i = .int .i64 j ∧ j ≤ nv ∧ Hid (Below w3.heap.size w3 wq)) (fun i _ => nv - (intOf i).toNat)
      case atStart => exact ⟨0, rfl, Nat.zero_le _, B3.out.1⟩
      case round =>
        clear f0 f1 g0 g1 a0 a1 a2 d0 d1 d2 z0 z1 y1
        obtain ⟨j, rfl, hj, HV⟩ := hrel
        obtain ⟨hzw, f1, g1⟩ := INN.out wr HV.out
        have HZW := Lib.hid hzw
        clear hzw
        by_cases hjlt : j < nv
        · have hjz : (j : Int) < (nv : Int) := by omega
          have j0 : (0 : Int) ≤ (j : Int) := by omega
          obtain ⟨u, hu⟩ : ∃ f, xv[j]? = some f := ⟨_, List.getElem?_eq_getElem (show j < xv.length by have : xv.length = nv := NV.out; omega)⟩
          obtain ⟨v, hv⟩ : ∃ g, yv[j]? = some g := ⟨_, List.getElem?_eq_getElem (show j < yv.length by have : yv.length = nv := E5.out; omega)⟩
          obtain ⟨f3, f4⟩ := (Rel2.at_ E2.out hu hv).un
          have hbw : Below w.heap.size wo wr := HZW.out.2.mono (by omega)
          obtain ⟨gc, oc, hq, hgc, ⟨c0, c1, c2⟩, hU⟩ := (HX.out.below hbw).cells hu
          have hq : xA = some ⟨gc, oc, none⟩ := hq
          subst hq
          obtain ⟨gd, od, hq, hgd, ⟨q0, q1, q2⟩, hV⟩ := (HY.out.below hbw).cells hv
          have hq : yA = some ⟨gd, od, none⟩ := hq
          subst hq
          obtain ⟨un, us, uA, uC, up⟩ := u
          obtain ⟨vn, vs, vA, vC, vp⟩ := v
          dsimp only at f3 f4 c0 c1 c2 q0 q1 q2
          subst f3
          have CN : Hid (Calls Tryd.prog 64 #[.slice uA us.length uC, .slice vA vs.length vC] wr.drew fun e w' => e = .returned (.bool true) ∧ Hid (Below w3.heap.size w3 w') ∧ (w'.cell? ⟨wo.heap.size, 1, none⟩ = some (.slice (some ⟨gc, oc, none⟩) nv xC) ∧ w'.cell? ⟨wo.heap.size + 1, 1, none⟩ = some (.slice (some ⟨gd, od, none⟩) nv yC) ∧ w'.cell? ⟨gc, oc + j * 3, none⟩ = some (.int .u64 (vn : Nat)) ∧ w'.cell? ⟨gc, oc + j * 3 + 1, none⟩ = some (.slice uA us.length uC) ∧ w'.cell? ⟨gd, od + j * 3, none⟩ = some (.int .u64 (vn : Nat)) ∧ w'.cell? ⟨gd, od + j * 3 + 1, none⟩ = some (.slice vA vs.length vC))) := by
            have hd : Below wr.heap.size wr wr.drew := Below.thenN (Below.refl _ _) 1
            have hz := HZW.out.1.size
            refine (psteps_any (m := ⟨vn, us, uA, uC, up⟩) (m' := ⟨vn, vs, vA, vC, vp⟩) (hU.below (hd.mono (by omega))) (hV.below (hd.mono (by omega))) (Nat.le_trans (by omega) hd.size) (Nat.le_trans (by omega) hd.size) f4).mono ?_
            rintro e w' ⟨rfl, hb⟩
            have hb2 : Below wr.heap.size wr w' := hd.trans (hb.mono hd.size)
            have kc := fun (g : Nat) (hg : g < wr.heap.size) i => hb2.cell (p := ⟨g, i, none⟩) hg
            have hbig := HV.out.size
            exact ⟨rfl, HV.out.trans (hb2.mono hbig), (kc _ (by omega) _).trans f1, (kc _ (by omega) _).trans g1, (kc _ (by omega) _).trans c0, (kc _ (by omega) _).trans c1, (kc _ (by omega) _).trans q0, (kc _ (by omega) _).trans q1⟩
          have D1 : wr.drew.cell? ⟨wo.heap.size, 1, none⟩ = some (.slice (some ⟨gc, oc, none⟩) nv xC) ∧ wr.drew.cell? ⟨wo.heap.size + 1, 1, none⟩ = some (.slice (some ⟨gd, od, none⟩) nv yC) ∧ wr.drew.cell? ⟨gc, oc + j * 3, none⟩ = some (.int .u64 (vn : Nat)) ∧ wr.drew.cell? ⟨gc, oc + j * 3 + 1, none⟩ = some (.slice uA us.length uC) ∧ wr.drew.cell? ⟨gd, od + j * 3, none⟩ = some (.int .u64 (vn : Nat)) ∧ wr.drew.cell? ⟨gd, od + j * 3 + 1, none⟩ = some (.slice vA vs.length vC) := ⟨f1, g1, c0, c1, q0, q1⟩
          clear hU hV hu hv f4 hbw c2 q2
          go_wp2
          go_region_held3 (fun W => W.cell? ⟨wo.heap.size, 1, none⟩ = some (.slice (some ⟨gc, oc, none⟩) nv xC) ∧ W.cell? ⟨wo.heap.size + 1, 1, none⟩ = some (.slice (some ⟨gd, od, none⟩) nv yC) ∧ W.cell? ⟨gc, oc + j * 3, none⟩ = some (.int .u64 (vn : Nat)) ∧ W.cell? ⟨gc, oc + j * 3 + 1, none⟩ = some (.slice uA us.length uC) ∧ W.cell? ⟨gd, od + j * 3, none⟩ = some (.int .u64 (vn : Nat)) ∧ W.cell? ⟨gd, od + j * 3 + 1, none⟩ = some (.slice vA vs.length vC))
            (first | (with_reducible exact D1) | (with_reducible exact D2) | (with_reducible assumption) | fail)
            (first
              | (go_at_call 64; (with_reducible refine CN.out.mono ?_); rintro e w5 ⟨rfl, H5, D2⟩)
              | fail)
          all_goals
            go_wp2
            go_roundw
            case rel => exact ⟨j + 1, by go_num, by omega, H5⟩
            case measure => simp [intOf]; omega
        · have hge : ¬ (j : Int) < (nv : Int) := by omega
          go_wp2
          go_roundw
          case rel => exact ⟨k + 1, by go_num, by omega, HZW.out.1⟩
          case measure => simp [intOf]; omega
    · have hge : ¬ (k : Int) < (n : Int) := by omega
      go_wp2
      go_ret
      exact ⟨rfl, HZ.out.trans (HW.out.mono (by omega))⟩
end Go.Proofs.YtdkcnepjjinpdaaDoor
