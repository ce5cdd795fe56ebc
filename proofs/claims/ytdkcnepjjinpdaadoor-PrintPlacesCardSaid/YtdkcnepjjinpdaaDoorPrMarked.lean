/- The walk of the statements' own function that says whether a marked copy is as it was made. -/
import Derived.Test.YtdkcnepjjinpdaaDoorPrMark
import Derived.Test.YtdkcnepjjinpdaaDoorPrSameT
namespace Go.Proofs.YtdkcnepjjinpdaaDoor
open Go.RowKit

section
variable {w : World} {B : Nat}
theorem KtAt.open {A : Option Addr} {c : Nat} {l : List Me} (h : KtAt w B A c l) : ∃ g o, A = some ⟨g, o, none⟩ ∧ g < B ∧ w.cell? ⟨g, o + l.length * 3, none⟩ = some (.string (str [109, 97, 114, 107])) ∧
    ∀ j y, l[j]? = some y → (w.cell? ⟨g, o + j * 3 + 1, none⟩ = some (.slice y.A y.vs.length y.c) ∧ w.cell? ⟨g, o + j * 3 + 2, none⟩ = some (.int .i64 y.p)) ∧ KeAt w B y := by
  obtain ⟨g, o, hA, hb, hc⟩ := h.row.at_ (i := l.length) (x := mkE) (by simp)
  refine ⟨g, o, hA, hb, hc 0 _ rfl, fun j y hy => ?_⟩
  obtain ⟨g', o', hA', _, hc'⟩ := h.row.at_ (i := j) (x := y) (by rw [List.getElem?_append_left (List.getElem?_eq_some_iff.1 hy).1]; exact hy)
  rw [hA] at hA'
  cases hA'
  exact ⟨⟨hc' 1 _ rfl, hc' 2 _ rfl⟩, h.each y (List.mem_of_getElem? hy)⟩
theorem KeAt.open {m : Me} (h : KeAt w B m) : ∃ g o, m.A = some ⟨g, o, none⟩ ∧ g < B ∧ w.cell? ⟨g, o + m.vs.length * 3, none⟩ = some (.int .u64 77) ∧
    ∀ j y, m.vs[j]? = some y → (w.cell? ⟨g, o + j * 3 + 1, none⟩ = some (.slice y.A y.st.length y.c) ∧ w.cell? ⟨g, o + j * 3 + 2, none⟩ = some (.int .i64 y.p)) ∧ KvAt w B y := by
  obtain ⟨g, o, hA, hb, hc⟩ := h.row.at_ (i := m.vs.length) (x := mkV) (by simp)
  refine ⟨g, o, hA, hb, hc 0 _ rfl, fun j y hy => ?_⟩
  obtain ⟨g', o', hA', _, hc'⟩ := h.row.at_ (i := j) (x := y) (by rw [List.getElem?_append_left (List.getElem?_eq_some_iff.1 hy).1]; exact hy)
  rw [hA] at hA'
  cases hA'
  exact ⟨⟨hc' 1 _ rfl, hc' 2 _ rfl⟩, h.each y (List.mem_of_getElem? hy)⟩
theorem KvAt.open {m : Mv} (h : KvAt w B m) : ∃ g o, m.A = some ⟨g, o, none⟩ ∧ g < B ∧ w.cell? ⟨g, o + m.st.length * 8, none⟩ = some (.int .i64 77) ∧
    ∀ j y, m.st[j]? = some y → (w.cell? ⟨g, o + j * 8 + 6, none⟩ = some (.slice y.A y.s.v.length y.c) ∧ w.cell? ⟨g, o + j * 8 + 7, none⟩ = some (.int .i64 y.s.p)) ∧ KsAt w B y := by
  obtain ⟨g, o, hA, hb, hc⟩ := h.row.at_ (i := m.st.length) (x := mkS) (by simp)
  refine ⟨g, o, hA, hb, hc 0 _ rfl, fun j y hy => ?_⟩
  obtain ⟨g', o', hA', _, hc'⟩ := h.row.at_ (i := j) (x := y) (by rw [List.getElem?_append_left (List.getElem?_eq_some_iff.1 hy).1]; exact hy)
  rw [hA] at hA'
  cases hA'
  exact ⟨⟨hc' 6 _ rfl, hc' 7 _ rfl⟩, h.each y (List.mem_of_getElem? hy)⟩
theorem KsAt.open {m : Ms} (h : KsAt w B m) : ∃ g o, m.A = some ⟨g, o, none⟩ ∧ g < B ∧ w.cell? ⟨g, o + m.s.v.length * 5, none⟩ = some (.int .i64 77) ∧
    ∀ j y, m.s.v[j]? = some y → w.cell? ⟨g, o + j * 5 + 4, none⟩ = some (.int .i64 y.a) := by
  obtain ⟨g, o, hA, hb, hc⟩ := h.rn.at_ (i := m.s.v.length) (x := mkN) (by simp)
  refine ⟨g, o, hA, hb, hc 0 _ rfl, fun j y hy => ?_⟩
  obtain ⟨g', o', hA', _, hc'⟩ := h.rn.at_ (i := j) (x := y) (by rw [List.getElem?_append_left (List.getElem?_eq_some_iff.1 hy).1]; exact hy)
  rw [hA] at hA'
  cases hA'
  exact hc' 4 _ rfl
end

set_option maxRecDepth 100000 in
set_option maxHeartbeats 8000000 in
theorem marked_any {w : World} {B B' c c' : Nat} {A A' : Option Addr} {a b : List Me} {d : Int} (ha : KtAt w B A c a) (hb : MtAt w B' A' b) (hB : B ≤ w.heap.size) (hB' : B' ≤ w.heap.size) (hr : Rel2 (ShE d) b a) :
    Calls Tryd.prog 16 #[.agg #[.slice A a.length c], .agg #[.slice A' b.length c'], .int .i64 d] w fun e w' => e = .returned (.bool true) ∧ Below w.heap.size w w' := by
  have hlb : a.length = b.length := hr.len
  obtain ⟨n, hn⟩ : ∃ n, a.length = n := ⟨_, rfl⟩
  have hvl : n ≤ 65536 := by rw [← hn]; exact ha.len
  have hcap : n + 1 ≤ c := by rw [← hn]; exact ha.cap
  rw [← hlb, hn]
  obtain ⟨gu, ou, rfl, hgu, hm0, -⟩ := ha.open
  obtain ⟨wz, hwz⟩ : ∃ wz, (w.alloc (.cells #[.slice (some ⟨gu, ou, none⟩) n c] 30)).alloc (.cells #[.slice A' n c'] 30) = wz := ⟨_, rfl⟩
  have bz : Below w.heap.size w wz := by rw [← hwz]; exact ((Below.refl _ w).alloc (Nat.le_refl _) _).alloc (by simp) _
  have sz : wz.heap.size = w.heap.size + 1 + 1 := by rw [← hwz]; simp
  have kz : CB wz w.heap.size 30 #[.slice (some ⟨gu, ou, none⟩) n c] := by
    rw [← hwz]
    exact (CB.new w 30 #[.slice (some ⟨gu, ou, none⟩) n c]).below ((Below.refl _ _).alloc (Nat.le_refl _) _)
  have lz : CB wz (w.heap.size + 1) 30 #[.slice A' n c'] := by
    rw [← hwz]
    have e : (w.alloc (.cells #[.slice (some ⟨gu, ou, none⟩) n c] 30)).heap.size = w.heap.size + 1 := by simp
    rw [← e]
    exact CB.new _ _ _
  have HA := Lib.hid ((ha.more hB).below bz)
  have HB := Lib.hid ((hb.more hB').below bz)
  have HR := Lib.hid hr
  have HN := Lib.hid hn
  have HL := Lib.hid hlb
  have HZ := Lib.hid bz
  have BX : Hid (∀ W, Below wz.heap.size wz W → Below w.heap.size wz W ∧ W.cell? ⟨w.heap.size, 0, none⟩ = some (.slice (some ⟨gu, ou, none⟩) n c) ∧ W.cell? ⟨w.heap.size + 1, 0, none⟩ = some (.slice A' n c')) := fun W hW => ⟨hW.mono (by omega), (kz.below hW).at_ 0, (lz.below hW).at_ 0⟩
  obtain ⟨-, z0, z1⟩ := BX.out wz (Below.refl _ _)
  have hgz : gu < wz.heap.size := by omega
  have hms : ((⟨#[109, 97, 114, 107]⟩ : ByteArray) != ⟨#[109, 97, 114, 107]⟩) = false := by decide
  have hm1 : wz.cell? ⟨gu, ou + n * 3, none⟩ = some (.string ⟨#[109, 97, 114, 107]⟩) := by
    rw [← hn]
    exact (bz.cell (p := ⟨gu, _, none⟩) (Nat.lt_of_lt_of_le hgu hB)).trans hm0
  have CT : Hid (Calls Tryd.prog 36 #[.agg #[.slice (some ⟨gu, ou, none⟩) n c], .agg #[.slice A' n c']] wz fun e w' => e = .returned (.bool true) ∧ Hid (Below wz.heap.size wz w') ∧ w'.cell? ⟨w.heap.size, 0, none⟩ = some (.slice (some ⟨gu, ou, none⟩) n c) ∧ w'.cell? ⟨w.heap.size + 1, 0, none⟩ = some (.slice A' n c')) := by
    have := ptrees_any (c := c) (c' := c') HA.out.mt HB.out bz.size bz.size (hr.flip (q := fun x y => EqE x.e y.e) fun _ _ k => k.qe)
    rw [hn, show b.length = n by omega] at this
    refine this.mono ?_
    rintro e w' ⟨rfl, hb'⟩
    exact ⟨rfl, hb', (BX.out w' hb').2⟩
  have h0n : (0 : Int) ≤ (n : Int) := by omega
  have hn1 : ((n : Int) != (n : Int)) = false := by simp
  have hw1 : wrap64 ((n : Int) + 1) = (n : Int) + 1 := by unfold wrap64; omega
  have hw2 : (n : Int) + 1 ≤ (c : Int) := by omega
  have hw3 : (0 : Int) ≤ (n : Int) + 1 := by omega
  have hw4 : (n : Int) < (n : Int) + 1 := by omega
  clear ha hb hr hlb hn bz kz lz hm0
  go_enter Tryd.func16, Tryd.ntmps16
  go_wp2_with (go_at_call 36; (with_reducible refine CT.out.mono ?_); rintro e w2 ⟨rfl, H2, y0, y1⟩)
  go_loopw [8] (fun i wr => ∃ k : Nat, i = .int .i64 k ∧ k ≤ n ∧ Hid (Below wz.heap.size wz wr)) (fun i _ => n - (intOf i).toNat)
  case atStart => exact ⟨0, rfl, Nat.zero_le _, H2⟩
  case round =>
    clear z0 z1 y0 y1 H2 CT hm1 hw1 hw2 hw3 hw4 hms hn1 h0n
    obtain ⟨k, rfl, hk, HW⟩ := hrel
    obtain ⟨hbo, z0, z1⟩ := BX.out wr HW.out
    by_cases hlt : k < n
    · have hltz : (k : Int) < (n : Int) := by omega
      have k0 : (0 : Int) ≤ (k : Int) := by omega
      obtain ⟨x, hx⟩ : ∃ f, a[k]? = some f := ⟨_, List.getElem?_eq_getElem (show k < a.length by have : a.length = n := HN.out; omega)⟩
      obtain ⟨y, hy⟩ : ∃ f, b[k]? = some f := ⟨_, List.getElem?_eq_getElem (show k < b.length by have : a.length = n := HN.out; have : a.length = b.length := HL.out; omega)⟩
      have hs1 := HR.out.at_ hy hx
      obtain ⟨gu', ou', he, -, -, hcell⟩ := (HA.out.below hbo).open
      cases he
      obtain ⟨⟨u1, u2⟩, hX⟩ := hcell k x hx
      obtain ⟨gt, ot, rfl, hgt, ⟨-, t1, t2⟩, hY⟩ := (HB.out.below hbo).cells hy
      have HXW : Hid (∀ W, Below wz.heap.size wz W → KeAt W w.heap.size x ∧ MeAt W w.heap.size y) := fun W hW => ⟨(HA.out.below (BX.out W hW).1).each _ (List.mem_of_getElem? hx), (HB.out.below (BX.out W hW).1).each _ (List.mem_of_getElem? hy)⟩
      obtain ⟨xn, xv, xA, xC, xp⟩ := x
      obtain ⟨yn, yv, yA, yC, yp⟩ := y
      have e3 := hs1.vs
      dsimp only at e3 u1 u2 t1 t2
      obtain ⟨gv, ov, hq, hgv, hmv, -⟩ := hX.open
      have hq : xA = some ⟨gv, ov, none⟩ := hq
      subst hq
      have hlv := hX.len
      have hcv := hX.cap
      dsimp only at hmv hlv hcv
      have e5 : xv.length = yv.length := e3.len
      obtain ⟨nv, hnv⟩ : ∃ nv, xv.length = nv := ⟨_, rfl⟩
      rw [← e5] at t1
      rw [hnv] at u1 t1 hmv hlv hcv
      have v0 : (0 : Int) ≤ (nv : Int) := by omega
      have v3 : (nv : Int) + 1 ≤ (xC : Int) := by omega
      have v4 : (0 : Int) ≤ (nv : Int) + 1 := by omega
      have v5 : (nv : Int) < (nv : Int) + 1 := by omega
      have v2 : IntKind.i64.wrap ((nv : Int) + 1) = (nv : Int) + 1 := by rw [IntKind.wrap_i64]; omega
      have e2 := hs1.p
      dsimp only at e2
      obtain ⟨pq, hpq⟩ : ∃ pq, wrap64 (yp + d) = pq := ⟨_, rfl⟩
      rw [e2, hpq] at u2
      have hpq2 : IntKind.i64.wrap (yp + d) = pq := by rw [IntWalk.i64_left]; exact hpq
      have hpp : (pq != pq) = false := by simp
      have HX := Lib.hid hX
      have HY := Lib.hid hY
      have E3 := Lib.hid e3
      have E5 := Lib.hid e5
      have NV := Lib.hid hnv
      clear hX hY hs1 e2 e3 e5 hnv hx hy hcell hgt
      go_wp2
      go_quiet (fail)
      go_wp2
      clear v0 v2 v3 v4 v5 hpq hpq2 hpp u1 u2 t1 t2 hmv z0 z1 hltz k0
      go_loopw [11] (fun i wr => ∃ j : Nat, i = .int .i64 j ∧ j ≤ nv ∧ Hid (Below wz.heap.size wz wr)) (fun i _ => nv - (intOf i).toNat)
      case atStart => exact ⟨0, rfl, Nat.zero_le _, Below.thenN HW.out _⟩
      case round =>
        clear HW hbo
        obtain ⟨j, rfl, hj, HW⟩ := hrel
        obtain ⟨hbo, -⟩ := BX.out wr HW.out
        by_cases hjlt : j < nv
        · have hjltz : (j : Int) < (nv : Int) := by omega
          have j0 : (0 : Int) ≤ (j : Int) := by omega
          obtain ⟨u, hu⟩ : ∃ f, xv[j]? = some f := ⟨_, List.getElem?_eq_getElem (show j < xv.length by have : xv.length = nv := NV.out; omega)⟩
          obtain ⟨v, hv⟩ : ∃ f, yv[j]? = some f := ⟨_, List.getElem?_eq_getElem (show j < yv.length by have : xv.length = nv := NV.out; have : xv.length = yv.length := E5.out; omega)⟩
          have hs2 := Rel2.at_ E3.out hv hu
          obtain ⟨gv', ov', he, -, -, hcell⟩ := (HXW.out wr HW.out).1.open
          have he : some (⟨gv, ov, none⟩ : Addr) = some ⟨gv', ov', none⟩ := he
          cases he
          obtain ⟨⟨u1, u2⟩, hU⟩ := hcell j u hu
          obtain ⟨gw, ow, hq, hgw, ⟨-, t1, t2⟩, hV⟩ := (HXW.out wr HW.out).2.cells hv
          have hq : yA = some ⟨gw, ow, none⟩ := hq
          subst hq
          have HUW : Hid (∀ W, Below wz.heap.size wz W → KvAt W w.heap.size u ∧ MvAt W w.heap.size v ∧ W.cell? ⟨gw, ow + j * 3 + 1, none⟩ = some (.slice v.A v.st.length v.c)) := fun W hW => by
            refine ⟨(HXW.out W hW).1.each _ (List.mem_of_getElem? hu), (HXW.out W hW).2.each _ (List.mem_of_getElem? hv), ?_⟩
            obtain ⟨g', o', hq, -, ⟨-, q1, -⟩, -⟩ := (HXW.out W hW).2.cells hv
            cases hq
            exact q1
          obtain ⟨un, us, uA, uC, up⟩ := u
          obtain ⟨vn, vs, vA, vC, vp⟩ := v
          have e3 := hs2.st
          dsimp only at e3 u1 u2 t1 t2
          obtain ⟨gl, ol, hq, hgl, hml, -⟩ := hU.open
          have hq : uA = some ⟨gl, ol, none⟩ := hq
          subst hq
          have hlv2 := hU.len
          have hcv2 := hU.cap
          dsimp only at hml hlv2 hcv2
          have e5 : us.length = vs.length := e3.len
          obtain ⟨ns, hns⟩ : ∃ ns, us.length = ns := ⟨_, rfl⟩
          rw [← e5] at t1
          rw [hns] at u1 t1 hml hlv2 hcv2
          have v0 : (0 : Int) ≤ (ns : Int) := by omega
          have v3 : (ns : Int) + 1 ≤ (uC : Int) := by omega
          have v4 : (0 : Int) ≤ (ns : Int) + 1 := by omega
          have v5 : (ns : Int) < (ns : Int) + 1 := by omega
          have v2 : IntKind.i64.wrap ((ns : Int) + 1) = (ns : Int) + 1 := by rw [IntKind.wrap_i64]; omega
          have e2 := hs2.p
          dsimp only at e2
          obtain ⟨pq, hpq⟩ : ∃ pq, wrap64 (vp + d) = pq := ⟨_, rfl⟩
          rw [e2, hpq] at u2
          have hpq2 : IntKind.i64.wrap (vp + d) = pq := by rw [IntWalk.i64_left]; exact hpq
          have hpp : (pq != pq) = false := by simp
          have F3 := Lib.hid e3
          have F5 := Lib.hid e5
          have NS := Lib.hid hns
          clear hU hV hs2 e2 e3 e5 hns hu hv hcell hgw hgl
          go_wp2
          go_quiet (fail)
          go_wp2
          clear v0 v2 v3 v4 v5 hpq hpq2 hpp u1 u2 t1 t2 hml
          go_loopw [13] (fun i wr => ∃ m : Nat, i = .int .i64 m ∧ m ≤ ns ∧ Hid (Below wz.heap.size wz wr)) (fun i _ => ns - (intOf i).toNat)
          case atStart => exact ⟨0, rfl, Nat.zero_le _, Below.thenN HW.out _⟩
          case round =>
            clear HW hbo
            obtain ⟨m, rfl, hm, HW⟩ := hrel
            obtain ⟨hbo, -⟩ := BX.out wr HW.out
            by_cases hmlt : m < ns
            · have hmltz : (m : Int) < (ns : Int) := by omega
              have m0 : (0 : Int) ≤ (m : Int) := by omega
              obtain ⟨p, hp⟩ : ∃ f, us[m]? = some f := ⟨_, List.getElem?_eq_getElem (show m < us.length by have : us.length = ns := NS.out; omega)⟩
              obtain ⟨q, hq0⟩ : ∃ f, vs[m]? = some f := ⟨_, List.getElem?_eq_getElem (show m < vs.length by have : us.length = ns := NS.out; have : us.length = vs.length := F5.out; omega)⟩
              have hs3 := Rel2.at_ F3.out hq0 hp
              obtain ⟨gl', ol', he, -, -, hcell⟩ := (HUW.out wr HW.out).1.open
              have he : some (⟨gl, ol, none⟩ : Addr) = some ⟨gl', ol', none⟩ := he
              cases he
              obtain ⟨⟨u6, u7⟩, hP⟩ := hcell m p hp
              obtain ⟨gs, os, hq, hgs, ⟨-, -, -, -, -, -, s6, s7⟩, hQ⟩ := (HUW.out wr HW.out).2.1.cells hq0
              have hq : vA = some ⟨gs, os, none⟩ := hq
              subst hq
              have tq := (HUW.out wr HW.out).2.2
              have HPW : Hid (∀ W, Below wz.heap.size wz W → KsAt W w.heap.size p ∧ MsAt W w.heap.size q ∧ W.cell? ⟨gs, os + m * 8 + 6, none⟩ = some (.slice q.A q.s.v.length q.c)) := fun W hW => by
                refine ⟨(HUW.out W hW).1.each _ (List.mem_of_getElem? hp), (HUW.out W hW).2.1.each _ (List.mem_of_getElem? hq0), ?_⟩
                obtain ⟨g', o', hq, -, ⟨-, -, -, -, -, -, q6, -⟩, -⟩ := (HUW.out W hW).2.1.cells hq0
                cases hq
                exact q6
              obtain ⟨ps, pA, pC⟩ := p
              obtain ⟨⟨qk, qa, qb, qc, qe, qy, qv, qp⟩, qA, qC⟩ := q
              have e4 : ps = ⟨qk, qa, qb, qc, qe, qy, qv.map (shN d), wrap64 (qp + d)⟩ := hs3.s
              subst e4
              dsimp only at u6 u7 s6 s7 tq
              rw [List.length_map] at u6
              obtain ⟨gx, ox, hq, hgx, hmx, -⟩ := hP.open
              have hq : pA = some ⟨gx, ox, none⟩ := hq
              subst hq
              have hcv3 := hP.cap
              dsimp only at hmx hcv3
              rw [List.length_map] at hmx hcv3
              have hlv3 : qv.length ≤ 2932031007402 := hQ.lt.few.few
              obtain ⟨nn, hnn⟩ : ∃ nn, qv.length = nn := ⟨_, rfl⟩
              rw [show vs.length = ns by rw [← NS.out, F5.out]] at tq
              rw [hnn] at u6 s6 hmx hcv3 hlv3
              have v0 : (0 : Int) ≤ (nn : Int) := by omega
              have v3 : (nn : Int) + 1 ≤ (pC : Int) := by omega
              have v4 : (0 : Int) ≤ (nn : Int) + 1 := by omega
              have v5 : (nn : Int) < (nn : Int) + 1 := by omega
              have v2 : IntKind.i64.wrap ((nn : Int) + 1) = (nn : Int) + 1 := by rw [IntKind.wrap_i64]; omega
              obtain ⟨pq, hpq⟩ : ∃ pq, wrap64 (qp + d) = pq := ⟨_, rfl⟩
              rw [hpq] at u7
              have hpq2 : IntKind.i64.wrap (qp + d) = pq := by rw [IntWalk.i64_left]; exact hpq
              have hpp : (pq != pq) = false := by simp
              have NN := Lib.hid hnn
              clear hP hQ hs3 hnn hp hq0 hcell hgs hgx
              go_wp2
              go_quiet (fail)
              go_wp2
              clear v0 v2 v3 v4 v5 hpq hpq2 hpp u6 u7 s6 s7 hmx tq
              go_loopw [15] (fun i wr => ∃ i1 : Nat, i = .int .i64 i1 ∧ i1 ≤ nn ∧ Hid (Below wz.heap.size wz wr)) (fun i _ => nn - (intOf i).toNat)
              case atStart => exact ⟨0, rfl, Nat.zero_le _, Below.thenN HW.out _⟩
              case round =>
                clear HW hbo
                obtain ⟨i1, rfl, hi, HW⟩ := hrel
                obtain ⟨hbo, -⟩ := BX.out wr HW.out
                by_cases hilt : i1 < nn
                · have hiltz : (i1 : Int) < (nn : Int) := by omega
                  have i0 : (0 : Int) ≤ (i1 : Int) := by omega
                  obtain ⟨z, hz⟩ : ∃ f, qv[i1]? = some f := ⟨_, List.getElem?_eq_getElem (show i1 < qv.length by have : qv.length = nn := NN.out; omega)⟩
                  obtain ⟨gx', ox', he, -, -, hcell⟩ := (HPW.out wr HW.out).1.open
                  have he : some (⟨gx, ox, none⟩ : Addr) = some ⟨gx', ox', none⟩ := he
                  cases he
                  have x4 := hcell i1 (shN d z) (by show (qv.map (shN d))[i1]? = _; rw [List.getElem?_map, hz]; rfl)
                  obtain ⟨gn, on_, hq, -, -, -, -, -, n4⟩ := RN.cells (HPW.out wr HW.out).2.1.rn hz
                  have hq : qA = some ⟨gn, on_, none⟩ := hq
                  subst hq
                  have s6 := (HPW.out wr HW.out).2.2
                  have tq := (HUW.out wr HW.out).2.2
                  obtain ⟨zo, zn, zm, zt, za⟩ := z
                  dsimp only [shN] at x4 n4 s6 tq
                  rw [show vs.length = ns by rw [← NS.out, F5.out]] at tq
                  rw [show qv.length = nn from NN.out] at s6
                  obtain ⟨pq, hpq⟩ : ∃ pq, wrap64 (za + d) = pq := ⟨_, rfl⟩
                  rw [hpq] at x4
                  have hpq2 : IntKind.i64.wrap (za + d) = pq := by rw [IntWalk.i64_left]; exact hpq
                  have hpp : (pq != pq) = false := by simp
                  clear hcell hz
                  go_wp2
                  go_quiet (fail)
                  clear hpq hpq2 hpp
                  go_wp2
                  go_roundw
                  case rel => exact ⟨i1 + 1, by go_num, by omega, Below.thenN HW.out _⟩
                  case measure => simp [intOf]; omega
                · have hge : ¬ (i1 : Int) < (nn : Int) := by omega
                  go_wp2
                  go_roundw
                  case rel => exact ⟨m + 1, by go_num, by omega, HW⟩
                  case measure => simp [intOf]; omega
            · have hge : ¬ (m : Int) < (ns : Int) := by omega
              go_wp2
              go_roundw
              case rel => exact ⟨j + 1, by go_num, by omega, HW⟩
              case measure => simp [intOf]; omega
        · have hge : ¬ (j : Int) < (nv : Int) := by omega
          go_wp2
          go_roundw
          case rel => exact ⟨k + 1, by go_num, by omega, HW⟩
          case measure => simp [intOf]; omega
    · have hge : ¬ (k : Int) < (n : Int) := by omega
      go_wp2
      go_ret
      exact ⟨rfl, HZ.out.trans hbo⟩
end Go.Proofs.YtdkcnepjjinpdaaDoor
