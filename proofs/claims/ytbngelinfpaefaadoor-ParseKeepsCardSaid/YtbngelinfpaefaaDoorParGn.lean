/- The walk of lists: the lists of a tree, of each kind. -/
import Derived.Test.YtbngelinfpaefaaDoorParGm
namespace Go.Proofs.YtbngelinfpaefaaDoor
open Go.RowKit

/-- a row of slices -/
def SlLev (T : TypeId) : Lev Sl := ⟨T, 1, Sl.C, fun _ _ _ => True, fun _ => []⟩
theorem slLev (T : TypeId) : (SlLev T).Ok where
  size := fun _ => rfl
  one := fun x u hu => by
    have hu2 : u ∈ [x.v] := hu
    rw [List.mem_singleton] at hu2
    rw [hu2]
    rfl
  keep := fun _ _ => trivial
  low := fun _ _ => trivial
  bd := fun _ b hb => by cases hb
  nd := fun _ => .nil
theorem sl_bls (T : TypeId) (A : Option Addr) (l : List Sl) : (SlLev T).bls A l = (obk A).toList := by
  unfold Lev.bls
  have : l.flatMap (SlLev T).bl = [] := by
    induction l with
    | nil => rfl
    | cons x r ih => rw [List.flatMap_cons, ih]; rfl
  rw [this, List.append_nil]
theorem infoSV : (Tryd.prog.info? 65).map (fun i => (i.zero, i.size, i.bytes)) = some (some (.slice none 0 0), 1, 24) := by kernel_rfl
theorem infoSS : (Tryd.prog.info? 68).map (fun i => (i.zero, i.size, i.bytes)) = some (some (.slice none 0 0), 1, 24) := by kernel_rfl
theorem infoSN : (Tryd.prog.info? 33).map (fun i => (i.zero, i.size, i.bytes)) = some (some (.slice none 0 0), 1, 24) := by kernel_rfl
/-- one slice more -/
theorem run_app_sl {w : World} {B : Nat} {T t : TypeId} {A : Option Addr} {c : Nat} {l : List Sl} (h : Built (SlLev T) w B A c l) (ht : Tryd.prog.underlying t = some (.slice T)) (hi : (Tryd.prog.info? T).map (fun i => (i.zero, i.size, i.bytes)) = some (some (.slice none 0 0), 1, 24)) (r : Sl) (hl : l.length ≤ 2000000) (hB : B ≤ w.heap.size) :
    ∃ g c' w', (Builtin.append_ #[t, t] t #[.slice A l.length c, .slice (some ⟨w.heap.size, 0, none⟩) 1 1]).run Tryd.prog (w.alloc (.cells #[.slice r.A r.n r.c] T)) = .ok (.slice (some ⟨g, 0, none⟩) (l.length + 1) c') w' ∧
      Built (SlLev T) w' B (some ⟨g, 0, none⟩) c' (l ++ [r]) ∧ (obk A = some g ∨ w.heap.size ≤ g) ∧ w.grownBy w' (obk A) := by
  obtain ⟨i, hi, hz, hs, hb⟩ := info_three hi
  exact run_app_lev (slLev T) h t i _ 24 ht hi hz hs hb rfl (by show 0 < 1; decide) (by decide) r trivial (fun b hb => by cases hb) hl hB
/-- three rows of slices, each by itself -/
structure Three (w : World) (B : Nat) (X Y Z : TypeId) (Ax : Option Addr) (cx : Nat) (x : List Sl) (Ay : Option Addr) (cy : Nat) (y : List Sl) (Az : Option Addr) (cz : Nat) (z : List Sl) : Prop where
  x : Built (SlLev X) w B Ax cx x
  y : Built (SlLev Y) w B Ay cy y
  z : Built (SlLev Z) w B Az cz z
  xy : ∀ k, obk Ax = some k → obk Ay ≠ some k
  xz : ∀ k, obk Ax = some k → obk Az ≠ some k
  yz : ∀ k, obk Ay = some k → obk Az ≠ some k
section
variable {w : World} {B : Nat} {X Y Z : TypeId} {Ax Ay Az : Option Addr} {cx cy cz : Nat} {x y z : List Sl}
theorem Three.nil (w : World) (B : Nat) (X Y Z : TypeId) : Three w B X Y Z none 0 [] none 0 [] none 0 [] := ⟨Built.nil _ _ _, Built.nil _ _ _, Built.nil _ _ _, nofun, nofun, nofun⟩
theorem Three.rot (h : Three w B X Y Z Ax cx x Ay cy y Az cz z) : Three w B Y Z X Ay cy y Az cz z Ax cx x := ⟨h.y, h.z, h.x, h.yz, fun k a b => h.xy k b a, fun k a b => h.xz k b a⟩
theorem sl_bd {T : TypeId} {A : Option Addr} {c : Nat} {l : List Sl} (h : Built (SlLev T) w B A c l) {b : Nat} (hb : obk A = some b) : B ≤ b ∧ b < w.heap.size := h.bd (slLev T) b (by rw [sl_bls]; rw [hb]; simp)
theorem sl_keep {T : TypeId} {w' : World} {A : Option Addr} {c : Nat} {l : List Sl} (h : Built (SlLev T) w B A c l) (hk : ∀ b, obk A = some b → w'.heap[b]? = w.heap[b]?) : Built (SlLev T) w' B A c l := h.keep (slLev T) fun b hb => hk b (by rw [sl_bls] at hb; simpa using hb)
theorem Three.keep {w' : World} (h : Three w B X Y Z Ax cx x Ay cy y Az cz z) (hb : Below w.heap.size w w') : Three w' B X Y Z Ax cx x Ay cy y Az cz z := ⟨h.x.below (slLev _) hb, h.y.below (slLev _) hb, h.z.below (slLev _) hb, h.xy, h.xz, h.yz⟩
theorem Three.app {t : TypeId} (h : Three w B X Y Z Ax cx x Ay cy y Az cz z) (ht : Tryd.prog.underlying t = some (.slice X)) (hi : (Tryd.prog.info? X).map (fun i => (i.zero, i.size, i.bytes)) = some (some (.slice none 0 0), 1, 24)) (r : Sl) (hl : x.length ≤ 2000000) (hB : B ≤ w.heap.size) :
    ∃ g c' w', (Builtin.append_ #[t, t] t #[.slice Ax x.length cx, .slice (some ⟨w.heap.size, 0, none⟩) 1 1]).run Tryd.prog (w.alloc (.cells #[.slice r.A r.n r.c] X)) = .ok (.slice (some ⟨g, 0, none⟩) (x.length + 1) c') w' ∧
      Three w' B X Y Z (some ⟨g, 0, none⟩) c' (x ++ [r]) Ay cy y Az cz z ∧ Below B w w' := by
  obtain ⟨g, c', w', hr, hb, hat, hg⟩ := run_app_sl h.x ht hi r hl hB
  have ny : ∀ k, obk Ay = some k → w'.heap[k]? = w.heap[k]? := fun k hk => grown_keep hg (sl_bd h.y hk).2 fun e => h.xy k e hk
  have nz : ∀ k, obk Az = some k → w'.heap[k]? = w.heap[k]? := fun k hk => grown_keep hg (sl_bd h.z hk).2 fun e => h.xz k e hk
  refine ⟨g, c', w', hr, ⟨hb, sl_keep h.y ny, sl_keep h.z nz, fun k e hk => ?_, fun k e hk => ?_, h.yz⟩, ⟨hg.os, hg.tape, hg.output, hg.size, fun b hb => grown_keep hg (by omega) fun e => by have := (sl_bd h.x e).1; omega⟩⟩
  · have e2 : g = k := Option.some.inj e
    subst e2
    rcases hat with z | z
    · exact h.xy _ z hk
    · have := (sl_bd h.y hk).2; omega
  · have e2 : g = k := Option.some.inj e
    subst e2
    rcases hat with z | z
    · exact h.xz _ z hk
    · have := (sl_bd h.z hk).2; omega
end
theorem drop_hd {α : Type} {l : List α} {k : Nat} {x : α} (h : l[k]? = some x) : l.drop k = x :: l.drop (k + 1) := by
  obtain ⟨hk, e⟩ := List.getElem?_eq_some_iff.1 h
  rw [List.drop_eq_getElem_cons hk, e]

/-- what lists answers -/
def ListsAt (w : World) (es : List LEv) (e : Ending) (w' : World) : Prop :=
  ∃ A1 c1 A2 c2 A3 c3, e = .returned (.tuple #[.slice A1 (VL es).length c1, .slice A2 (SL es).length c2, .slice A3 (NL es).length c3]) ∧ Below w.heap.size w w' ∧
    Three w' w.heap.size 65 68 33 A1 c1 (VL es) A2 c2 (SL es) A3 c3 (NL es)

set_option maxRecDepth 100000 in
set_option maxHeartbeats 8000000 in
theorem lists_any {w : World} {A : Option Addr} {c : Nat} {es : List LEv} (h : RdE w A es) (h1 : (VL es).length ≤ 2000000) (h2 : (SL es).length ≤ 2000000) (h3 : (NL es).length ≤ 2000000) :
    Calls Tryd.prog 38 #[.agg #[.slice A es.length c]] w (ListsAt w es) := by
  obtain ⟨w1, hw1⟩ : ∃ w1 : World, w1 = w.alloc (.cells #[.slice A es.length c] 30) := ⟨_, rfl⟩
  have hb1 : Below w.heap.size w w1 := by rw [hw1]; exact (Below.refl _ w).alloc (Nat.le_refl _) _
  have hs1 : w1.heap.size = w.heap.size + 1 := by rw [hw1]; simp
  have hc1 : CB w1 w.heap.size 30 #[.slice A es.length c] := by rw [hw1]; exact CB.new w _ _
  have HRD := Lib.hid (h.below hb1)
  have HC1 := Lib.hid hc1
  have HBW := Lib.hid (And.intro hb1 hs1)
  have HL := Lib.hid (And.intro h1 (And.intro h2 h3))
  have hlen : es.length ≤ 2000000 := by have : (VL es).length = es.length := List.length_map _; omega
  clear h hc1 hb1 h1 h2 h3 hs1
  go_enter Tryd.func38, Tryd.ntmps38
  go_wp2
  rw [← hw1]
  clear hw1
  go_loopw [5, 6, 7, 8] (fun a b d i wr => ∃ (k : Nat) (L1 L2 L3 : List Sl) (A1 A2 A3 : Option Addr) (c1 c2 c3 : Nat), a = .slice A1 L1.length c1 ∧ b = .slice A2 L2.length c2 ∧ d = .slice A3 L3.length c3 ∧ i = .int .i64 k ∧ k ≤ es.length ∧ Hid (Below w1.heap.size w1 wr ∧ Three wr w1.heap.size 65 68 33 A1 c1 L1 A2 c2 L2 A3 c3 L3 ∧ L1 ++ VL (es.drop k) = VL es ∧ L2 ++ SL (es.drop k) = SL es ∧ L3 ++ NL (es.drop k) = NL es)) (fun _ _ _ i _ => es.length - (intOf i).toNat)
  case atStart => exact ⟨0, [], [], [], none, none, none, 0, 0, 0, rfl, rfl, rfl, rfl, Nat.zero_le _, Below.refl _ _, Three.nil _ _ _ _ _, rfl, rfl, rfl⟩
  case round =>
    obtain ⟨k, L1, L2, L3, A1, A2, A3, c1, c2, c3, rfl, rfl, rfl, rfl, hk, HW⟩ := hrel
    obtain ⟨wo, rfl⟩ : ∃ wo : World, wo = wr := ⟨_, rfl⟩
    have e0 : wo.cell? ⟨w.heap.size, 0, none⟩ = some (.slice A es.length c) := (HC1.out.below HW.out.1).at_ 0
    by_cases hlt : k < es.length
    · have hltz : (k : Int) < (es.length : Int) := by omega
      have k0 : (0 : Int) ≤ (k : Int) := by omega
      obtain ⟨x, hx⟩ : ∃ f, es[k]? = some f := ⟨es[k], List.getElem?_eq_getElem hlt⟩
      have HX := Lib.hid hx
      have HD := Lib.hid (drop_hd hx)
      clear hx
      obtain ⟨ga, oa, rfl, hga, ca⟩ := (HRD.out.below HW.out.1).row.at_ HX.out
      have a1 : wo.cell? ⟨ga, oa + k * 3 + 1, none⟩ = some (.slice x.A x.vs.length x.c) := ca 1 _ rfl
      obtain ⟨g1, d1, w2, hrun, hT, hb2⟩ := HW.out.2.1.app Tryd.underlying85 infoSV (slV x) (by have := congrArg List.length HW.out.2.2.1; rw [List.length_append] at this; have := HL.out.1; omega) HW.out.1.size
      have HRUN := Lib.hid hrun
      have H2 : Hid (Below w1.heap.size w1 w2 ∧ Three w2 w1.heap.size 65 68 33 (some ⟨g1, 0, none⟩) d1 (L1 ++ [slV x]) A2 c2 L2 A3 c3 L3 ∧ (L1 ++ [slV x]) ++ VL (es.drop (k + 1)) = VL es ∧ L2 ++ ((x.vs.drop 0).map slS ++ SL (es.drop (k + 1))) = SL es ∧ L3 ++ (veN (x.vs.drop 0) ++ NL (es.drop (k + 1))) = NL es) := by
        obtain ⟨p1, p2, p3, p4, p5⟩ := HW.out
        rw [HD.out] at p3 p4 p5
        exact ⟨p1.trans hb2, hT, by rw [List.append_assoc]; exact p3, p4, p5⟩
      clear hrun hT hb2 ca HW
      go_wp2_with (at_builtin; refine wpList_append_run rfl (.tmp 19) (.tmp 26) _ rfl rfl rfl HRUN.out ?_)
      clear HRUN e0 a1
      go_loopw [6, 7, 9] (fun b d i wr => ∃ (m : Nat) (L2 L3 : List Sl) (A2 A3 : Option Addr) (c2 c3 : Nat), b = .slice A2 L2.length c2 ∧ d = .slice A3 L3.length c3 ∧ i = .int .i64 m ∧ m ≤ x.vs.length ∧ Hid (Below w1.heap.size w1 wr ∧ Three wr w1.heap.size 65 68 33 (some ⟨g1, 0, none⟩) d1 (L1 ++ [slV x]) A2 c2 L2 A3 c3 L3 ∧ (L1 ++ [slV x]) ++ VL (es.drop (k + 1)) = VL es ∧ L2 ++ ((x.vs.drop m).map slS ++ SL (es.drop (k + 1))) = SL es ∧ L3 ++ (veN (x.vs.drop m) ++ NL (es.drop (k + 1))) = NL es)) (fun _ _ i _ => x.vs.length - (intOf i).toNat)
      case atStart => exact ⟨0, L2, L3, A2, A3, c2, c3, rfl, rfl, rfl, Nat.zero_le _, H2⟩
      case round =>
        clear H2
        obtain ⟨m, L2', L3', A2', A3', c2', c3', rfl, rfl, rfl, hm, HW⟩ := hrel
        obtain ⟨wi, rfl⟩ : ∃ wi : World, wi = wr := ⟨_, rfl⟩
        have e0 : wi.cell? ⟨w.heap.size, 0, none⟩ = some (.slice (some ⟨ga, oa, none⟩) es.length c) := (HC1.out.below HW.out.1).at_ 0
        obtain ⟨ga2, oa2, he, hga, ca⟩ := (HRD.out.below HW.out.1).row.at_ HX.out
        cases he
        have a1 : wi.cell? ⟨ga, oa + k * 3 + 1, none⟩ = some (.slice x.A x.vs.length x.c) := ca 1 _ rfl
        have rv : RdV wi x.A x.vs := ((HRD.out.below HW.out.1).each x (List.mem_of_getElem? HX.out)).1
        have lv : x.vs.length ≤ 9223372036854775807 := ((HRD.out.below HW.out.1).each x (List.mem_of_getElem? HX.out)).2
        clear ca
        by_cases hlm : m < x.vs.length
        · have hlmz : (m : Int) < (x.vs.length : Int) := by omega
          have m0 : (0 : Int) ≤ (m : Int) := by omega
          obtain ⟨v, hv⟩ : ∃ f, x.vs[m]? = some f := ⟨x.vs[m], List.getElem?_eq_getElem hlm⟩
          have HV := Lib.hid hv
          have HDV := Lib.hid (drop_hd hv)
          clear hv
          obtain ⟨vn, vp, vst, vA, vC⟩ := v
          obtain ⟨gb, ob, hxA, hgb, cb⟩ := rv.row.at_ HV.out
          rw [hxA] at a1
          clear hxA
          have b1 : wi.cell? ⟨gb, ob + m * 3 + 1, none⟩ = some (.slice vA vst.length vC) := cb 1 _ rfl
          have HSV := Lib.hid (rv.each _ (List.mem_of_getElem? HV.out))
          obtain ⟨g2, d2, w3, hrun, hT, hb3⟩ := HW.out.2.1.rot.app Tryd.underlying86 infoSS (slS ⟨vn, vp, vst, vA, vC⟩) (by have := congrArg List.length HW.out.2.2.2.1; rw [List.length_append] at this; have := HL.out.2.1; omega) HW.out.1.size
          have HRUN := Lib.hid hrun
          have H3 : Hid (Below w1.heap.size w1 w3 ∧ Three w3 w1.heap.size 65 68 33 (some ⟨g1, 0, none⟩) d1 (L1 ++ [slV x]) (some ⟨g2, 0, none⟩) d2 (L2' ++ [slS ⟨vn, vp, vst, vA, vC⟩]) A3' c3' L3' ∧ (L1 ++ [slV x]) ++ VL (es.drop (k + 1)) = VL es ∧ (L2' ++ [slS ⟨vn, vp, vst, vA, vC⟩]) ++ ((x.vs.drop (m + 1)).map slS ++ SL (es.drop (k + 1))) = SL es ∧ L3' ++ (stN (vst.drop 0) ++ (veN (x.vs.drop (m + 1)) ++ NL (es.drop (k + 1)))) = NL es) := by
            obtain ⟨p1, p2, p3, p4, p5⟩ := HW.out
            rw [HDV.out] at p4 p5
            refine ⟨p1.trans hb3, hT.rot.rot, p3, by rw [List.append_assoc]; exact p4, ?_⟩
            rw [← p5, show veN (⟨vn, vp, vst, vA, vC⟩ :: x.vs.drop (m + 1)) = stN vst ++ veN (x.vs.drop (m + 1)) from rfl, List.append_assoc]
            rfl
          have HB3 : Hid (Below w1.heap.size w1 w3) := H3.out.1
          have HRS : Hid (∀ W, Below w1.heap.size w1 W → RdS W vA vst) := fun W hW => ((((HRD.out.below hW).each x (List.mem_of_getElem? HX.out)).1).each _ (List.mem_of_getElem? HV.out)).1
          have lst : vst.length ≤ 9223372036854775807 := HSV.out.2
          clear hrun hT hb3 cb rv HW HSV
          go_wp2_with (at_builtin; refine wpList_append_run rfl (.tmp 49) (.tmp 51) _ rfl rfl rfl HRUN.out ?_)
          clear HRUN e0 a1 b1
          go_loopw [7, 11] (fun d i wr => ∃ (j : Nat) (L3 : List Sl) (A3 : Option Addr) (c3 : Nat), d = .slice A3 L3.length c3 ∧ i = .int .i64 j ∧ j ≤ vst.length ∧ Hid (Below w1.heap.size w1 wr ∧ Three wr w1.heap.size 65 68 33 (some ⟨g1, 0, none⟩) d1 (L1 ++ [slV x]) (some ⟨g2, 0, none⟩) d2 (L2' ++ [slS ⟨vn, vp, vst, vA, vC⟩]) A3 c3 L3 ∧ (L1 ++ [slV x]) ++ VL (es.drop (k + 1)) = VL es ∧ (L2' ++ [slS ⟨vn, vp, vst, vA, vC⟩]) ++ ((x.vs.drop (m + 1)).map slS ++ SL (es.drop (k + 1))) = SL es ∧ L3 ++ (stN (vst.drop j) ++ (veN (x.vs.drop (m + 1)) ++ NL (es.drop (k + 1)))) = NL es)) (fun _ i _ => vst.length - (intOf i).toNat)
          case atStart => exact ⟨0, L3', A3', c3', rfl, rfl, Nat.zero_le _, H3⟩
          case round =>
            clear H3 HB3
            obtain ⟨j, L3q, A3q, c3q, rfl, rfl, hj, HW⟩ := hrel
            obtain ⟨wj, rfl⟩ : ∃ wj : World, wj = wr := ⟨_, rfl⟩
            by_cases hlj : j < vst.length
            · have hljz : (j : Int) < (vst.length : Int) := by omega
              have j0 : (0 : Int) ≤ (j : Int) := by omega
              obtain ⟨s, hs⟩ : ∃ f, vst[j]? = some f := ⟨vst[j], List.getElem?_eq_getElem hlj⟩
              have HDS := Lib.hid (drop_hd hs)
              obtain ⟨gc, oc, rfl, hgc, cc⟩ := (HRS.out wj HW.out.1).row.at_ hs
              have lnn : s.s.v.length ≤ 9223372036854775807 := ((HRS.out wj HW.out.1).each s (List.mem_of_getElem? hs)).2
              have c6 : wj.cell? ⟨gc, oc + j * 8 + 6, none⟩ = some (.slice s.A s.s.v.length s.c) := cc 6 _ rfl
              clear cc hs
              by_cases hz : s.s.v.length = 0
              · have hzz : ¬ (0 : Int) < (s.s.v.length : Int) := by omega
                go_wp2
                go_roundw
                case rel =>
                  refine ⟨j + 1, L3q, A3q, c3q, rfl, by go_num, by omega, ?_⟩
                  obtain ⟨p1, p2, p3, p4, p5⟩ := HW.out
                  rw [HDS.out] at p5
                  unfold stN at p5
                  rw [if_pos hz] at p5
                  exact ⟨p1, p2, p3, p4, p5⟩
                case measure => simp [intOf]; omega
              · have hzz : (0 : Int) < (s.s.v.length : Int) := by omega
                obtain ⟨g3, d3, w4, hrun, hT, hb4⟩ := HW.out.2.1.rot.rot.app Tryd.underlying87 infoSN (slN s) (by have := congrArg List.length HW.out.2.2.2.2; rw [List.length_append] at this; have := HL.out.2.2; omega) HW.out.1.size
                have HRUN := Lib.hid hrun
                have H4 : Hid (Below w1.heap.size w1 w4 ∧ Three w4 w1.heap.size 65 68 33 (some ⟨g1, 0, none⟩) d1 (L1 ++ [slV x]) (some ⟨g2, 0, none⟩) d2 (L2' ++ [slS ⟨vn, vp, vst, some ⟨gc, oc, none⟩, vC⟩]) (some ⟨g3, 0, none⟩) d3 (L3q ++ [slN s]) ∧ (L1 ++ [slV x]) ++ VL (es.drop (k + 1)) = VL es ∧ (L2' ++ [slS ⟨vn, vp, vst, some ⟨gc, oc, none⟩, vC⟩]) ++ ((x.vs.drop (m + 1)).map slS ++ SL (es.drop (k + 1))) = SL es ∧ (L3q ++ [slN s]) ++ (stN (vst.drop (j + 1)) ++ (veN (x.vs.drop (m + 1)) ++ NL (es.drop (k + 1)))) = NL es) := by
                  obtain ⟨p1, p2, p3, p4, p5⟩ := HW.out
                  rw [HDS.out] at p5
                  unfold stN at p5
                  rw [if_neg hz] at p5
                  exact ⟨p1.trans hb4, hT.rot, p3, p4, by rw [List.append_assoc]; exact p5⟩
                clear hrun hT hb4 HW
                go_wp2_with (at_builtin; refine wpList_append_run rfl (.tmp 66) (.tmp 72) _ rfl rfl rfl HRUN.out ?_)
                go_roundw
                case rel => exact ⟨j + 1, L3q ++ [slN s], some ⟨g3, 0, none⟩, d3, by simp, by go_num, by omega, H4⟩
                case measure => simp [intOf]; omega
            · have hge : ¬ (j : Int) < (vst.length : Int) := by omega
              go_wp2
              go_roundw
              case rel =>
                refine ⟨m + 1, L2' ++ [slS ⟨vn, vp, vst, vA, vC⟩], L3q, some ⟨g2, 0, none⟩, A3q, d2, c3q, by simp, rfl, by go_num, by omega, ?_⟩
                obtain ⟨p1, p2, p3, p4, p5⟩ := HW.out
                have e : vst.drop j = [] := List.drop_eq_nil_of_le (by omega)
                rw [e] at p5
                exact ⟨p1, p2, p3, p4, p5⟩
              case measure => simp [intOf]; omega
        · have hge : ¬ (m : Int) < (x.vs.length : Int) := by omega
          go_wp2
          go_roundw
          case rel =>
            refine ⟨k + 1, L1 ++ [slV x], L2', L3', some ⟨g1, 0, none⟩, A2', A3', d1, c2', c3', by simp, rfl, rfl, by go_num, by omega, ?_⟩
            obtain ⟨p1, p2, p3, p4, p5⟩ := HW.out
            have e : x.vs.drop m = [] := List.drop_eq_nil_of_le (by omega)
            rw [e] at p4 p5
            exact ⟨p1, p2, p3, p4, p5⟩
          case measure => simp [intOf]; omega
    · have hge : ¬ (k : Int) < (es.length : Int) := by omega
      have END : Hid (ListsAt w es (.returned (.tuple #[.slice A1 L1.length c1, .slice A2 L2.length c2, .slice A3 L3.length c3])) wo) := by
        obtain ⟨p1, p2, p3, p4, p5⟩ := HW.out
        have e : es.drop k = [] := List.drop_eq_nil_of_le (by omega)
        rw [e] at p3 p4 p5
        have q1 : L1 = VL es := by rw [← p3]; exact (List.append_nil _).symm
        have q2 : L2 = SL es := by rw [← p4]; exact (List.append_nil _).symm
        have q3 : L3 = NL es := by rw [← p5]; exact (List.append_nil _).symm
        obtain ⟨r1, r2⟩ := HBW.out
        subst q1 q2 q3
        exact ⟨A1, c1, A2, c2, A3, c3, rfl, r1.trans (p1.mono (by omega)), p2.x.low (slLev _) (by omega), p2.y.low (slLev _) (by omega), p2.z.low (slLev _) (by omega), p2.xy, p2.xz, p2.yz⟩
      go_wp2
      exact bodyPost_ret (v := .tuple #[.slice A1 L1.length c1, .slice A2 L2.length c2, .slice A3 L3.length c3]) (results_three rfl _ _ _ _ _ rfl rfl rfl) rfl END.out
end Go.Proofs.YtbngelinfpaefaaDoor
/- The walk of marked: every list holds its own marks alone. -/
namespace Go.Proofs.YtbngelinfpaefaaDoor
open Go.RowKit

/-- a row of slices at an address, each list with its own marks -/
structure Mkd (K : Kd) (w : World) (A : Option Addr) (l : List Sl) : Prop where
  row : RdR Sl.C 1 w A l
  each : ∀ (i : Nat) (r : Sl), l[i]? = some r → Vw K w r.A r.n i ∧ r.n ≤ 3000000
  len : l.length ≤ 3000000
theorem Mkd.below {K : Kd} {w w' : World} {A : Option Addr} {l : List Sl} (h : Mkd K w A l) (hb : Below w.heap.size w w') : Mkd K w' A l :=
  ⟨h.row.below hb, fun i r hr => ⟨(h.each i r hr).1.keep hb.size fun b _ hlt => hb.block b hlt, (h.each i r hr).2⟩, h.len⟩
/-- a slice of it -/
theorem Mkd.at_ {K : Kd} {w : World} {A : Option Addr} {l : List Sl} (h : Mkd K w A l) {i : Nat} {r : Sl} (hr : l[i]? = some r) : ∃ g o, A = some ⟨g, o, none⟩ ∧ w.cell? ⟨g, o + i, none⟩ = some (.slice r.A r.n r.c) := by
  obtain ⟨g, o, e, _, hc⟩ := h.row.at_ hr
  refine ⟨g, o, e, ?_⟩
  have := hc 0 _ rfl
  rwa [Nat.mul_one, Nat.add_zero] at this
/-- a mark in it -/
theorem Mkd.mark {K : Kd} {w : World} {A : Option Addr} {l : List Sl} (h : Mkd K w A l) {i q : Nat} {r : Sl} (hr : l[i]? = some r) (hq : q < r.n) {j : Nat} {v : Value} (hv : (K.me i)[j]? = some v) : ∃ g, r.A = some ⟨g, 0, none⟩ ∧ w.cell? ⟨g, q * K.s + j, none⟩ = some v := by
  rcases (h.each i r hr).1 with z | ⟨g, e, _, hc⟩
  · omega
  · exact ⟨g, e, hc q hq j v hv⟩

set_option maxRecDepth 100000 in
set_option maxHeartbeats 8000000 in
theorem marked_any {w : World} {An As Av : Option Addr} {cn cs cv : Nat} {N S V : List Sl} (hN : Mkd KN w An N) (hS : Mkd KS w As S) (hV : Mkd KV w Av V) :
    Calls Tryd.prog 39 #[.slice An N.length cn, .slice As S.length cs, .slice Av V.length cv] w fun e w' => e = .returned (.bool true) ∧ w = w' := by
  have lN := hN.len
  have lS := hS.len
  have lV := hV.len
  have HN := Lib.hid hN
  have HS := Lib.hid hS
  have HV := Lib.hid hV
  clear hN hS hV
  go_enter Tryd.func39, Tryd.ntmps39
  go_wp2
  go_loopw [7] (fun i wr => Hid (w = wr) ∧ ∃ k : Nat, i = .int .i64 k ∧ k ≤ N.length) (fun i _ => N.length - (intOf i).toNat)
  case atStart => exact ⟨Lib.hid rfl, 0, rfl, Nat.zero_le _⟩
  case round =>
    obtain ⟨he, k, rfl, hk⟩ := hrel
    obtain rfl := he.out
    by_cases hlt : k < N.length
    · have hltz : (k : Int) < (N.length : Int) := by omega
      have k0 : (0 : Int) ≤ (k : Int) := by omega
      have k1 : (k : Int) ≤ 3000000 := by omega
      obtain ⟨r, hr⟩ : ∃ f, N[k]? = some f := ⟨N[k], List.getElem?_eq_getElem hlt⟩
      have HR := Lib.hid hr
      obtain ⟨g, o, rfl, e2⟩ := HN.out.at_ hr
      have lr := (HN.out.each k r hr).2
      clear hr
      go_wp2
      go_loopw [8] (fun i wr => Hid (w = wr) ∧ ∃ m : Nat, i = .int .i64 m ∧ m ≤ r.n) (fun i _ => r.n - (intOf i).toNat)
      case atStart => exact ⟨Lib.hid rfl, 0, rfl, Nat.zero_le _⟩
      case round =>
        obtain ⟨he2, m, rfl, hm⟩ := hrel
        obtain rfl := he2.out
        by_cases hlm : m < r.n
        · have hlmz : (m : Int) < (r.n : Int) := by omega
          have m0 : (0 : Int) ≤ (m : Int) := by omega
          obtain ⟨g2, f1, f2⟩ := HN.out.mark HR.out hlm (j := 0) rfl
          replace f2 : w.cell? ⟨g2, m * 5, none⟩ = some (.int .i64 (1000 + (k : Int))) := f2
          rw [f1] at e2
          go_wp2
          go_roundw
          case rel => exact ⟨Lib.hid trivial, m + 1, by go_num, by omega⟩
          case measure => simp [intOf]; omega
        · have hge : ¬ (m : Int) < (r.n : Int) := by omega
          go_wp2
          go_roundw
          case rel => exact ⟨Lib.hid trivial, k + 1, by go_num, by omega⟩
          case measure => simp [intOf]; omega
    · have hge : ¬ (k : Int) < (N.length : Int) := by omega
      clear hlt hk
      go_wp2
      go_loopw [9] (fun i wr => Hid (w = wr) ∧ ∃ k : Nat, i = .int .i64 k ∧ k ≤ S.length) (fun i _ => S.length - (intOf i).toNat)
      case atStart => exact ⟨Lib.hid rfl, 0, rfl, Nat.zero_le _⟩
      case round =>
        obtain ⟨he, k, rfl, hk⟩ := hrel
        obtain rfl := he.out
        by_cases hlt : k < S.length
        · have hltz : (k : Int) < (S.length : Int) := by omega
          have k0 : (0 : Int) ≤ (k : Int) := by omega
          have k1 : (k : Int) ≤ 3000000 := by omega
          obtain ⟨r, hr⟩ : ∃ f, S[k]? = some f := ⟨S[k], List.getElem?_eq_getElem hlt⟩
          have HR := Lib.hid hr
          obtain ⟨g, o, rfl, e2⟩ := HS.out.at_ hr
          have lr := (HS.out.each k r hr).2
          clear hr
          go_wp2
          go_loopw [10] (fun i wr => Hid (w = wr) ∧ ∃ m : Nat, i = .int .i64 m ∧ m ≤ r.n) (fun i _ => r.n - (intOf i).toNat)
          case atStart => exact ⟨Lib.hid rfl, 0, rfl, Nat.zero_le _⟩
          case round =>
            obtain ⟨he2, m, rfl, hm⟩ := hrel
            obtain rfl := he2.out
            by_cases hlm : m < r.n
            · have hlmz : (m : Int) < (r.n : Int) := by omega
              have m0 : (0 : Int) ≤ (m : Int) := by omega
              obtain ⟨g2, f1, f2⟩ := HS.out.mark HR.out hlm (j := 0) rfl
              replace f2 : w.cell? ⟨g2, m * 8, none⟩ = some (.int .i64 (1000 + (k : Int))) := f2
              rw [f1] at e2
              go_wp2
              go_roundw
              case rel => exact ⟨Lib.hid trivial, m + 1, by go_num, by omega⟩
              case measure => simp [intOf]; omega
            · have hge2 : ¬ (m : Int) < (r.n : Int) := by omega
              go_wp2
              go_roundw
              case rel => exact ⟨Lib.hid trivial, k + 1, by go_num, by omega⟩
              case measure => simp [intOf]; omega
        · have hge2 : ¬ (k : Int) < (S.length : Int) := by omega
          clear hlt hk
          go_wp2
          go_loopw [11] (fun i wr => Hid (w = wr) ∧ ∃ k : Nat, i = .int .i64 k ∧ k ≤ V.length) (fun i _ => V.length - (intOf i).toNat)
          case atStart => exact ⟨Lib.hid rfl, 0, rfl, Nat.zero_le _⟩
          case round =>
            obtain ⟨he, k, rfl, hk⟩ := hrel
            obtain rfl := he.out
            by_cases hlt : k < V.length
            · have hltz : (k : Int) < (V.length : Int) := by omega
              have k0 : (0 : Int) ≤ (k : Int) := by omega
              have k1 : (k : Int) ≤ 3000000 := by omega
              obtain ⟨r, hr⟩ : ∃ f, V[k]? = some f := ⟨V[k], List.getElem?_eq_getElem hlt⟩
              have HR := Lib.hid hr
              obtain ⟨g, o, rfl, e2⟩ := HV.out.at_ hr
              have lr := (HV.out.each k r hr).2
              clear hr
              go_wp2
              go_loopw [12] (fun i wr => Hid (w = wr) ∧ ∃ m : Nat, i = .int .i64 m ∧ m ≤ r.n) (fun i _ => r.n - (intOf i).toNat)
              case atStart => exact ⟨Lib.hid rfl, 0, rfl, Nat.zero_le _⟩
              case round =>
                obtain ⟨he2, m, rfl, hm⟩ := hrel
                obtain rfl := he2.out
                by_cases hlm : m < r.n
                · have hlmz : (m : Int) < (r.n : Int) := by omega
                  have m0 : (0 : Int) ≤ (m : Int) := by omega
                  obtain ⟨g2, f1, f2⟩ := HV.out.mark HR.out hlm (j := 2) rfl
                  replace f2 : w.cell? ⟨g2, m * 3 + 2, none⟩ = some (.int .i64 (1000 + (k : Int))) := f2
                  rw [f1] at e2
                  go_wp2
                  go_roundw
                  case rel => exact ⟨Lib.hid trivial, m + 1, by go_num, by omega⟩
                  case measure => simp [intOf]; omega
                · have hge3 : ¬ (m : Int) < (r.n : Int) := by omega
                  go_wp2
                  go_roundw
                  case rel => exact ⟨Lib.hid trivial, k + 1, by go_num, by omega⟩
                  case measure => simp [intOf]; omega
            · have hge3 : ¬ (k : Int) < (V.length : Int) := by omega
              clear hlt hk
              go_wp2
              go_ret
              exact ⟨rfl, rfl⟩
end Go.Proofs.YtbngelinfpaefaaDoor
/- The stages of apart: lists filled with marks, lists grown. No walk here. -/
namespace Go.Proofs.YtbngelinfpaefaaDoor
open Go.RowKit

theorem RdR.sl {w : World} {A : Option Addr} {l : List Sl} (h : RdR Sl.C 1 w A l) {i : Nat} {r : Sl} (hr : l[i]? = some r) : ∃ g o, A = some ⟨g, o, none⟩ ∧ w.cell? ⟨g, o + i, none⟩ = some (.slice r.A r.n r.c) := by
  obtain ⟨g, o, e, _, hc⟩ := h.at_ hr
  refine ⟨g, o, e, ?_⟩
  have := hc 0 _ rfl
  rwa [Nat.mul_one, Nat.add_zero] at this
theorem sl_rd {T : TypeId} {w : World} {B : Nat} {A : Option Addr} {c : Nat} {l : List Sl} (h : Built (SlLev T) w B A c l) : RdR Sl.C 1 w A l := RdR.of_own (s := 1) (fun _ => rfl) h.own
/-- a row of slices, a whole row of them behind it -/
theorem run_app_sls {w : World} {B : Nat} {T t : TypeId} {A A2 : Option Addr} {c c2 : Nat} {l l2 : List Sl} (h : Built (SlLev T) w B A c l) (h2 : RdR Sl.C 1 w A2 l2) (ht : Tryd.prog.underlying t = some (.slice T)) (hi : (Tryd.prog.info? T).map (fun i => (i.zero, i.size, i.bytes)) = some (some (.slice none 0 0), 1, 24)) (hl : l.length + l2.length ≤ 2000000) (hB : B ≤ w.heap.size) :
    ∃ A' c' w', (Builtin.append_ #[t, t] t #[.slice A l.length c, .slice A2 l2.length c2]).run Tryd.prog w = .ok (.slice A' (l ++ l2).length c') w' ∧ Built (SlLev T) w' B A' c' (l ++ l2) ∧ (∀ k, obk A' = some k → obk A = some k ∨ w.heap.size ≤ k) ∧ w.grownBy w' (obk A) := by
  obtain ⟨i, hi, hz, hs, hb⟩ := info_three hi
  have hln : (l ++ l2).length = l.length + l2.length := List.length_append
  have hfl : (flatR Sl.C l2).length = l2.length * 1 := flatR_len (f := Sl.C) (s := 1) (fun _ => rfl) l2
  have hfa : flatR Sl.C l ++ flatR Sl.C l2 = flatR Sl.C (l ++ l2) := by unfold flatR; rw [List.flatMap_append]
  have hown : w.ownsRow B T 1 (.slice A l.length c) l.length (flatR Sl.C l) := h.own
  have mkB : ∀ {w' : World} {A' : Option Addr} {c' : Nat}, w'.ownsRow B T 1 (.slice A' (l ++ l2).length c') (l ++ l2).length (flatR Sl.C (l ++ l2)) → Built (SlLev T) w' B A' c' (l ++ l2) := fun {w' A' c'} ho => ⟨ho, fun _ _ => trivial, by rw [sl_bls]; cases obk A' <;> simp⟩
  rcases A2 with _ | a
  · have e : l2 = [] := by
      rcases h2 with e | ⟨g, o, e, _⟩
      · exact e
      · cases e
    subst e
    refine ⟨A, c, w, ?_, by rw [List.append_nil]; exact h, fun k hk => .inl hk, ⟨rfl, rfl, rfl, Nat.le_refl _, fun _ _ _ => rfl⟩⟩
    rw [List.append_nil]
    exact run_append_nothing (P := Tryd.prog) B t t T i ht hi _ _ c2 _ hown
  · have hc : ∀ j u, (flatR Sl.C l2)[j]? = some u → w.cell? (a.add j) = some u := fun j u hu => by
      have hj : j < l2.length := by
        have := (List.getElem?_eq_some_iff.1 hu).1
        omega
      obtain ⟨r, hr⟩ : ∃ r, l2[j]? = some r := ⟨_, List.getElem?_eq_getElem hj⟩
      obtain ⟨g, o, e, hc⟩ := h2.sl hr
      cases e
      rw [Addr.add_lit, hc]
      have := flatR_at (f := Sl.C) (s := 1) (fun _ => rfl) l2 j r hr 0 (by decide)
      rw [Nat.mul_one, Nat.add_zero, hu] at this
      exact this.symm
    obtain ⟨v', w', hr, ho, hg, _, h5⟩ := run_append_own_at (P := Tryd.prog) w B t t T i _ 1 24 ht hi hz hs hb rfl (by decide) _ l.length (flatR Sl.C l) hown a l2.length c2 (flatR Sl.C l2) hfl hc
      (fun u hu => by
        unfold flatR at hu
        obtain ⟨x, _, hx⟩ := List.mem_flatMap.1 hu
        exact (slLev T).one x u hx) (by simp only [maxLen]; omega) (by omega) hB
    rw [hfa, ← hln] at ho
    rcases ho.2 with ⟨rfl, h0⟩ | ⟨g, cap, cur, rfl, rest⟩
    · refine ⟨none, 0, w', by rw [hr, h0], mkB (by rw [h0] at ho ⊢; exact ho), nofun, ?_⟩
      rw [obk_own] at hg
      exact hg
    · refine ⟨some ⟨g, 0, none⟩, cap, w', hr, mkB ho, fun k hk => ?_, ?_⟩
      · have e : g = k := Option.some.inj hk
        subst e
        rw [obk_own] at h5
        rcases h5 with h5 | h5
        · exact .inl ((obk_own A l.length c).symm.trans h5.symm)
        · have e : g = w.heap.size := Option.some.inj h5
          exact .inr (by omega)
      · rw [obk_own] at hg
        exact hg

/-! ### lists filled -/
structure FillSt (K : Kd) (a w : World) (L : List Sl) (i k : Nat) : Prop where
  on : On (Bs L) a w
  fil : ∀ (j : Nat) (r : Sl), L[j]? = some r → Fil K w 0 r j (if j < i then r.n else if j = i then k else 0)
section
variable {K : Kd} {a b w w2 : World} {L : List Sl} {i k : Nat}
theorem FillSt.start (h : ∀ r ∈ L, ∀ m, Fil K a 0 r m 0) : FillSt K a a L 0 0 := ⟨On.refl _ _, fun j r hr => by
  rw [if_neg (Nat.not_lt_zero _)]
  split <;> exact h r (List.mem_of_getElem? hr) _⟩
theorem FillSt.here (h : FillSt K a w L i k) {r : Sl} (hr : L[i]? = some r) : Fil K w 0 r i k := by
  have := h.fil i r hr
  rwa [if_neg (Nat.lt_irrefl _), if_pos rfl] at this
theorem FillSt.step (h : FillSt K a w L i k) {r : Sl} {g : Nat} (hr : L[i]? = some r) (hA : r.A = some ⟨g, 0, none⟩) (hAp : Ap L) (hF : Fil K w2 0 r i (k + 1)) (t : Turned g w w2) : FillSt K a w2 L i (k + 1) := by
  have hbs : Bs L g := ⟨r, List.mem_of_getElem? hr, by rw [hA]; rfl⟩
  refine ⟨h.on.trans (On.of_grown t.grown fun x hx _ => by cases hx; exact hbs), fun j r' hr' => ?_⟩
  by_cases e : j = i
  · subst e
    rw [hr] at hr'
    cases hr'
    rw [if_neg (Nat.lt_irrefl _), if_pos rfl]
    exact hF
  · have := h.fil j r' hr'
    rw [if_neg e] at this ⊢
    refine this.keep fun x hx => t.others x fun z => ?_
    subst z
    exact hAp j i r' r hr' hr e _ hx (by rw [hA]; rfl)
theorem FillSt.next (h : FillSt K a w L i k) {r : Sl} (hr : L[i]? = some r) (hk : k = r.n) : FillSt K a w L (i + 1) 0 := ⟨h.on, fun j r' hr' => by
  have := h.fil j r' hr'
  by_cases e : j = i
  · subst e
    rw [hr] at hr'
    cases hr'
    rw [if_neg (Nat.lt_irrefl _), if_pos rfl, hk] at this
    rw [if_pos (Nat.lt_succ_self _)]
    exact this
  · by_cases z : j < i
    · rw [if_pos z] at this
      rw [if_pos (by omega)]
      exact this
    · rw [if_neg (by omega)]
      have f0 : Fil K w 0 r' j 0 := this.none_ j
      split <;> exact f0⟩
theorem FillSt.done (h : FillSt K a w L i k) (hi : L.length ≤ i) {j : Nat} {r : Sl} (hr : L[j]? = some r) : Fil K w 0 r j r.n := by
  have := h.fil j r hr
  have hj := (List.getElem?_eq_some_iff.1 hr).1
  rwa [if_pos (by omega)] at this

/-! ### lists grown -/
structure GrowIn (K : Kd) (b w : World) (r : Sl) (i k : Nat) (g : Sl) : Prop where
  n : g.n = r.n + k
  fil : Fil K w 0 g i g.n
  blk : ∀ x, obk g.A = some x → obk r.A = some x ∨ b.heap.size ≤ x
  gr : b.grownBy w (obk r.A)
  vw : Vw K w r.A r.n i
theorem GrowIn.start {r : Sl} (h : Fil K b 0 r i r.n) : GrowIn K b b r i 0 r := ⟨rfl, h, fun _ hx => .inl hx, below_grown (Below.refl _ b) _, h.view⟩
theorem GrowIn.step (hK : K.Ok) {t : TypeId} {z : Value} {bytes : Nat} (ht : Tryd.prog.underlying t = some (.slice K.T)) (hi : (Tryd.prog.info? K.T).map (fun i => (i.zero, i.size, i.bytes)) = some (some z, K.s, bytes)) (hzs : z.cells.size = K.s) (hbs : bytes ≤ 1000) {r g : Sl} (h : GrowIn K b w r i k g) (hl : g.n ≤ 3000000) :
    ∃ q c' w', (Builtin.append_ #[t, t] t #[.slice g.A g.n g.c, .slice (some ⟨w.heap.size, 0, none⟩) 1 1]).run Tryd.prog (w.alloc (.cells (K.me i) K.T)) = .ok (.slice (some ⟨q, 0, none⟩) (g.n + 1) c') w' ∧ GrowIn K b w' r i (k + 1) ⟨some ⟨q, 0, none⟩, g.n + 1, c'⟩ := by
  obtain ⟨inf, hi, hz, hs, hby⟩ := info_three hi
  obtain ⟨q, c', w', hr, hf, hat, hg, hv⟩ := run_app_fil (P := Tryd.prog) (m := i) hK t inf z bytes ht hi hz hs hby hzs hbs h.fil hl (Nat.zero_le _)
  have hsz := h.gr.size
  refine ⟨q, c', w', hr, by show g.n + 1 = _; rw [h.n]; omega, hf, fun x hx => ?_, ?_, ?_⟩
  · have e : q = x := Option.some.inj hx
    subst e
    rcases hat with y | y
    · exact h.blk _ y
    · exact .inr (by omega)
  · refine ⟨hg.os.trans h.gr.os, hg.tape.trans h.gr.tape, hg.output.trans h.gr.output, Nat.le_trans h.gr.size hg.size, fun x hx hne => ?_⟩
    refine (hg.block x (Nat.lt_of_lt_of_le hx hsz) fun e => ?_).trans (h.gr.block x hx hne)
    rcases h.blk x e.symm with y | y
    · exact hne y.symm
    · omega
  · rcases h.vw with y | ⟨g0, e0, hg0, hc0⟩
    · exact .inl y
    by_cases e : obk g.A = some g0
    · by_cases hn0 : r.n = 0
      · exact .inl hn0
      obtain ⟨g1, e1, _, _⟩ := h.fil.form (by rw [h.n]; omega)
      have e2 : g.A = r.A := by
        rw [e1] at e
        have : g1 = g0 := Option.some.inj e
        rw [e1, e0, this]
      rw [← e2]
      exact hv r.n (by rw [h.n]; omega) (by rw [e2]; exact .inr ⟨g0, e0, hg0, hc0⟩)
    · refine Vw.keep (.inr ⟨g0, e0, hg0, hc0⟩) hg.size fun x hx hlt => grown_keep hg hlt fun y => e ?_
      rw [e0] at hx
      have : g0 = x := Option.some.inj hx
      rw [y, this]
structure GrowSt (K : Kd) (T : TypeId) (a w : World) (L : List Sl) (i : Nat) (A : Option Addr) (c : Nat) (G : List Sl) : Prop where
  on : On (Bs L) a w
  row : Built (SlLev T) w a.heap.size A c G
  len : G.length = i
  fil : ∀ (j : Nat) (r : Sl), L[j]? = some r → i ≤ j → Fil K w 0 r j r.n
  vw : ∀ (j : Nat) (r : Sl), L[j]? = some r → Vw K w r.A r.n j
  new : ∀ (j : Nat) (r g : Sl), L[j]? = some r → G[j]? = some g → g.n = r.n + 8 ∧ Vw K w g.A g.n j ∧ ∀ x, obk g.A = some x → (obk r.A = some x ∨ a.heap.size ≤ x) ∧ x < w.heap.size ∧ obk A ≠ some x
theorem GrowSt.start {T : TypeId} (h : ∀ (j : Nat) (r : Sl), L[j]? = some r → Fil K a 0 r j r.n) : GrowSt K T a a L 0 none 0 [] := ⟨On.refl _ _, Built.nil _ _ _, rfl, fun j r hr _ => h j r hr, fun j r hr => (h j r hr).view, fun j r g _ hg => by cases hg⟩
theorem GrowSt.app {T t : TypeId} {A : Option Addr} {c : Nat} {G : List Sl} (h : GrowSt K T a b L i A c G) {r g : Sl} (hr : L[i]? = some r) (hAp : Ap L) (hlow : ∀ x, Bs L x → x < a.heap.size) (hG : GrowIn K b w r i 8 g) (ht : Tryd.prog.underlying t = some (.slice T)) (hi : (Tryd.prog.info? T).map (fun i => (i.zero, i.size, i.bytes)) = some (some (.slice none 0 0), 1, 24)) (hl : i ≤ 2000000) :
    ∃ q c' w', (Builtin.append_ #[t, t] t #[.slice A G.length c, .slice (some ⟨w.heap.size, 0, none⟩) 1 1]).run Tryd.prog (w.alloc (.cells #[.slice g.A g.n g.c] T)) = .ok (.slice (some ⟨q, 0, none⟩) (G.length + 1) c') w' ∧ GrowSt K T a w' L (i + 1) (some ⟨q, 0, none⟩) c' (G ++ [g]) := by
  have hbl : ∀ x, obk r.A = some x → Bs L x := fun x hx => ⟨r, List.mem_of_getElem? hr, hx⟩
  have hab := h.on.size
  have hbw := hG.gr.size
  have hrow : Built (SlLev T) w a.heap.size A c G := sl_keep h.row fun x hx => grown_keep hG.gr (sl_bd h.row hx).2 fun e => by
    have := hlow x (hbl x e)
    have := (sl_bd h.row hx).1
    omega
  obtain ⟨q, c', w', hrun, hB, hat, hg⟩ := run_app_sl hrow ht hi g (by rw [h.len]; exact hl) (by omega)
  -- what is not the new row stands
  have keep : ∀ x, x < w.heap.size → obk A ≠ some x → w'.heap[x]? = w.heap[x]? := fun x hx hne => grown_keep hg hx hne
  have nA : ∀ x, Bs L x → obk A ≠ some x := fun x hx e => by
    have := hlow x hx
    have := (sl_bd h.row e).1
    omega
  have apart : ∀ (j : Nat) (r' : Sl), L[j]? = some r' → j ≠ i → ∀ x, obk r'.A = some x → obk r.A ≠ some x := fun j r' hr' hne x hx => hAp j i r' r hr' hr hne x hx
  have gsz := hg.size
  refine ⟨q, c', w', hrun, ⟨⟨hg.os.trans (hG.gr.os.trans h.on.os), hg.tape.trans (hG.gr.tape.trans h.on.tape), hg.output.trans (hG.gr.output.trans h.on.output), by omega, fun x hx hne => ?_⟩, ?_, by rw [List.length_append, h.len]; rfl, fun j r' hr' hj => ?_, fun j r' hr' => ?_, fun j r' g' hr' hg' => ?_⟩⟩
  · rw [keep x (by omega) fun e => by have := (sl_bd h.row e).1; omega]
    rw [grown_keep hG.gr (by omega) fun e => hne (hbl x e)]
    exact h.on.block x hx hne
  · exact hB
  · have hf := h.fil j r' hr' (by omega)
    have hf2 : Fil K w 0 r' j r'.n := hf.keep fun x hx => grown_keep hG.gr (hf.bd hx).2 (apart j r' hr' (by omega) x hx)
    exact hf2.keep fun x hx => keep x (hf2.bd hx).2 (nA x ⟨r', List.mem_of_getElem? hr', hx⟩)
  · have hw : Vw K w r'.A r'.n j := by
      by_cases e : j = i
      · subst e
        rw [hr] at hr'
        cases hr'
        exact hG.vw
      · exact (h.vw j r' hr').keep hbw fun x hx hlt => grown_keep hG.gr hlt (apart j r' hr' e x hx)
    exact hw.keep gsz fun x hx hlt => keep x hlt (nA x ⟨r', List.mem_of_getElem? hr', hx⟩)
  · have hql : ∀ x, x < w.heap.size → obk A ≠ some x → obk (some (⟨q, 0, none⟩ : Addr)) ≠ some x := fun x hx hne e => by
      have e2 : q = x := Option.some.inj e
      subst e2
      rcases hat with y | y
      · exact hne y
      · omega
    by_cases e : j = i
    · subst e
      rw [hr] at hr'
      cases hr'
      rw [List.getElem?_append_right (by rw [h.len]; exact Nat.le_refl _), h.len, Nat.sub_self, List.getElem?_cons_zero] at hg'
      cases hg'
      have nx : ∀ x, obk g.A = some x → obk A ≠ some x := fun x hx y => by
        rcases hG.blk x hx with z | z
        · exact nA x (hbl x z) y
        · have := (sl_bd h.row y).2; omega
      refine ⟨hG.n, hG.fil.view.keep gsz fun x hx hlt => keep x hlt (nx x hx), fun x hx => ⟨?_, ?_, ?_⟩⟩
      · rcases hG.blk x hx with z | z
        · exact .inl z
        · exact .inr (by omega)
      · have := (hG.fil.bd hx).2
        omega
      · exact hql x (hG.fil.bd hx).2 (nx x hx)
    · have hj : j < G.length := by
        have := (List.getElem?_eq_some_iff.1 hg').1
        rw [List.length_append] at this
        have e1 : ([g] : List Sl).length = 1 := rfl
        have := h.len
        omega
      rw [List.getElem?_append_left hj] at hg'
      obtain ⟨n1, n2, n3⟩ := h.new j r' g' hr' hg'
      have hr0 : ∀ x, obk g'.A = some x → obk r.A ≠ some x := fun x hx y => by
        rcases (n3 x hx).1 with z | z
        · exact apart j r' hr' e x z y
        · have := hlow x (hbl x y); omega
      have hw : Vw K w g'.A g'.n j := n2.keep hbw fun x hx hlt => grown_keep hG.gr hlt (hr0 x hx)
      refine ⟨n1, hw.keep gsz fun x hx hlt => keep x hlt (n3 x hx).2.2, fun x hx => ⟨(n3 x hx).1, ?_, ?_⟩⟩
      · have := (n3 x hx).2.1
        omega
      · exact hql x (by have := (n3 x hx).2.1; omega) (n3 x hx).2.2
/-- what has been grown -/
theorem GrowSt.done {T : TypeId} {A : Option Addr} {c : Nat} {G : List Sl} (h : GrowSt K T a w L i A c G) (hi : i = L.length) (hl : i ≤ 2000000) (hn : ∀ r ∈ L, r.n ≤ 2000000) : Mkd K w A G ∧ (∀ x, obk A = some x → a.heap.size ≤ x) ∧ ∀ g ∈ G, ∀ x, obk g.A = some x → Bs L x ∨ a.heap.size ≤ x := by
  have hj : ∀ (j : Nat) (g : Sl), G[j]? = some g → ∃ r, L[j]? = some r := fun j g hg => ⟨_, List.getElem?_eq_getElem (by have := (List.getElem?_eq_some_iff.1 hg).1; have := h.len; omega)⟩
  refine ⟨⟨sl_rd h.row, fun j g hg => ?_, by rw [h.len]; omega⟩, fun x hx => (sl_bd h.row hx).1, fun g hg x hx => ?_⟩
  · obtain ⟨r, hr⟩ := hj j g hg
    obtain ⟨n1, n2, _⟩ := h.new j r g hr hg
    have := hn r (List.mem_of_getElem? hr)
    exact ⟨n2, by omega⟩
  · obtain ⟨j, hg⟩ := List.getElem?_of_mem hg
    obtain ⟨r, hr⟩ := hj j g hg
    rcases ((h.new j r g hr hg).2.2 x hx).1 with z | z
    · exact .inl ⟨r, List.mem_of_getElem? hr, z⟩
    · exact .inr z
/-- marks where only other blocks are written -/
theorem Mkd.on {P : Nat → Prop} {A : Option Addr} {l : List Sl} (h : Mkd K w A l) (on : On P w w2) (hA : ∀ x, obk A = some x → ¬ P x) (hl : ∀ r ∈ l, ∀ x, obk r.A = some x → ¬ P x) : Mkd K w2 A l := by
  refine ⟨?_, fun i r hr => ⟨(h.each i r hr).1.keep on.size fun x hx hlt => on.block x hlt (hl r (List.mem_of_getElem? hr) x hx), (h.each i r hr).2⟩, h.len⟩
  rcases h.row with e | ⟨g, o, rfl, hg, hc⟩
  · exact .inl e
  · exact .inr ⟨g, o, rfl, Nat.lt_of_lt_of_le hg on.size, fun i x hx j v hv => (World.cell?_of_block (w := w) (on.block g hg (hA g rfl))).trans (hc i x hx j v hv)⟩
theorem RdR.on {P : Nat → Prop} {A : Option Addr} {l : List Sl} (h : RdR Sl.C 1 w A l) (on : On P w w2) (hA : ∀ x, obk A = some x → ¬ P x) : RdR Sl.C 1 w2 A l := by
  rcases h with e | ⟨g, o, rfl, hg, hc⟩
  · exact .inl e
  · exact .inr ⟨g, o, rfl, Nat.lt_of_lt_of_le hg on.size, fun i x hx j v hv => (World.cell?_of_block (w := w) (on.block g hg (hA g rfl))).trans (hc i x hx j v hv)⟩
end
end Go.Proofs.YtbngelinfpaefaaDoor
/- The rows of two trees put one behind the other; what apart walks on. No walk here. -/
namespace Go.Proofs.YtbngelinfpaefaaDoor
open Go.RowKit

theorem apart_rows {w2 w3 : World} {W0 : Nat} {A1 A2 A3 B1 B2 B3 : Option Addr} {c1 c2 c3 d1 d2 d3 : Nat} {v s n v' s' n' : List Sl}
    (h2 : Three w2 W0 65 68 33 A1 c1 v A2 c2 s A3 c3 n) (hW : W0 ≤ w2.heap.size) (hb : Below w2.heap.size w2 w3)
    (h3 : Three w3 w2.heap.size 65 68 33 B1 d1 v' B2 d2 s' B3 d3 n') (lv : (v ++ v').length ≤ 2000000) (ls : (s ++ s').length ≤ 2000000) (ln : (n ++ n').length ≤ 2000000) :
    ∃ E1 e1 w4, Hid ((Builtin.append_ #[85, 85] 85 #[.slice A1 v.length c1, .slice B1 v'.length d1]).run Tryd.prog w3 = .ok (.slice E1 (v ++ v').length e1) w4) ∧
    ∃ E2 e2 w5, Hid ((Builtin.append_ #[86, 86] 86 #[.slice A2 s.length c2, .slice B2 s'.length d2]).run Tryd.prog w4 = .ok (.slice E2 (s ++ s').length e2) w5) ∧
    ∃ E3 e3 w6, Hid ((Builtin.append_ #[87, 87] 87 #[.slice A3 n.length c3, .slice B3 n'.length d3]).run Tryd.prog w5 = .ok (.slice E3 (n ++ n').length e3) w6) ∧
    Hid (RdR Sl.C 1 w6 E1 (v ++ v') ∧ RdR Sl.C 1 w6 E2 (s ++ s') ∧ RdR Sl.C 1 w6 E3 (n ++ n') ∧ (∀ x, obk E1 = some x → W0 ≤ x) ∧ (∀ x, obk E2 = some x → W0 ≤ x) ∧ (∀ x, obk E3 = some x → W0 ≤ x) ∧ Below W0 w2 w6) := by
  have k2 := h2.keep hb
  have sz := hb.size
  simp only [List.length_append] at lv ls ln
  obtain ⟨E1, e1, w4, r4, b4, a4, g4⟩ := run_app_sls (t := 85) (c2 := d1) k2.x (sl_rd h3.x) Tryd.underlying85 infoSV lv (by omega)
  have s4 := g4.size
  have q2 : Built (SlLev 68) w4 W0 A2 c2 s := sl_keep k2.y fun b hb => grown_keep g4 (sl_bd k2.y hb).2 fun e => k2.xy b e hb
  have q3 : Built (SlLev 33) w4 W0 A3 c3 n := sl_keep k2.z fun b hb => grown_keep g4 (sl_bd k2.z hb).2 fun e => k2.xz b e hb
  have old : ∀ b, obk A1 = some b → b < w2.heap.size := fun b hb => (sl_bd h2.x hb).2
  have old2 : ∀ b, obk A2 = some b → b < w2.heap.size := fun b hb => (sl_bd h2.y hb).2
  have old3 : ∀ b, obk A3 = some b → b < w2.heap.size := fun b hb => (sl_bd h2.z hb).2
  have p2 : Built (SlLev 68) w4 w2.heap.size B2 d2 s' := sl_keep h3.y fun b hb => grown_keep g4 (sl_bd h3.y hb).2 fun e => by
    have := old b e; have := (sl_bd h3.y hb).1; omega
  have p3 : Built (SlLev 33) w4 w2.heap.size B3 d3 n' := sl_keep h3.z fun b hb => grown_keep g4 (sl_bd h3.z hb).2 fun e => by
    have := old b e; have := (sl_bd h3.z hb).1; omega
  obtain ⟨E2, e2, w5, r5, b5, a5, g5⟩ := run_app_sls (t := 86) (c2 := d2) q2 (sl_rd p2) Tryd.underlying86 infoSS ls (by omega)
  have s5 := g5.size
  have q3' : Built (SlLev 33) w5 W0 A3 c3 n := sl_keep q3 fun b hb => grown_keep g5 (sl_bd q3 hb).2 fun e => k2.yz b e hb
  have p3' : Built (SlLev 33) w5 w2.heap.size B3 d3 n' := sl_keep p3 fun b hb => grown_keep g5 (sl_bd p3 hb).2 fun e => by
    have := old2 b e; have := (sl_bd p3 hb).1; omega
  obtain ⟨E3, e3, w6, r6, b6, a6, g6⟩ := run_app_sls (t := 87) (c2 := d3) q3' (sl_rd p3') Tryd.underlying87 infoSN ln (by omega)
  have s6 := g6.size
  have f1 : Built (SlLev 65) w5 W0 E1 e1 (v ++ v') := sl_keep b4 fun b hb => grown_keep g5 (sl_bd b4 hb).2 fun e => by
    rcases a4 b hb with y | y
    · exact k2.xy b y e
    · have := old2 b e; omega
  have f2 : Built (SlLev 65) w6 W0 E1 e1 (v ++ v') := sl_keep f1 fun b hb => grown_keep g6 (sl_bd f1 hb).2 fun e => by
    rcases a4 b hb with y | y
    · exact k2.xz b y e
    · have := old3 b e; omega
  have f3 : Built (SlLev 68) w6 W0 E2 e2 (s ++ s') := sl_keep b5 fun b hb => grown_keep g6 (sl_bd b5 hb).2 fun e => by
    rcases a5 b hb with y | y
    · exact k2.yz b y e
    · have := old3 b e; omega
  have nx : ∀ {a b : World} {row : Option Nat}, a.grownBy b row → (∀ x, row = some x → W0 ≤ x) → W0 ≤ a.heap.size → Below W0 a b := fun {a b row} g hr hs => ⟨g.os, g.tape, g.output, g.size, fun x hx => g.block x (by omega) fun e => by have := hr x e.symm; omega⟩
  refine ⟨E1, e1, w4, r4, E2, e2, w5, r5, E3, e3, w6, r6, sl_rd f2, sl_rd f3, sl_rd b6, fun x hx => (sl_bd f2 hx).1, fun x hx => (sl_bd f3 hx).1, fun x hx => (sl_bd b6 hx).1, ?_⟩
  exact (((hb.mono hW).trans (nx g4 (fun x hx => (sl_bd h2.x hx).1) (by omega))).trans (nx g5 (fun x hx => (sl_bd h2.y hx).1) (by omega))).trans (nx g6 (fun x hx => (sl_bd h2.z hx).1) (by omega))

/-! ### stages kept where other lists are written -/
def Full (K : Kd) (w : World) (L : List Sl) : Prop := ∀ (j : Nat) (r : Sl), L[j]? = some r → Fil K w 0 r j r.n
def Empt (K : Kd) (w : World) (L : List Sl) : Prop := ∀ r ∈ L, ∀ m, Fil K w 0 r m 0
section
variable {K : Kd} {w w2 : World} {L M : List Sl}
theorem Full.on (h : Full K w L) (hd : Dj L M) (on : On (Bs M) w w2) : Full K w2 L := fun j r hr => (h j r hr).keep fun b hb => on.block b ((h j r hr).bd hb).2 fun z => hd b ⟨r, List.mem_of_getElem? hr, hb⟩ z
theorem Empt.on (h : Empt K w L) (hd : Dj L M) (on : On (Bs M) w w2) : Empt K w2 L := fun r hr m => (h r hr m).keep fun b hb => on.block b ((h r hr m).bd hb).2 fun z => hd b ⟨r, hr, hb⟩ z
theorem Empt.below (h : Empt K w L) (hb : Below w.heap.size w w2) : Empt K w2 L := fun r hr m => (h r hr m).keep fun b hb' => hb.block b ((h r hr m).bd hb').2
theorem Dj.symm (h : Dj L M) : Dj M L := fun k a b => h k b a
end
/-- what apart walks on: the three rows, the lists in them, each by itself -/
structure Arena (w0 : Nat) (wa : World) (N S V : List Sl) (An As Av : Option Addr) : Prop where
  apN : Ap N
  apS : Ap S
  apV : Ap V
  ns : Dj N S
  nv : Dj N V
  sv : Dj S V
  lowN : ∀ x, Bs N x → x < w0
  lowS : ∀ x, Bs S x → x < w0
  lowV : ∀ x, Bs V x → x < w0
  rN : RdR Sl.C 1 wa An N
  rS : RdR Sl.C 1 wa As S
  rV : RdR Sl.C 1 wa Av V
  hN : ∀ x, obk An = some x → w0 ≤ x
  hS : ∀ x, obk As = some x → w0 ≤ x
  hV : ∀ x, obk Av = some x → w0 ≤ x
  w0 : w0 ≤ wa.heap.size
def AllP (N S V : List Sl) (x : Nat) : Prop := Bs N x ∨ Bs S x ∨ Bs V x
section
variable {w0 : Nat} {wa w w2 : World} {N S V : List Sl} {An As Av : Option Addr} (h : Arena w0 wa N S V An As Av)
include h
theorem Arena.low {x : Nat} (hx : AllP N S V x) : x < w0 := by
  rcases hx with y | y | y
  · exact h.lowN x y
  · exact h.lowS x y
  · exact h.lowV x y
theorem Arena.rdN (on : On (AllP N S V) wa w) : RdR Sl.C 1 w An N := h.rN.on on fun x hx hp => by have := h.hN x hx; have := h.low hp; omega
theorem Arena.rdS (on : On (AllP N S V) wa w) : RdR Sl.C 1 w As S := h.rS.on on fun x hx hp => by have := h.hS x hx; have := h.low hp; omega
theorem Arena.rdV (on : On (AllP N S V) wa w) : RdR Sl.C 1 w Av V := h.rV.on on fun x hx hp => by have := h.hV x hx; have := h.low hp; omega
end
theorem onN {N S V : List Sl} {a b : World} (h : On (Bs N) a b) : On (AllP N S V) a b := h.mono fun _ z => .inl z
theorem onS {N S V : List Sl} {a b : World} (h : On (Bs S) a b) : On (AllP N S V) a b := h.mono fun _ z => .inr (.inl z)
theorem onV {N S V : List Sl} {a b : World} (h : On (Bs V) a b) : On (AllP N S V) a b := h.mono fun _ z => .inr (.inr z)
/-- lists that have been grown: where their blocks may lie -/
structure Grw (K : Kd) (w0 : Nat) (w : World) (L : List Sl) (A : Option Addr) (G : List Sl) : Prop where
  m : Mkd K w A G
  hA : ∀ x, obk A = some x → w0 ≤ x
  hG : ∀ g ∈ G, ∀ x, obk g.A = some x → Bs L x ∨ w0 ≤ x
theorem Grw.on {K : Kd} {w0 : Nat} {w w2 : World} {L M : List Sl} {A : Option Addr} {G : List Sl} (h : Grw K w0 w L A G) (hd : Dj L M) (low : ∀ x, Bs M x → x < w0) (on : On (Bs M) w w2) : Grw K w0 w2 L A G :=
  ⟨h.m.on on (fun x hx hp => by have := h.hA x hx; have := low x hp; omega) fun r hr x hx hp => by
    rcases h.hG r hr x hx with y | y
    · exact hd x y hp
    · have := low x hp; omega, h.hA, h.hG⟩
/-- the lists themselves, full -/
structure Old (K : Kd) (w0 : Nat) (w : World) (L : List Sl) (A : Option Addr) : Prop where
  m : Mkd K w A L
  hA : ∀ x, obk A = some x → w0 ≤ x
theorem Old.on {K : Kd} {w0 : Nat} {w w2 : World} {L M : List Sl} {A : Option Addr} (h : Old K w0 w L A) (hd : Dj L M) (low : ∀ x, Bs M x → x < w0) (on : On (Bs M) w w2) : Old K w0 w2 L A :=
  ⟨h.m.on on (fun x hx hp => by have := h.hA x hx; have := low x hp; omega) fun r hr x hx hp => hd x ⟨r, hr, hx⟩ hp, h.hA⟩
end Go.Proofs.YtbngelinfpaefaaDoor
