/- The walk of PrintPlaces, whatever comes in. -/
import Derived.Test.YtdkcnepjjinpdaaDoorPrCopied
import Derived.Test.YtdkcnepjjinpdaaDoorPrMarked
import Derived.Test.YtdkcnepjjinpdaaDoorPrSch
import Derived.Test.YtdkcnepjjinpdaaDoorPrEq
import Derived.Test.YtdkcnepjjinpdaaDoorPrAw
namespace Go.Proofs.YtdkcnepjjinpdaaDoor
open Go.RowKit

def CnV (v : Mv) : Prop := v.st.length ≤ 65536 ∧ ∀ s ∈ v.st, s.s.v.length ≤ 65536
def CnE (x : Me) : Prop := x.vs.length ≤ 65536 ∧ ∀ v ∈ x.vs, CnV v
/-- what has been counted so far -/
def Cn1 (l : List Me) (k n : Nat) : Prop := n ≤ 3000000000000 ∧ (n ≤ 65536 → k ≤ n ∧ ∀ i x, i < k → l[i]? = some x → CnE x)
def Cn2 (l : List Mv) (n0 j n : Nat) : Prop := n ≤ 3000000000000 ∧ n0 ≤ n ∧ (n ≤ 65536 → j ≤ n ∧ ∀ i x, i < j → l[i]? = some x → CnV x)
def Cn3 (l : List Ms) (n0 j n : Nat) : Prop := n ≤ 3000000000000 ∧ n0 ≤ n ∧ (n ≤ 65536 → j ≤ n ∧ ∀ i x, i < j → l[i]? = some x → x.s.v.length ≤ 65536)
theorem Cn3.next {l : List Ms} {n0 j n : Nat} {s : Ms} (h : Cn3 l n0 j n) (hn : n ≤ 65536) (hs : l[j]? = some s) (hl : s.s.v.length ≤ 2932031007402) : Cn3 l n0 (j + 1) (n + (1 + s.s.v.length)) := by
  obtain ⟨_, h2, h3⟩ := h
  refine ⟨by omega, by omega, fun hb => ⟨by have := (h3 hn).1; omega, fun i x hi hx => ?_⟩⟩
  rcases Nat.lt_succ_iff_lt_or_eq.1 hi with z | rfl
  · exact (h3 hn).2 i x z hx
  · rw [hs] at hx
    cases hx
    omega
theorem Cn3.done {l : List Ms} {n0 j n : Nat} (h : Cn3 l n0 j n) (hj : j = l.length ∨ 65536 < n) (hn : n ≤ 65536) : l.length ≤ 65536 ∧ ∀ s ∈ l, s.s.v.length ≤ 65536 := by
  obtain ⟨_, h2, h3⟩ := h
  have hj2 : j = l.length := by omega
  subst hj2
  refine ⟨by have := (h3 hn).1; omega, fun s hs => ?_⟩
  obtain ⟨i, hi, e⟩ := List.mem_iff_getElem.1 hs
  exact (h3 hn).2 i s hi (by rw [List.getElem?_eq_getElem hi, e])
theorem Cn2.next {l : List Mv} {n0 j n n' k : Nat} {v : Mv} (h : Cn2 l n0 j n) (hn : n ≤ 65536) (hs : l[j]? = some v) (h3 : Cn3 v.st (n + 1) k n') (hk : k = v.st.length ∨ 65536 < n') : Cn2 l n0 (j + 1) n' := by
  obtain ⟨_, h2, h4⟩ := h
  refine ⟨h3.1, by have := h3.2.1; omega, fun hb => ⟨by have := (h4 hn).1; have := h3.2.1; omega, fun i x hi hx => ?_⟩⟩
  rcases Nat.lt_succ_iff_lt_or_eq.1 hi with z | rfl
  · exact (h4 hn).2 i x z hx
  · rw [hs] at hx
    cases hx
    exact h3.done hk hb
theorem Cn2.done {l : List Mv} {n0 j n : Nat} (h : Cn2 l n0 j n) (hj : j = l.length ∨ 65536 < n) (hn : n ≤ 65536) : l.length ≤ 65536 ∧ ∀ s ∈ l, CnV s := by
  obtain ⟨_, h2, h3⟩ := h
  have hj2 : j = l.length := by omega
  subst hj2
  refine ⟨by have := (h3 hn).1; omega, fun s hs => ?_⟩
  obtain ⟨i, hi, e⟩ := List.mem_iff_getElem.1 hs
  exact (h3 hn).2 i s hi (by rw [List.getElem?_eq_getElem hi, e])
theorem Cn1.next {l : List Me} {j n n' k : Nat} {v : Me} (h : Cn1 l j n) (hn : n ≤ 65536) (hs : l[j]? = some v) (h3 : Cn2 v.vs (n + 1) k n') (hk : k = v.vs.length ∨ 65536 < n') : Cn1 l (j + 1) n' := by
  obtain ⟨_, h4⟩ := h
  refine ⟨h3.1, fun hb => ⟨by have := (h4 hn).1; have := h3.2.1; omega, fun i x hi hx => ?_⟩⟩
  rcases Nat.lt_succ_iff_lt_or_eq.1 hi with z | rfl
  · exact (h4 hn).2 i x z hx
  · rw [hs] at hx
    cases hx
    exact h3.done hk hb
theorem Cn1.done {l : List Me} {j n : Nat} (h : Cn1 l j n) (hj : j = l.length ∨ 65536 < n) (hn : n ≤ 65536) : SizT l := by
  obtain ⟨_, h3⟩ := h
  have hj2 : j = l.length := by omega
  subst hj2
  have hall : ∀ x ∈ l, CnE x := fun s hs => by
    obtain ⟨i, hi, e⟩ := List.mem_iff_getElem.1 hs
    exact (h3 hn).2 i s hi (by rw [List.getElem?_eq_getElem hi, e])
  exact ⟨by have := (h3 hn).1; omega, fun x hx => (hall x hx).1, fun x hx v hv => ((hall x hx).2 v hv).1, fun x hx v hv => ((hall x hx).2 v hv).2⟩

set_option maxRecDepth 100000 in
set_option maxHeartbeats 8000000 in
theorem places_any {W : World} {A : Option Addr} {c : Nat} {l : List Me} {d : Int} (h : MtAt W W.heap.size A l) (hT : Ten W W.heap.size) :
    Calls Tryd.prog 7 #[.agg #[.slice A l.length c], .int .i64 d] W fun e w' => e = .returned (.bool true) ∧ Below W.heap.size W w' := by
  obtain ⟨n, hn⟩ : ∃ n, l.length = n := ⟨_, rfl⟩
  have hvl : n ≤ 140737488355328 := by rw [← hn]; exact h.len
  rw [hn]
  obtain ⟨w1, hw1⟩ : ∃ w1, W.alloc (.cells #[.slice A n c] 30) = w1 := ⟨_, rfl⟩
  have b1 : Below W.heap.size W w1 := by rw [← hw1]; exact (Below.refl _ W).alloc (Nat.le_refl _) _
  have s1 : w1.heap.size = W.heap.size + 1 := by rw [← hw1]; simp
  have k1 : CB w1 W.heap.size 30 #[.slice A n c] := by rw [← hw1]; exact CB.new W _ _
  have ca := pawake_any w1 ((hT.below b1).more b1.size)
  have BX : Hid (∀ w', Below w1.heap.size w1 w' → (Below W.heap.size W w' ∧ MtAt w' W.heap.size A l ∧ Ten w' W.heap.size ∧ W.heap.size ≤ w'.heap.size) ∧ w'.cell? ⟨W.heap.size, 0, none⟩ = some (.slice A n c)) := fun w' hb => by
    have hb2 := b1.trans (hb.mono (by omega))
    exact ⟨⟨hb2, h.below hb2, hT.below hb2, hb2.size⟩, (k1.below hb).at_ 0⟩
  have HN := Lib.hid hn
  clear h hT hn b1 k1
  go_enter Tryd.func7, Tryd.ntmps7
  go_wp2_with (go_at_call 8; (with_reducible refine ca.mono ?_); rintro e w2 ⟨rfl, hb2⟩; have z0 := (BX.out w2 hb2).2; have H2 := Lib.hid hb2; clear hb2)
  have C0 : Hid (Cn1 l 0 0) := ⟨by omega, fun _ => ⟨by omega, fun i x hi => absurd hi (by omega)⟩⟩
  go_loopw [5, 6] (fun a i wr => ∃ t k : Nat, a = .int .i64 t ∧ i = .int .i64 k ∧ k ≤ n ∧ Hid (Below w1.heap.size w1 wr) ∧ Hid (Cn1 l k t)) (fun _ i _ => n - (intOf i).toNat)
  case atStart => exact ⟨0, 0, rfl, rfl, Nat.zero_le _, H2, C0⟩
  case round =>
    clear z0 H2 C0
    obtain ⟨t, k, rfl, rfl, hk, HW, HC⟩ := hrel
    obtain ⟨hbo, z0⟩ := BX.out wr HW.out
    have HBO := Lib.hid hbo
    clear hbo
    by_cases hgo : k < n ∧ t ≤ 65536
    · obtain ⟨hlt, htl⟩ := hgo
      have hltz : (k : Int) < (n : Int) := by omega
      have htz : (t : Int) ≤ 65536 := by omega
      have k0 : (0 : Int) ≤ (k : Int) := by omega
      have t0 : (0 : Int) ≤ (t : Int) := by omega
      obtain ⟨x, hx⟩ : ∃ f, l[k]? = some f := ⟨_, List.getElem?_eq_getElem (show k < l.length by have : l.length = n := HN.out; omega)⟩
      have FX : Hid (∀ w', Below w1.heap.size w1 w' → ∃ g o, A = some ⟨g, o, none⟩ ∧ w'.cell? ⟨g, o + k * 3 + 1, none⟩ = some (.slice x.A x.vs.length x.c) ∧ MeAt w' W.heap.size x) := fun w' hb => by
        obtain ⟨g, o, hA, _, ⟨_, q1, _⟩, hX⟩ := (BX.out w' hb).1.2.1.cells hx
        exact ⟨g, o, hA, q1, hX⟩
      have HX := Lib.hid hx
      have C2 : Hid (Cn2 x.vs (t + 1) 0 (t + 1)) := ⟨by omega, by omega, fun _ => ⟨by omega, fun i x hi => absurd hi (by omega)⟩⟩
      have HTL := Lib.hid htl
      obtain ⟨gx, ox, rfl, a1, hX⟩ := FX.out wr HW.out
      obtain ⟨nv, hnv⟩ : ∃ nv, x.vs.length = nv := ⟨_, rfl⟩
      have hlv := hX.len
      rw [hnv] at a1 hlv
      have NV := Lib.hid hnv
      clear hX hx hnv a1 htl hlt
      go_wp2
      clear z0
      go_loopw [5, 7] (fun a i wr => ∃ t2 j : Nat, a = .int .i64 t2 ∧ i = .int .i64 j ∧ j ≤ nv ∧ Hid (Below w1.heap.size w1 wr) ∧ Hid (Cn2 x.vs (t + 1) j t2)) (fun _ i _ => nv - (intOf i).toNat)
      case atStart => exact ⟨t + 1, 0, by go_num, rfl, Nat.zero_le _, HW, C2⟩
      case round =>
        clear HW HBO C2
        obtain ⟨t2, j, rfl, rfl, hj, HW, HC2⟩ := hrel
        obtain ⟨hbo, z0⟩ := BX.out wr HW.out
        have HBO := Lib.hid hbo
        clear hbo
        obtain ⟨gx', ox', he, a1, hX⟩ := FX.out wr HW.out
        cases he
        rw [show x.vs.length = nv from NV.out] at a1
        by_cases hgo : j < nv ∧ t2 ≤ 65536
        · obtain ⟨hjlt, htl⟩ := hgo
          have hjltz : (j : Int) < (nv : Int) := by omega
          have htz2 : (t2 : Int) ≤ 65536 := by omega
          have j0 : (0 : Int) ≤ (j : Int) := by omega
          have t20 : (0 : Int) ≤ (t2 : Int) := by omega
          obtain ⟨y, hy⟩ : ∃ f, x.vs[j]? = some f := ⟨_, List.getElem?_eq_getElem (show j < x.vs.length by have : x.vs.length = nv := NV.out; omega)⟩
          have FY : Hid (∀ w', Below w1.heap.size w1 w' → ∃ g o, x.A = some ⟨g, o, none⟩ ∧ w'.cell? ⟨g, o + j * 3 + 1, none⟩ = some (.slice y.A y.st.length y.c) ∧ MvAt w' W.heap.size y) := fun w' hb => by
            obtain ⟨_, _, _, _, hX⟩ := FX.out w' hb
            obtain ⟨g, o, hA, _, ⟨_, q1, _⟩, hY⟩ := hX.cells hy
            exact ⟨g, o, hA, q1, hY⟩
          have HY := Lib.hid hy
          have C3 : Hid (Cn3 y.st (t2 + 1) 0 (t2 + 1)) := ⟨by omega, by omega, fun _ => ⟨by omega, fun i x hi => absurd hi (by omega)⟩⟩
          have HTL2 := Lib.hid htl
          obtain ⟨gy, oy, hqA, b1, hY⟩ := FY.out wr HW.out
          obtain ⟨ns, hns⟩ : ∃ ns, y.st.length = ns := ⟨_, rfl⟩
          have hls := hY.len
          rw [hns] at b1 hls
          have NS := Lib.hid hns
          rw [hqA] at a1
          have HQA := Lib.hid hqA
          clear hX hY hy hns htl hjlt hqA
          go_wp2
          clear z0 a1 b1
          go_loopw [5, 8] (fun a i wr => ∃ t3 m : Nat, a = .int .i64 t3 ∧ i = .int .i64 m ∧ m ≤ ns ∧ Hid (Below w1.heap.size w1 wr) ∧ Hid (Cn3 y.st (t2 + 1) m t3)) (fun _ i _ => ns - (intOf i).toNat)
          case atStart => exact ⟨t2 + 1, 0, by go_num, rfl, Nat.zero_le _, HW, C3⟩
          case round =>
            clear HW HBO C3
            obtain ⟨t3, m, rfl, rfl, hm, HW, HC3⟩ := hrel
            obtain ⟨hbo, z0⟩ := BX.out wr HW.out
            have HBO := Lib.hid hbo
            clear hbo
            obtain ⟨gx', ox', he, a1, hX⟩ := FX.out wr HW.out
            cases he
            rw [show x.vs.length = nv from NV.out, show x.A = _ from HQA.out] at a1
            obtain ⟨gy', oy', he, b1, hY⟩ := FY.out wr HW.out
            rw [show x.A = _ from HQA.out] at he
            cases he
            rw [show y.st.length = ns from NS.out] at b1
            by_cases hgo : m < ns ∧ t3 ≤ 65536
            · obtain ⟨hmlt, htl⟩ := hgo
              have hmltz : (m : Int) < (ns : Int) := by omega
              have htz3 : (t3 : Int) ≤ 65536 := by omega
              have m0 : (0 : Int) ≤ (m : Int) := by omega
              have t30 : (0 : Int) ≤ (t3 : Int) := by omega
              obtain ⟨s, hs⟩ : ∃ f, y.st[m]? = some f := ⟨_, List.getElem?_eq_getElem (show m < y.st.length by have : y.st.length = ns := NS.out; omega)⟩
              obtain ⟨gs, os, hqB, _, ⟨_, _, _, _, _, _, q6, _⟩, hS⟩ := hY.cells hs
              have hfew := hS.lt.few.few
              have C4 : Hid (Cn3 y.st (t2 + 1) (m + 1) (t3 + (1 + s.s.v.length))) := HC3.out.next htl hs hfew
              obtain ⟨nn, hnn⟩ : ∃ nn, s.s.v.length = nn := ⟨_, rfl⟩
              rw [hnn] at C4 q6 hfew
              have hfz : (nn : Int) ≤ 2932031007402 := by omega
              have n0 : (0 : Int) ≤ (nn : Int) := by omega
              rw [hqB] at b1
              clear hX hY hs hS hnn hqB htl hmlt HC3
              go_wp2
              go_roundw
              case rel => exact ⟨t3 + (1 + nn), m + 1, by go_num, by go_num, by omega, HW, C4⟩
              case measure => simp [intOf]; omega
            · have C5 : Hid (Cn2 x.vs (t + 1) (j + 1) t3) := by
                have hl : y.st.length = ns := NS.out
                exact HC2.out.next HTL2.out HY.out HC3.out (by omega)
              by_cases hmlt : m < ns
              · have hmltz : (m : Int) < (ns : Int) := by omega
                have htz3 : ¬ (t3 : Int) ≤ 65536 := by omega
                go_wp2
                go_roundw
                case rel => exact ⟨t3, j + 1, rfl, by go_num, by omega, HW, C5⟩
                case measure => simp [intOf]; omega
              · have hmltz : ¬ (m : Int) < (ns : Int) := by omega
                go_wp2
                go_roundw
                case rel => exact ⟨t3, j + 1, rfl, by go_num, by omega, HW, C5⟩
                case measure => simp [intOf]; omega
        · have C5 : Hid (Cn1 l (k + 1) t2) := by
            have hl : x.vs.length = nv := NV.out
            exact HC.out.next HTL.out HX.out HC2.out (by omega)
          by_cases hmlt : j < nv
          · have hmltz : (j : Int) < (nv : Int) := by omega
            have htz3 : ¬ (t2 : Int) ≤ 65536 := by omega
            go_wp2
            go_roundw
            case rel => exact ⟨t2, k + 1, rfl, by go_num, by omega, HW, C5⟩
            case measure => simp [intOf]; omega
          · have hmltz : ¬ (j : Int) < (nv : Int) := by omega
            go_wp2
            go_roundw
            case rel => exact ⟨t2, k + 1, rfl, by go_num, by omega, HW, C5⟩
            case measure => simp [intOf]; omega
    · by_cases hbig : t ≤ 65536
      · have hge : ¬ (k : Int) < (n : Int) := by omega
        have htz : ¬ (65536 : Int) < (t : Int) := by omega
        have hsiz : SizT l := by
          have hl : l.length = n := HN.out
          exact HC.out.done (by omega) hbig
        have hl : l.length = n := HN.out
        obtain ⟨hWr, hMt, hTn, hsz⟩ := HBO.out
        obtain ⟨wo, rfl⟩ : ∃ wo : World, wo = wr := ⟨_, rfl⟩
        obtain ⟨S, hS⟩ : ∃ S, str (schP (l.map Me.e)).1 = S := ⟨_, rfl⟩
        obtain ⟨E, hE⟩ : ∃ E : Int, (((schP (l.map Me.e)).2 : Nat) : Int) = E := ⟨_, rfl⟩
        have CC : Hid (Calls Tryd.prog 15 #[.agg #[.slice A n c], .int .i64 d] wo fun e w3 => ∃ A' c' n', e = .returned (.agg #[.slice A' n' c']) ∧ w3.cell? ⟨W.heap.size, 0, none⟩ = some (.slice A n c) ∧ W.heap.size ≠ w3.heap.size ∧ (w3.alloc (.cells #[.slice A' n' c'] 30)).cell? ⟨W.heap.size, 0, none⟩ = some (.slice A n c) ∧
            Hid (Calls Tryd.prog 11 #[.agg #[.slice A n c]] (w3.alloc (.cells #[.slice A' n' c'] 30)) fun e w4 => e = .returned (.tuple #[.string S, .int .i64 E]) ∧ w4.cell? ⟨W.heap.size, 0, none⟩ = some (.slice A n c) ∧ w4.cell? ⟨w3.heap.size, 0, none⟩ = some (.slice A' n' c') ∧
              Hid (Calls Tryd.prog 11 #[.agg #[.slice A' n' c']] w4 fun e w5 => e = .returned (.tuple #[.string S, .int .i64 E]) ∧ w5.cell? ⟨W.heap.size, 0, none⟩ = some (.slice A n c) ∧ w5.cell? ⟨w3.heap.size, 0, none⟩ = some (.slice A' n' c') ∧
                Hid (Calls Tryd.prog 16 #[.agg #[.slice A' n' c'], .agg #[.slice A n c], .int .i64 d] w5 fun e w6 => e = .returned (.bool true) ∧ Hid (Below W.heap.size W w6))))) := by
          have := copied_any (c := c) (d := d) (hMt.more hsz) hsiz
          rw [hl] at this
          refine this.mono ?_
          rintro e w3 ⟨A', c', l', rfl, hb3, hK, hR⟩
          have hlw : W.heap.size < wo.heap.size := World.block_lt_of_cell? wo _ z0
          have y3 : w3.cell? ⟨W.heap.size, 0, none⟩ = some (.slice A n c) := (hb3.cell (p := ⟨W.heap.size, 0, none⟩) hlw).trans z0
          have hs3 := hb3.size
          obtain ⟨wa, hwa⟩ : ∃ wa, w3.alloc (.cells #[.slice A' l'.length c'] 30) = wa := ⟨_, rfl⟩
          have ba : Below w3.heap.size w3 wa := by rw [← hwa]; exact (Below.refl _ _).alloc (Nat.le_refl _) _
          have ka : CB wa w3.heap.size 30 #[.slice A' l'.length c'] := by rw [← hwa]; exact CB.new _ _ _
          have hba : Below wo.heap.size wo wa := hb3.trans (ba.mono hs3)
          have ya : wa.cell? ⟨W.heap.size, 0, none⟩ = some (.slice A n c) := (hba.cell (p := ⟨W.heap.size, 0, none⟩) hlw).trans z0
          refine ⟨A', c', l'.length, rfl, y3, by omega, by rw [hwa]; exact ya, ?_⟩
          rw [hwa]
          have hMa := (hMt.below (hba.mono hsz))
          have hTa := (hTn.below (hba.mono hsz))
          have hsa := ba.size
          have c1 := pschema_any (c := c) (hMa.more (by omega)) (hTa.more (by omega))
          rw [hl] at c1
          refine c1.mono ?_
          rintro e w4 ⟨rfl, hb4⟩
          rw [hS, hE]
          have hs4 := hb4.size
          have hb04 : Below wo.heap.size wo w4 := hba.trans (hb4.mono hba.size)
          refine ⟨rfl, (hb04.cell (p := ⟨W.heap.size, 0, none⟩) hlw).trans z0, (ka.below hb4).at_ 0, ?_⟩
          have hK4 := hK.below (ba.trans (hb4.mono hsa))
          have c2 := pschema_any (c := c') (hK4.mt.more (by omega)) ((hTn.below (hb04.mono hsz)).more (by omega))
          refine c2.mono ?_
          rintro e w5 ⟨rfl, hb5⟩
          rw [sch_eq (Rel2.onmap (hR.weak fun _ _ k => k.eq)), hS, hE]
          have hs5 := hb5.size
          have hb05 : Below wo.heap.size wo w5 := hb04.trans (hb5.mono hb04.size)
          refine ⟨rfl, (hb05.cell (p := ⟨W.heap.size, 0, none⟩) hlw).trans z0, ((ka.below hb4).below hb5).at_ 0, ?_⟩
          have c3 := marked_any (c := c') (c' := c) (d := d) (hK4.below (hb5.mono (by omega))) (hMt.below (hb05.mono hsz)) (by omega) (by omega) hR
          rw [hl] at c3
          refine c3.mono ?_
          rintro e w6 ⟨rfl, hb6⟩
          exact ⟨rfl, (hWr.trans (hb05.mono hsz)).trans (hb6.mono (by omega))⟩
        clear hWr hMt hTn hsz hS hE hsiz hl HBO HC HW
        go_wp2_with (first
          | (go_at_call 15; (with_reducible refine CC.out.mono ?_); rintro e w3 ⟨A2, c2, n2, rfl, y3, ne3, ya, CS⟩)
          | (go_at_call 11; (with_reducible refine CS.out.mono ?_); rintro e w4 ⟨rfl, y4, x4, CS2⟩; clear CS)
          | (go_at_call 11; (with_reducible refine CS2.out.mono ?_); rintro e w5 ⟨rfl, y5, x5, CM⟩; clear CS2)
          | (go_at_call 16; (with_reducible refine CM.out.mono ?_); rintro e w6 ⟨rfl, H6⟩))
        all_goals go_ret
        all_goals exact ⟨rfl, H6.out⟩
      · have htz : (65536 : Int) < (t : Int) := by omega
        have htz2 : ¬ (t : Int) ≤ 65536 := by omega
        by_cases hlt : k < n
        · have hltz : (k : Int) < (n : Int) := by omega
          go_wp2
          go_ret
          exact ⟨rfl, HBO.out.1⟩
        · have hltz : ¬ (k : Int) < (n : Int) := by omega
          go_wp2
          go_ret
          exact ⟨rfl, HBO.out.1⟩
end Go.Proofs.YtdkcnepjjinpdaaDoor
