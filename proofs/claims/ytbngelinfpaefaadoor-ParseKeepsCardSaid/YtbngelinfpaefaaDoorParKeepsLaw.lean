/- The walk of ParseKeeps. -/
import Derived.Test.YtbngelinfpaefaaDoorParFaultsLaw
import Derived.Test.YtbngelinfpaefaaDoorParApart
import Derived.Test.YtbngelinfpaefaaDoorParFresh
import Derived.Deep.RegionHeld3
namespace Go.Proofs.YtbngelinfpaefaaDoor
open Go.RowKit

theorem cell_lt {w : World} {b j : Nat} {v : Value} (h : w.cell? ⟨b, j, none⟩ = some v) : b < w.heap.size := by
  rcases Nat.lt_or_ge b w.heap.size with z | z
  · exact z
  · unfold World.cell? at h
    rw [Array.getElem?_eq_none z] at h
    cases h
theorem bs_app {L M : List Sl} {x : Nat} (h : Bs (L ++ M) x) : Bs L x ∨ Bs M x := by
  obtain ⟨r, hr, e⟩ := h
  exact (List.mem_append.1 hr).imp (fun z => ⟨r, z, e⟩) fun z => ⟨r, z, e⟩
theorem bs_es {w : World} {B : Nat} {A : Option Addr} {c : Nat} {l : List LEv} (h : Built EvLev w B A c l) {x : Nat} (hx : AllP (NL l) (SL l) (VL l) x) : B ≤ x ∧ x < w.heap.size := by
  refine (bd_es h x).2 ?_
  rcases hx with z | z | z <;> (have := List.count_pos_iff.2 (bs_mem.1 z); omega)
theorem allp_app {a b : List LEv} {x : Nat} (h : AllP (NL a ++ NL b) (SL a ++ SL b) (VL a ++ VL b) x) : AllP (NL a) (SL a) (VL a) x ∨ AllP (NL b) (SL b) (VL b) x := by
  rcases h with z | z | z
  · exact (bs_app z).imp .inl .inl
  · exact (bs_app z).imp (fun y => .inr (.inl y)) fun y => .inr (.inl y)
  · exact (bs_app z).imp (fun y => .inr (.inr y)) fun y => .inr (.inr y)
theorem empt_app {K : Kd} {w : World} {L M : List Sl} (h : Empt K w L) (k : Empt K w M) : Empt K w (L ++ M) := fun r hr m => by
  rcases List.mem_append.1 hr with z | z
  · exact h r z m
  · exact k r z m
theorem empt_es {w : World} {B : Nat} {A : Option Addr} {c : Nat} {l : List LEv} (h : Built EvLev w B A c l) : Empt KN w (NL l) ∧ Empt KS w (SL l) ∧ Empt KV w (VL l) := by
  obtain ⟨h1, h2, h3⟩ := fil_es h.each
  exact ⟨fun r hr m => (h3 r hr m).low (Nat.zero_le _), fun r hr m => (h2 r hr m).low (Nat.zero_le _), fun r hr m => (h1 r hr m).low (Nat.zero_le _)⟩
/-- the lists of two trees, written over: in a later world -/
theorem apart_two {w W : World} {B H : Nat} {A A' : Option Addr} {c c' : Nat} {a b : List LEv} (ha : Built EvLev w B A c a) (haH : ∀ x ∈ EvLev.bls A a, x < H) (hb : Built EvLev w H A' c' b) (hW : Below w.heap.size w W)
    (fa : wE (a.map (·.ev)) ≤ 300000) (fb : wE (b.map (·.ev)) ≤ 300000) :
    Calls Tryd.prog 21 #[.agg #[.slice A a.length c], .agg #[.slice A' b.length c']] W fun e w' => e = .returned (.bool true) ∧ On (AllP (NL a ++ NL b) (SL a ++ SL b) (VL a ++ VL b)) W w' := by
  obtain ⟨a1, a2, a3⟩ := empt_es ha
  obtain ⟨b1, b2, b3⟩ := empt_es hb
  obtain ⟨p1, p2, p3, p4, p5, p6⟩ := few_es a
  obtain ⟨q1, q2, q3, q4, q5, q6⟩ := few_es b
  have mem : ∀ {L M : List Sl} {x y : Nat}, (∀ r ∈ L, r.n ≤ x) → (∀ r ∈ M, r.n ≤ y) → x ≤ 300000 → y ≤ 300000 → ∀ r ∈ L ++ M, r.n ≤ 2000000 := fun {L M x y} h k hx hy r hr => by
    rcases List.mem_append.1 hr with z | z
    · have := h r z; omega
    · have := k r z; omega
  exact apart_any ((RdE.of ha).below hW) ((RdE.of hb).below hW) ((empt_app a1 b1).below hW) ((empt_app a2 b2).below hW) ((empt_app a3 b3).below hW) (two_trees ha haH hb)
    (by rw [List.length_append]; omega) (by rw [List.length_append]; omega) (by rw [List.length_append]; omega) (mem p6 q6 fa fb) (mem p5 q5 fa fb) (mem p4 q4 fa fb)
theorem cfld_sch (u : Value) (W : World) : (Instr.field 30 (.agg #[u]) 0).run Tryd.prog W = .ok u W := by kernel_rfl
theorem few_ls {s : ByteArray} (hs : s.size ≤ 262144) {l : List LEv} (h : l.map (·.ev) = (schS s).evs) : wE (l.map (·.ev)) ≤ 300000 := by
  rw [h]
  have := sch_few s
  omega

set_option maxRecDepth 100000 in
set_option maxHeartbeats 8000000 in
theorem keeps_any (w : World) (hEV : EV w) (s : ByteArray) : Calls Tryd.prog 7 #[.string s] w fun e w' => e = .returned (.bool true) ∧ Below w.heap.size w w' := by
  have ca := cawake_any w hEV
  by_cases hbig : 262144 < s.size
  · have hz : (262144 : Int) < (s.size : Int) := by omega
    go_enter Tryd.func7, Tryd.ntmps7
    go_wp2_with (go_at_call 13; refine ca.mono ?_; rintro e w1 ⟨rfl, hb1⟩)
    go_ret
    exact ⟨rfl, hb1⟩
  · have hz : ¬ (262144 : Int) < (s.size : Int) := by omega
    have hs9 : s.size ≤ 262144 := by omega
    have cs := fun W h => cschema_any W s h
    have CF : Hid (∀ W, EV W → Calls Tryd.prog 22 #[.string s] W fun e w' => ∃ As cs es, e = .returned (.agg #[.slice As (List.length (α := LEv) es) cs]) ∧ Below W.heap.size W w' ∧ Built EvLev w' W.heap.size As cs es ∧ es.map (·.ev) = (schS s).evs) := fun W h => cfresh_any W s h
    unfold SchAt at cs
    obtain ⟨x, hx⟩ : ∃ x, (schS s).err = x := ⟨_, rfl⟩
    obtain ⟨p, hp⟩ : ∃ x, (schS s).plc = x := ⟨_, rfl⟩
    simp only [hx, hp] at cs
    have hxx : ((x : Int) != (x : Int)) = false := by simp
    clear hx hp hbig
    go_enter Tryd.func7, Tryd.ntmps7
    go_wp2_with (first
      | (go_at_call 13; refine ca.mono ?_; rintro e w1 ⟨rfl, hb1⟩; have e1 := hEV.below hb1)
      | (go_at_call 15; (with_reducible refine (cs _ e1).mono ?_); rintro e w2 ⟨As, c1, es1, rfl, hb2, hB1, hm1⟩; have e2 := (e1.below hb2).new (.cells #[.slice As es1.length c1] 30); have H1 := Lib.hid (And.intro hB1 hm1); have Q2 : Hid (CB (w2.alloc (.cells #[.slice As es1.length c1] 30)) w2.heap.size 30 #[.slice As es1.length c1]) := CB.new _ _ _; clear hB1 hm1 e1)
      | (go_at_call 15; (with_reducible refine (cs _ e2).mono ?_); rintro e w3 ⟨Bs, c2, es2, rfl, hb3, hB2, hm2⟩; have e3 := (e2.below hb3).new (.cells #[.slice Bs es2.length c2] 30); have H2 := Lib.hid (And.intro hB2 hm2); have Q3 : Hid (CB (w3.alloc (.cells #[.slice Bs es2.length c2] 30)) w3.heap.size 30 #[.slice Bs es2.length c2]) := CB.new _ _ _; clear hB2 hm2 e2)
      | (go_at_call 15; (with_reducible refine (cs _ e3).mono ?_); rintro e w4 ⟨Cs, c3, es3, rfl, hb4, hB3, hm3⟩; have H3 := Lib.hid (And.intro hB3 hm3)
         have g23 : Below w2.heap.size w2 w3 := ((Below.refl _ w2).alloc (Nat.le_refl _) _).trans (hb3.mono (by simp))
         have g34 : Below w3.heap.size w3 w4 := ((Below.refl _ w3).alloc (Nat.le_refl _) _).trans (hb4.mono (by simp))
         have g45 : Below w4.heap.size w4 (w4.alloc (.cells #[.slice Cs es3.length c3] 30)) := (Below.refl _ w4).alloc (Nat.le_refl _) _
         have G4 : Hid (Below w.heap.size w w4) := Below.both (Below.both (Below.both hb1 hb2) g23) g34
         have z2 := ((Q2.out.below hb3).below ((Below.refl _ _).alloc (Nat.le_refl _) (.cells #[.slice Bs es2.length c2] 30))).below hb4
         have z3 := Q3.out.below hb4
         have y2 := z2.below g45
         have y3 := z3.below g45
         have y4 : CB (w4.alloc (.cells #[.slice Cs es3.length c3] 30)) w4.heap.size 30 #[.slice Cs es3.length c3] := CB.new _ _ _
         have k2 : (w4.alloc (.cells #[.slice Cs es3.length c3] 30)).cell? ⟨w2.heap.size, 0, none⟩ = some (.slice As es1.length c1) := y2.at_ 0
         have k3 : (w4.alloc (.cells #[.slice Cs es3.length c3] 30)).cell? ⟨w3.heap.size, 0, none⟩ = some (.slice Bs es2.length c2) := y3.at_ 0
         have k4 : (w4.alloc (.cells #[.slice Cs es3.length c3] 30)).cell? ⟨w4.heap.size, 0, none⟩ = some (.slice Cs es3.length c3) := y4.at_ 0
         have KB : Hid (∀ W, Below (w4.alloc (.cells #[.slice Cs es3.length c3] 30)).heap.size (w4.alloc (.cells #[.slice Cs es3.length c3] 30)) W → W.cell? ⟨w2.heap.size, 0, none⟩ = some (.slice As es1.length c1) ∧ W.cell? ⟨w3.heap.size, 0, none⟩ = some (.slice Bs es2.length c2) ∧ W.cell? ⟨w4.heap.size, 0, none⟩ = some (.slice Cs es3.length c3)) := fun W hW => ⟨(y2.below hW).at_ 0, (y3.below hW).at_ 0, (y4.below hW).at_ 0⟩
         have EV1 : Hid (∀ W, Below w4.heap.size w4 W → Calls Tryd.prog 18 #[.slice As es1.length c1, .slice Bs es2.length c2, .int .i64 0, .bool true] W fun e w' => e = .returned (.bool true) ∧ Below W.heap.size W w') := fun W hW => events_any 0 true (((RdE.of H1.out.1).below (Below.both g23 g34)).below hW) (((RdE.of H2.out.1).below g34).below hW) (self_ev (by omega) H1.out.2 H2.out.2) (own_few H1.out.1.own)
         have EV2 : Hid (∀ W, Below w4.heap.size w4 W → Calls Tryd.prog 18 #[.slice As es1.length c1, .slice Cs es3.length c3, .int .i64 0, .bool true] W fun e w' => e = .returned (.bool true) ∧ Below W.heap.size W w') := fun W hW => events_any 0 true (((RdE.of H1.out.1).below (Below.both g23 g34)).below hW) ((RdE.of hB3).below hW) (self_ev (by omega) H1.out.2 hm3) (own_few H1.out.1.own)
         have EV3 : Hid (∀ W (Fs : Option Addr) (fc : Nat) (es : List LEv), RdE W Cs es3 → RdE W Fs es → es.map (·.ev) = (schS s).evs → Calls Tryd.prog 18 #[.slice Cs es3.length c3, .slice Fs es.length fc, .int .i64 0, .bool true] W fun e w' => e = .returned (.bool true) ∧ Below W.heap.size W w') := fun W Fs fc es h1 h2 h3 => events_any 0 true h1 h2 (self_ev (by omega) hm3 h3) (own_few hB3.own)
         have s23 : (w2.alloc (.cells #[.slice As es1.length c1] 30)).heap.size = w2.heap.size + 1 := (by simp)
         have s34 : (w3.alloc (.cells #[.slice Bs es2.length c2] 30)).heap.size = w3.heap.size + 1 := (by simp)
         have AP : Hid (∀ W, Below w4.heap.size w4 W → Calls Tryd.prog 21 #[.agg #[.slice As es1.length c1], .agg #[.slice Bs es2.length c2]] W fun e w' => e = .returned (.bool true) ∧ On (AllP (NL es1 ++ NL es2) (SL es1 ++ SL es2) (VL es1 ++ VL es2)) W w') := fun W hW => by
           have h1 := (H1.out.1.below evLev g23).below evLev g34
           have h2 := H2.out.1.below evLev g34
           exact apart_two h1 (fun x hx => by have := (H1.out.1.bd evLev x hx).2; omega) h2 hW (few_ls hs9 H1.out.2) (few_ls hs9 H2.out.2)
         have KX : Hid (∀ W W7, Below (w4.alloc (.cells #[.slice Cs es3.length c3] 30)).heap.size (w4.alloc (.cells #[.slice Cs es3.length c3] 30)) W → On (AllP (NL es1 ++ NL es2) (SL es1 ++ SL es2) (VL es1 ++ VL es2)) W W7 → (W7.cell? ⟨w2.heap.size, 0, none⟩ = some (.slice As es1.length c1) ∧ W7.cell? ⟨w3.heap.size, 0, none⟩ = some (.slice Bs es2.length c2) ∧ W7.cell? ⟨w4.heap.size, 0, none⟩ = some (.slice Cs es3.length c3)) ∧ RdE W7 Cs es3 ∧ Below w.heap.size w W7) := fun W W7 hW ho => by
           have g24 := Below.both g23 g34
           have szs := g23.size
           have szs2 := g34.size
           have szs3 := hW.size
           have szs4 : (w4.alloc (.cells #[.slice Cs es3.length c3] 30)).heap.size = w4.heap.size + 1 := (by simp)
           have szb := hb1.size
           have szb2 := hb2.size
           have szb3 := hb3.size
           have szb4 := hb4.size
           have np : ∀ b, (AllP (NL es1 ++ NL es2) (SL es1 ++ SL es2) (VL es1 ++ VL es2)) b → (w1.heap.size ≤ b ∧ b < w2.heap.size) ∨ (w2.heap.size + 1 ≤ b ∧ b < w3.heap.size) := fun b hb => by
             rcases allp_app hb with z | z
             · exact .inl (bs_es H1.out.1 z)
             · have := bs_es H2.out.1 z
               exact .inr (by omega)
           have kp : ∀ b, b < (w4.alloc (.cells #[.slice Cs es3.length c3] 30)).heap.size → ¬ (AllP (NL es1 ++ NL es2) (SL es1 ++ SL es2) (VL es1 ++ VL es2)) b → W7.heap[b]? = (w4.alloc (.cells #[.slice Cs es3.length c3] 30)).heap[b]? := fun b hb hn => (ho.block b (by omega) hn).trans (hW.block b hb)
           refine ⟨⟨(y2.keep (kp _ y2.len fun z => by have := np _ z; omega)).at_ 0, (y3.keep (kp _ y3.len fun z => by have := np _ z; omega)).at_ 0, (y4.keep (kp _ y4.len fun z => by have := np _ z; omega)).at_ 0⟩, ?_, ?_⟩
           · have hc := (hB3.below evLev g45)
             refine RdE.of (hc.keep evLev fun b hb => kp b (hc.bd evLev b hb).2 fun z => ?_)
             have := np _ z
             have := (hB3.bd evLev b hb).1
             omega
           · refine (Below.both (Below.both G4.out g45) hW).trans (ho.below (by omega) fun b hb => ?_)
             have := np _ hb
             omega
         have D45 := Lib.hid g45
         have cfl := cfld_sch
         clear hB3 hm3 g23 g34 g45 z2 z3 y2 y3 y4 hb3 hb4 e3 cs H1 H2 H3 Q2 Q3 s23 s34)
      | (go_at_call 18; (with_reducible refine (EV1.out _ D45.out).mono ?_); rintro e w5 ⟨rfl, hb5⟩; have K5 := KB.out w5 hb5; have k52 := K5.1; have k54 := K5.2.2; have D5 := Lib.hid hb5; clear K5 k2 k3 k4)
      | (go_at_call 18; (with_reducible refine (EV2.out _ (Below.both D45.out D5.out)).mono ?_); rintro e w6 ⟨rfl, hb6⟩; have D6 := Lib.hid (Below.both D5.out hb6); have D6d : Hid (Below (w4.alloc (.cells #[.slice Cs es3.length c3] 30)).heap.size (w4.alloc (.cells #[.slice Cs es3.length c3] 30)) w6.drew) := Below.thenN (Below.both D5.out hb6) 1; have K6 := Lib.hid (KB.out w6.drew D6d.out); clear k52 k54))
    go_region_held3 (fun W => W.cell? ⟨w2.heap.size, 0, none⟩ = some (.slice As es1.length c1) ∧ W.cell? ⟨w3.heap.size, 0, none⟩ = some (.slice Bs es2.length c2) ∧ W.cell? ⟨w4.heap.size, 0, none⟩ = some (.slice Cs es3.length c3)) (first | (with_reducible exact K6.out) | (with_reducible exact K7.out.1) | (with_reducible exact K8.out) | (with_reducible exact K9.out) | fail)
      (first
        | (go_at_call 21; (with_reducible refine (AP.out _ (Below.both D45.out D6d.out)).mono ?_); rintro e w7 ⟨rfl, ho7⟩; have K7 := Lib.hid (KX.out _ w7 D6d.out ho7))
        | (go_at_call 22; (with_reducible refine (CF.out _ (hEV.below K7.out.2.2)).mono ?_); rintro e w8 ⟨Fs, fc, es8, rfl, hb8, hB8, hm8⟩; have H8 := Lib.hid (And.intro hb8 (And.intro hB8 hm8)); clear hb8 hB8 hm8
           have K8 : Hid (w8.cell? ⟨w2.heap.size, 0, none⟩ = some (.slice As es1.length c1) ∧ w8.cell? ⟨w3.heap.size, 0, none⟩ = some (.slice Bs es2.length c2) ∧ w8.cell? ⟨w4.heap.size, 0, none⟩ = some (.slice Cs es3.length c3)) := by
             have l2 := cell_lt K7.out.1.1
             have l3 := cell_lt K7.out.1.2.1
             have l4 := cell_lt K7.out.1.2.2
             exact ⟨(H8.out.1.cell (p := ⟨w2.heap.size, 0, none⟩) l2).trans K7.out.1.1, (H8.out.1.cell (p := ⟨w3.heap.size, 0, none⟩) l3).trans K7.out.1.2.1, (H8.out.1.cell (p := ⟨w4.heap.size, 0, none⟩) l4).trans K7.out.1.2.2⟩)
        | (go_at_call 18; (with_reducible refine (EV3.out _ Fs fc es8 (K7.out.2.1.below H8.out.1) (RdE.of H8.out.2.1) H8.out.2.2).mono ?_); rintro e w9 ⟨rfl, hb9⟩; have H9 := Lib.hid hb9; clear hb9
           have K9 : Hid (w9.cell? ⟨w2.heap.size, 0, none⟩ = some (.slice As es1.length c1) ∧ w9.cell? ⟨w3.heap.size, 0, none⟩ = some (.slice Bs es2.length c2) ∧ w9.cell? ⟨w4.heap.size, 0, none⟩ = some (.slice Cs es3.length c3)) := by
             have l2 := cell_lt K8.out.1
             have l3 := cell_lt K8.out.2.1
             have l4 := cell_lt K8.out.2.2
             exact ⟨(H9.out.cell (p := ⟨w2.heap.size, 0, none⟩) l2).trans K8.out.1, (H9.out.cell (p := ⟨w3.heap.size, 0, none⟩) l3).trans K8.out.2.1, (H9.out.cell (p := ⟨w4.heap.size, 0, none⟩) l4).trans K8.out.2.2⟩)
        | fail)
    go_wp2
    go_ret
    exact ⟨rfl, Below.both (Below.both K7.out.2.2 H8.out.1) H9.out⟩
end Go.Proofs.YtbngelinfpaefaaDoor
