/- The walk of apart: the lists of two trees are filled with marks of their own, grown, and looked at. -/
import Derived.Test.YtbngelinfpaefaaDoorParGn
import Derived.Test.YtbngelinfpaefaaDoorParGl
namespace Go.Proofs.YtbngelinfpaefaaDoor
open Go.RowKit

theorem infoKN : (Tryd.prog.info? KN.T).map (fun i => (i.zero, i.size, i.bytes)) = some (some (.agg #[.int .i64 0, .int .i64 0, .int .u64 0, .string ⟨#[]⟩, .int .i64 0]), KN.s, 48) := by kernel_rfl
theorem infoKS : (Tryd.prog.info? KS.T).map (fun i => (i.zero, i.size, i.bytes)) = some (some (.agg (stC st0 (.slice none 0 0))), KS.s, 120) := by kernel_rfl
theorem infoKV : (Tryd.prog.info? KV.T).map (fun i => (i.zero, i.size, i.bytes)) = some (some (.agg (veC 0 (.slice none 0 0) 0)), KV.s, 40) := by kernel_rfl

set_option maxRecDepth 100000 in
set_option maxHeartbeats 16000000 in
theorem apart_any {w : World} {A A' : Option Addr} {c c' : Nat} {a b : List LEv} (hra : RdE w A a) (hrb : RdE w A' b)
    (hN : Empt KN w (NL a ++ NL b)) (hS : Empt KS w (SL a ++ SL b)) (hV : Empt KV w (VL a ++ VL b))
    (hcnt : ∀ k, (bk (VL a ++ VL b)).count k + (bk (SL a ++ SL b)).count k + (bk (NL a ++ NL b)).count k ≤ 1)
    (lN : (NL a ++ NL b).length ≤ 2000000) (lS : (SL a ++ SL b).length ≤ 2000000) (lV : (VL a ++ VL b).length ≤ 2000000)
    (eN : ∀ r ∈ NL a ++ NL b, r.n ≤ 2000000) (eS : ∀ r ∈ SL a ++ SL b, r.n ≤ 2000000) (eV : ∀ r ∈ VL a ++ VL b, r.n ≤ 2000000) :
    Calls Tryd.prog 21 #[.agg #[.slice A a.length c], .agg #[.slice A' b.length c']] w fun e w' => e = .returned (.bool true) ∧ On (AllP (NL a ++ NL b) (SL a ++ SL b) (VL a ++ VL b)) w w' := by
  obtain ⟨w1, hw1⟩ : ∃ w1 : World, w1 = (w.alloc (.cells #[.slice A a.length c] 30)).alloc (.cells #[.slice A' b.length c'] 30) := ⟨_, rfl⟩
  have hb1 : Below w.heap.size w w1 := by rw [hw1]; exact ((Below.refl _ w).alloc (Nat.le_refl _) _).alloc (by simp) _
  have hs1 : w1.heap.size = w.heap.size + 2 := by rw [hw1]; simp
  have x0 : w1.cell? ⟨w.heap.size, 0, none⟩ = some (.slice A a.length c) := by
    have := (CB.new w 30 #[.slice A a.length c]).below ((Below.refl _ _).alloc (Nat.le_refl _) (.cells #[.slice A' b.length c'] 30))
    rw [hw1]
    exact this.at_ 0
  have hx1 : CB w1 (w.heap.size + 1) 30 #[.slice A' b.length c'] := by rw [hw1]; exact cb_second _ _ _ _
  have x1 : w1.cell? ⟨w.heap.size + 1, 0, none⟩ = some (.slice A' b.length c') := hx1.at_ 0
  simp only [List.length_append] at lN lS lV
  have ca : Calls Tryd.prog 38 #[.agg #[.slice A a.length c]] w1 (ListsAt w1 a) := lists_any (hra.below hb1) (by omega) (by omega) (by omega)
  have cb : Hid (∀ w2, Below w1.heap.size w1 w2 → Calls Tryd.prog 38 #[.agg #[.slice A' b.length c']] w2 (ListsAt w2 b)) := fun w2 h2 => lists_any ((hrb.below hb1).below h2) (by omega) (by omega) (by omega)
  have HX1 := Lib.hid hx1
  -- behind the rows
  obtain ⟨N, hN0⟩ : ∃ N, NL a ++ NL b = N := ⟨_, rfl⟩
  obtain ⟨S, hS0⟩ : ∃ S, SL a ++ SL b = S := ⟨_, rfl⟩
  obtain ⟨V, hV0⟩ : ∃ V, VL a ++ VL b = V := ⟨_, rfl⟩
  have MEET : Hid (∀ w2 w3 A1 c1 A2 c2 A3 c3 B1 d1 B2 d2 B3 d3, Below w1.heap.size w1 w2 → Three w2 w1.heap.size 65 68 33 A1 c1 (VL a) A2 c2 (SL a) A3 c3 (NL a) → Below w2.heap.size w2 w3 → Three w3 w2.heap.size 65 68 33 B1 d1 (VL b) B2 d2 (SL b) B3 d3 (NL b) →
      ∃ E1 e1 w4, Hid ((Builtin.append_ #[85, 85] 85 #[.slice A1 (VL a).length c1, .slice B1 (VL b).length d1]).run Tryd.prog w3 = .ok (.slice E1 V.length e1) w4) ∧
      ∃ E2 e2 w5, Hid ((Builtin.append_ #[86, 86] 86 #[.slice A2 (SL a).length c2, .slice B2 (SL b).length d2]).run Tryd.prog w4 = .ok (.slice E2 S.length e2) w5) ∧
      ∃ E3 e3 w6, Hid ((Builtin.append_ #[87, 87] 87 #[.slice A3 (NL a).length c3, .slice B3 (NL b).length d3]).run Tryd.prog w5 = .ok (.slice E3 N.length e3) w6) ∧
      Hid (Arena w1.heap.size w6 N S V E3 E2 E1 ∧ Below w.heap.size w w6 ∧ Empt KN w6 N ∧ Empt KS w6 S ∧ Empt KV w6 V)) := fun w2 w3 A1 c1 A2 c2 A3 c3 B1 d1 B2 d2 B3 d3 g2 t2 g3 t3 => by
    obtain ⟨E1, e1, w4, r4, E2, e2, w5, r5, E3, e3, w6, r6, q⟩ := apart_rows t2 g2.size g3 t3 (by rw [List.length_append]; omega) (by rw [List.length_append]; omega) (by rw [List.length_append]; omega)
    rw [hV0] at r4
    rw [hS0] at r5
    rw [hN0] at r6
    obtain ⟨q1, q2, q3, q4, q5, q6, q7⟩ := q.out
    have bw : Below w.heap.size w w6 := (hb1.trans (g2.mono (by omega))).trans (q7.mono (by omega))
    have sz := q7.size
    have sz2 := g2.size
    rw [hN0] at hN hcnt q3
    rw [hS0] at hS hcnt q2
    rw [hV0] at hV hcnt q1
    have low : ∀ {K : Kd} {L : List Sl}, Empt K w L → ∀ x, Bs L x → x < w1.heap.size := fun {K L} h x hx => by
      obtain ⟨r, hr, e⟩ := hx
      have := ((h r hr 0).bd e).2
      omega
    refine ⟨E1, e1, w4, r4, E2, e2, w5, r5, E3, e3, w6, r6, ⟨ap_of fun k => ?_, ap_of fun k => ?_, ap_of fun k => ?_, dj_of fun k => ?_, dj_of fun k => ?_, dj_of fun k => ?_, low hN, low hS, low hV, q3, q2, q1, q6, q5, q4, by omega⟩, bw, hN.below bw, hS.below bw, hV.below bw⟩ <;> (have := hcnt k; omega)
  have HB1 := Lib.hid hb1
  have zN : N.length ≤ 2000000 := by rw [← hN0, List.length_append]; exact lN
  have zS : S.length ≤ 2000000 := by rw [← hS0, List.length_append]; exact lS
  have zV : V.length ≤ 2000000 := by rw [← hV0, List.length_append]; exact lV
  rw [hN0] at eN ⊢
  rw [hS0] at eS ⊢
  rw [hV0] at eV ⊢
  have EN := Lib.hid eN
  have ES := Lib.hid eS
  have EV_ := Lib.hid eV
  have HW1 := Lib.hid hw1
  clear hra hrb hN hS hV hcnt lN lS lV hx1 hN0 hS0 hV0 eN eS eV hb1
  go_enter Tryd.func21, Tryd.ntmps21
  rw [hw1] at x0 x1 ca
  go_wp2_with (first
    | (go_at_call 38; (with_reducible refine ca.mono ?_); rintro e w2 ⟨A1, c1, A2, c2, A3, c3, rfl, hb2, ht2⟩; rw [← hw1] at hb2 ht2; have HT2 := Lib.hid ht2; have HB2 := Lib.hid hb2; have CB2 := cb.out w2 hb2; have x1' : w2.cell? ⟨w.heap.size + 1, 0, none⟩ = some (.slice A' b.length c') := (HX1.out.below hb2).at_ 0; clear ht2 hb2)
    | (go_at_call 38; (with_reducible refine CB2.mono ?_); rintro e w3 ⟨B1, d1, B2, d2, B3, d3, rfl, hb3, ht3⟩; obtain ⟨E1, e1, w4, r4, E2, e2, w5, r5, E3, e3, w6, r6, HM⟩ := MEET.out w2 w3 A1 c1 A2 c2 A3 c3 B1 d1 B2 d2 B3 d3 HB2.out HT2.out hb3 ht3; clear hb3 ht3)
    | (at_builtin; refine wpList_append_run rfl (.tmp 41) (.tmp 42) _ rfl rfl rfl r4.out ?_)
    | (at_builtin; refine wpList_append_run rfl (.tmp 44) (.tmp 45) _ rfl rfl rfl r5.out ?_)
    | (at_builtin; refine wpList_append_run rfl (.tmp 47) (.tmp 48) _ rfl rfl rfl r6.out ?_))
  clear r4 r5 r6 CB2 x1' x0 x1 ca cb HX1 HT2 HB2 MEET hw1 HW1 hs1
  have AR : Hid (Arena w1.heap.size w6 N S V E3 E2 E1) := HM.out.1
  have BW : Hid (Below w.heap.size w w6) := HM.out.2.1
  have F0N : Hid (Empt KN w6 N) := HM.out.2.2.1
  have F0S : Hid (Empt KS w6 S) := HM.out.2.2.2.1
  have F0V : Hid (Empt KV w6 V) := HM.out.2.2.2.2
  have O0 : Hid (On (AllP N S V) w6 w6) := On.refl _ _
  clear HM
  go_loopw [11] (fun i wr => ∃ k : Nat, i = .int .i64 k ∧ k ≤ N.length ∧ Hid (FillSt KN w6 wr N k 0)) (fun i _ => N.length - (intOf i).toNat)
  case atStart => exact ⟨0, rfl, Nat.zero_le _, FillSt.start F0N.out⟩
  case round =>
    obtain ⟨k, rfl, hk, HW⟩ := hrel
    obtain ⟨wo, rfl⟩ : ∃ wo : World, wo = wr := ⟨_, rfl⟩
    by_cases hlt : k < N.length
    · have hltz : (k : Int) < (N.length : Int) := by omega
      have k0 : (0 : Int) ≤ (k : Int) := by omega
      have k1 : (k : Int) ≤ 2000000 := by omega
      obtain ⟨r, hr⟩ : ∃ f, N[k]? = some f := ⟨N[k], List.getElem?_eq_getElem hlt⟩
      have HR := Lib.hid hr
      have lr : r.n ≤ 2000000 := EN.out r (List.mem_of_getElem? hr)
      obtain ⟨g, o, rfl, e2⟩ := (AR.out.rdN (O0.out.trans (onN HW.out.on))).sl hr
      clear hr
      go_wp2
      clear e2
      go_loopw [12] (fun i wr => ∃ m : Nat, i = .int .i64 m ∧ m ≤ r.n ∧ Hid (FillSt KN w6 wr N k m)) (fun i _ => r.n - (intOf i).toNat)
      case atStart => exact ⟨0, rfl, Nat.zero_le _, HW⟩
      case round =>
        clear HW
        obtain ⟨m, rfl, hm, HW⟩ := hrel
        obtain ⟨wi, rfl⟩ : ∃ wi : World, wi = wr := ⟨_, rfl⟩
        obtain ⟨g', o', he, e2⟩ := (AR.out.rdN (O0.out.trans (onN HW.out.on))).sl HR.out
        cases he
        by_cases hlm : m < r.n
        · have hlmz : (m : Int) < (r.n : Int) := by omega
          have m0 : (0 : Int) ≤ (m : Int) := by omega
          obtain ⟨g2, f1, _, _⟩ := (HW.out.here HR.out).form (by omega)
          rw [f1] at e2
          have HF := Lib.hid f1
          clear f1
          go_wp2_with (refine wpList_store_fil rfl (.tmp 73) (.tmp 72) kN rfl (HW.out.here HR.out) hlm g2 _ HF.out (by simp [KN]) rfl rfl (by kernel_rfl) ?_; intro w9 h9 t9)
          go_roundw
          case rel => exact ⟨m + 1, by go_num, by omega, HW.out.step HR.out HF.out AR.out.apN h9 t9⟩
          case measure => simp [intOf]; omega
        · have hge : ¬ (m : Int) < (r.n : Int) := by omega
          go_wp2
          go_roundw
          case rel => exact ⟨k + 1, by go_num, by omega, HW.out.next HR.out (by omega)⟩
          case measure => simp [intOf]; omega
    · have hgeN : ¬ (k : Int) < (N.length : Int) := by omega
      have F1N : Hid (Full KN wo N) := fun j r hr => HW.out.done (by omega) hr
      have O1 : Hid (On (AllP N S V) w6 wo) := O0.out.trans (onN HW.out.on)
      have F1S : Hid (Empt KS wo S) := F0S.out.on AR.out.ns.symm HW.out.on
      have F1V : Hid (Empt KV wo V) := F0V.out.on AR.out.nv.symm HW.out.on
      clear F0N F0S F0V O0 HW hlt hk
      go_wp2
      obtain ⟨wa, rfl⟩ : ∃ wa : World, wa = wo := ⟨_, rfl⟩
      have F0S := F1S
      have F0V := F1V
      have F0N := F1N
      have O0 := O1
      clear F1S F1V F1N O1
      go_loopw [13] (fun i wr => ∃ k : Nat, i = .int .i64 k ∧ k ≤ S.length ∧ Hid (FillSt KS wa wr S k 0)) (fun i _ => S.length - (intOf i).toNat)
      case atStart => exact ⟨0, rfl, Nat.zero_le _, FillSt.start F0S.out⟩
      case round =>
        obtain ⟨k, rfl, hk, HW⟩ := hrel
        obtain ⟨wo, rfl⟩ : ∃ wo : World, wo = wr := ⟨_, rfl⟩
        by_cases hlt : k < S.length
        · have hltz : (k : Int) < (S.length : Int) := by omega
          have k0 : (0 : Int) ≤ (k : Int) := by omega
          have k1 : (k : Int) ≤ 2000000 := by omega
          obtain ⟨r, hr⟩ : ∃ f, S[k]? = some f := ⟨S[k], List.getElem?_eq_getElem hlt⟩
          have HR := Lib.hid hr
          have lr : r.n ≤ 2000000 := ES.out r (List.mem_of_getElem? hr)
          obtain ⟨g, o, rfl, e2⟩ := (AR.out.rdS (O0.out.trans (onS HW.out.on))).sl hr
          clear hr
          go_wp2
          clear e2
          go_loopw [14] (fun i wr => ∃ m : Nat, i = .int .i64 m ∧ m ≤ r.n ∧ Hid (FillSt KS wa wr S k m)) (fun i _ => r.n - (intOf i).toNat)
          case atStart => exact ⟨0, rfl, Nat.zero_le _, HW⟩
          case round =>
            clear HW
            obtain ⟨m, rfl, hm, HW⟩ := hrel
            obtain ⟨wi, rfl⟩ : ∃ wi : World, wi = wr := ⟨_, rfl⟩
            obtain ⟨g', o', he, e2⟩ := (AR.out.rdS (O0.out.trans (onS HW.out.on))).sl HR.out
            cases he
            by_cases hlm : m < r.n
            · have hlmz : (m : Int) < (r.n : Int) := by omega
              have m0 : (0 : Int) ≤ (m : Int) := by omega
              obtain ⟨g2, f1, _, _⟩ := (HW.out.here HR.out).form (by omega)
              rw [f1] at e2
              have HF := Lib.hid f1
              clear f1
              go_wp2_with (refine wpList_store_fil rfl (.tmp 97) (.tmp 96) kS rfl (HW.out.here HR.out) hlm g2 _ HF.out (by simp [KS]) rfl rfl (by kernel_rfl) ?_; intro w9 h9 t9)
              go_roundw
              case rel => exact ⟨m + 1, by go_num, by omega, HW.out.step HR.out HF.out AR.out.apS h9 t9⟩
              case measure => simp [intOf]; omega
            · have hge : ¬ (m : Int) < (r.n : Int) := by omega
              go_wp2
              go_roundw
              case rel => exact ⟨k + 1, by go_num, by omega, HW.out.next HR.out (by omega)⟩
              case measure => simp [intOf]; omega
        · have hgeS : ¬ (k : Int) < (S.length : Int) := by omega
          have F1S : Hid (Full KS wo S) := fun j r hr => HW.out.done (by omega) hr
          have O1 : Hid (On (AllP N S V) w6 wo) := O0.out.trans (onS HW.out.on)
          have F1N : Hid (Full KN wo N) := F0N.out.on AR.out.ns HW.out.on
          have F1V : Hid (Empt KV wo V) := F0V.out.on AR.out.sv.symm HW.out.on
          clear F0N F0S F0V O0 HW hlt hk
          go_wp2
          obtain ⟨wb, rfl⟩ : ∃ wb : World, wb = wo := ⟨_, rfl⟩
          have F0S := F1S
          have F0V := F1V
          have F0N := F1N
          have O0 := O1
          clear F1S F1V F1N O1
          go_loopw [15] (fun i wr => ∃ k : Nat, i = .int .i64 k ∧ k ≤ V.length ∧ Hid (FillSt KV wb wr V k 0)) (fun i _ => V.length - (intOf i).toNat)
          case atStart => exact ⟨0, rfl, Nat.zero_le _, FillSt.start F0V.out⟩
          case round =>
            obtain ⟨k, rfl, hk, HW⟩ := hrel
            obtain ⟨wo, rfl⟩ : ∃ wo : World, wo = wr := ⟨_, rfl⟩
            by_cases hlt : k < V.length
            · have hltz : (k : Int) < (V.length : Int) := by omega
              have k0 : (0 : Int) ≤ (k : Int) := by omega
              have k1 : (k : Int) ≤ 2000000 := by omega
              obtain ⟨r, hr⟩ : ∃ f, V[k]? = some f := ⟨V[k], List.getElem?_eq_getElem hlt⟩
              have HR := Lib.hid hr
              have lr : r.n ≤ 2000000 := EV_.out r (List.mem_of_getElem? hr)
              obtain ⟨g, o, rfl, e2⟩ := (AR.out.rdV (O0.out.trans (onV HW.out.on))).sl hr
              clear hr
              go_wp2
              clear e2
              go_loopw [16] (fun i wr => ∃ m : Nat, i = .int .i64 m ∧ m ≤ r.n ∧ Hid (FillSt KV wb wr V k m)) (fun i _ => r.n - (intOf i).toNat)
              case atStart => exact ⟨0, rfl, Nat.zero_le _, HW⟩
              case round =>
                clear HW
                obtain ⟨m, rfl, hm, HW⟩ := hrel
                obtain ⟨wi, rfl⟩ : ∃ wi : World, wi = wr := ⟨_, rfl⟩
                obtain ⟨g', o', he, e2⟩ := (AR.out.rdV (O0.out.trans (onV HW.out.on))).sl HR.out
                cases he
                by_cases hlm : m < r.n
                · have hlmz : (m : Int) < (r.n : Int) := by omega
                  have m0 : (0 : Int) ≤ (m : Int) := by omega
                  obtain ⟨g2, f1, _, _⟩ := (HW.out.here HR.out).form (by omega)
                  rw [f1] at e2
                  have HF := Lib.hid f1
                  clear f1
                  go_wp2_with (refine wpList_store_fil rfl (.tmp 121) (.tmp 120) kV rfl (HW.out.here HR.out) hlm g2 _ HF.out (by simp [KV]) rfl rfl (by kernel_rfl) ?_; intro w9 h9 t9)
                  go_roundw
                  case rel => exact ⟨m + 1, by go_num, by omega, HW.out.step HR.out HF.out AR.out.apV h9 t9⟩
                  case measure => simp [intOf]; omega
                · have hge : ¬ (m : Int) < (r.n : Int) := by omega
                  go_wp2
                  go_roundw
                  case rel => exact ⟨k + 1, by go_num, by omega, HW.out.next HR.out (by omega)⟩
                  case measure => simp [intOf]; omega
            · have hgeV : ¬ (k : Int) < (V.length : Int) := by omega
              have F1V : Hid (Full KV wo V) := fun j r hr => HW.out.done (by omega) hr
              have O1 : Hid (On (AllP N S V) w6 wo) := O0.out.trans (onV HW.out.on)
              have F1N : Hid (Full KN wo N) := F0N.out.on AR.out.nv HW.out.on
              have F1S : Hid (Full KS wo S) := F0S.out.on AR.out.sv HW.out.on
              clear F0N F0S F0V O0 HW hlt hk
              go_wp2
              obtain ⟨wc, rfl⟩ : ∃ wc : World, wc = wo := ⟨_, rfl⟩
              have F0S := F1S
              have F0V := F1V
              have F0N := F1N
              have O0 := O1
              clear F1S F1V F1N O1
              go_loopw [17, 20] (fun u i wr => ∃ (k : Nat) (A : Option Addr) (c : Nat) (G : List Sl), u = .slice A G.length c ∧ i = .int .i64 k ∧ k ≤ N.length ∧ Hid (GrowSt KN 33 wc wr N k A c G)) (fun _ i _ => N.length - (intOf i).toNat)
              case atStart => exact ⟨0, none, 0, [], rfl, rfl, Nat.zero_le _, GrowSt.start F0N.out⟩
              case round =>
                obtain ⟨k, Ag, cg, G, rfl, rfl, hk, HW⟩ := hrel
                obtain ⟨wo, rfl⟩ : ∃ wo : World, wo = wr := ⟨_, rfl⟩
                by_cases hlt : k < N.length
                · have hltz : (k : Int) < (N.length : Int) := by omega
                  have k0 : (0 : Int) ≤ (k : Int) := by omega
                  have k1 : (k : Int) ≤ 2000000 := by omega
                  obtain ⟨⟨rA, rn, rc⟩, hr⟩ : ∃ f, N[k]? = some f := ⟨N[k], List.getElem?_eq_getElem hlt⟩
                  have HR := Lib.hid hr
                  have lr : rn ≤ 2000000 := EN.out _ (List.mem_of_getElem? hr)
                  obtain ⟨g, o, rfl, e2⟩ := (AR.out.rdN (O0.out.trans (onN HW.out.on))).sl hr
                  replace e2 : wo.cell? ⟨g, o + k, none⟩ = some (.slice rA rn rc) := e2
                  have HI : Hid (GrowIn KN wo wo ⟨rA, rn, rc⟩ k 0 ⟨rA, rn, rc⟩) := GrowIn.start (HW.out.fil k _ hr (Nat.le_refl _))
                  clear hr
                  go_wp2
                  clear e2
                  go_loopw [21, 22] (fun u i wr => ∃ (m : Nat) (q : Sl), u = .slice q.A q.n q.c ∧ i = .int .i64 m ∧ m ≤ 8 ∧ Hid (GrowIn KN wo wr ⟨rA, rn, rc⟩ k m q)) (fun _ i _ => 8 - (intOf i).toNat)
                  case atStart => exact ⟨0, ⟨rA, rn, rc⟩, rfl, rfl, by decide, HI⟩
                  case round =>
                    clear HI
                    obtain ⟨m, ⟨qA, qn, qc⟩, rfl, rfl, hm, HI⟩ := hrel
                    obtain ⟨wi, rfl⟩ : ∃ wi : World, wi = wr := ⟨_, rfl⟩
                    have hqn : qn = rn + m := HI.out.n
                    by_cases hlm : m < 8
                    · have hlmz : (m : Int) < 8 := by omega
                      have m0 : (0 : Int) ≤ (m : Int) := by omega
                      obtain ⟨q, c9, w9, hrun, hI⟩ := HI.out.step kN (t := 33) Tryd.underlying33 infoKN rfl (by decide) (by show qn ≤ 3000000; omega)
                      have HRUN := Lib.hid hrun
                      have HI9 := Lib.hid hI
                      clear hrun hI hqn
                      go_wp2_with (at_builtin; refine wpList_append_run rfl (.tmp 136) (.tmp 140) _ rfl rfl rfl HRUN.out ?_)
                      go_roundw
                      case rel => exact ⟨m + 1, ⟨some ⟨q, 0, none⟩, qn + 1, c9⟩, by simp, by go_num, by omega, HI9⟩
                      case measure => simp [intOf]; omega
                    · have hge : ¬ (m : Int) < 8 := by omega
                      have hm8 : m = 8 := by omega
                      obtain ⟨q, c9, w9, hrun, hS⟩ := HW.out.app HR.out AR.out.apN (fun x hx => Nat.lt_of_lt_of_le (AR.out.lowN x hx) (Nat.le_trans AR.out.w0 O0.out.size)) (hm8 ▸ HI.out) Tryd.underlying87 infoSN (by omega)
                      have HRUN := Lib.hid hrun
                      have HW9 := Lib.hid hS
                      clear hrun hS hqn
                      go_wp2_with (at_builtin; refine wpList_append_run rfl (.tmp 142) (.tmp 144) _ rfl rfl rfl HRUN.out ?_)
                      go_roundw
                      case rel => exact ⟨k + 1, some ⟨q, 0, none⟩, c9, G ++ [⟨qA, qn, qc⟩], by simp, by go_num, by omega, HW9⟩
                      case measure => simp [intOf]; omega
                · have hggN : ¬ (k : Int) < (N.length : Int) := by omega
                  obtain ⟨AgN, cgN, GN, rfl, rfl, rfl⟩ : ∃ A' c' G', A' = Ag ∧ c' = cg ∧ G' = G := ⟨_, _, _, rfl, rfl, rfl⟩
                  have D := HW.out.done (by omega) (by omega) EN.out
                  have w0c : w1.heap.size ≤ wc.heap.size := Nat.le_trans AR.out.w0 O0.out.size
                  have G1N : Hid (Grw KN w1.heap.size wo N AgN GN) := ⟨D.1, fun x hx => Nat.le_trans w0c (D.2.1 x hx), fun g hg x hx => (D.2.2 g hg x hx).imp id fun z => Nat.le_trans w0c z⟩
                  have O1 : Hid (On (AllP N S V) w6 wo) := O0.out.trans (onN HW.out.on)
                  have L1N : Hid (Old KN w1.heap.size wo N E3) := ⟨⟨AR.out.rdN O1.out, fun i r hr => ⟨HW.out.vw i r hr, by have := EN.out r (List.mem_of_getElem? hr); omega⟩, by omega⟩, AR.out.hN⟩
                  have F1S : Hid (Full KS wo S) := F0S.out.on AR.out.ns.symm HW.out.on
                  have F1V : Hid (Full KV wo V) := F0V.out.on AR.out.nv.symm HW.out.on
                  clear F0N F0S F0V O0 HW hlt hk D w0c
                  go_wp2
                  obtain ⟨wd, rfl⟩ : ∃ wd : World, wd = wo := ⟨_, rfl⟩
                  have F0S := F1S
                  have F0V := F1V
                  have O0 := O1
                  clear F1S F1V O1
                  go_loopw [18, 23] (fun u i wr => ∃ (k : Nat) (A : Option Addr) (c : Nat) (G : List Sl), u = .slice A G.length c ∧ i = .int .i64 k ∧ k ≤ S.length ∧ Hid (GrowSt KS 68 wd wr S k A c G)) (fun _ i _ => S.length - (intOf i).toNat)
                  case atStart => exact ⟨0, none, 0, [], rfl, rfl, Nat.zero_le _, GrowSt.start F0S.out⟩
                  case round =>
                    obtain ⟨k, Ag, cg, G, rfl, rfl, hk, HW⟩ := hrel
                    obtain ⟨wo, rfl⟩ : ∃ wo : World, wo = wr := ⟨_, rfl⟩
                    by_cases hlt : k < S.length
                    · have hltz : (k : Int) < (S.length : Int) := by omega
                      have k0 : (0 : Int) ≤ (k : Int) := by omega
                      have k1 : (k : Int) ≤ 2000000 := by omega
                      obtain ⟨⟨rA, rn, rc⟩, hr⟩ : ∃ f, S[k]? = some f := ⟨S[k], List.getElem?_eq_getElem hlt⟩
                      have HR := Lib.hid hr
                      have lr : rn ≤ 2000000 := ES.out _ (List.mem_of_getElem? hr)
                      obtain ⟨g, o, rfl, e2⟩ := (AR.out.rdS (O0.out.trans (onS HW.out.on))).sl hr
                      replace e2 : wo.cell? ⟨g, o + k, none⟩ = some (.slice rA rn rc) := e2
                      have HI : Hid (GrowIn KS wo wo ⟨rA, rn, rc⟩ k 0 ⟨rA, rn, rc⟩) := GrowIn.start (HW.out.fil k _ hr (Nat.le_refl _))
                      clear hr
                      go_wp2
                      clear e2
                      go_loopw [24, 25] (fun u i wr => ∃ (m : Nat) (q : Sl), u = .slice q.A q.n q.c ∧ i = .int .i64 m ∧ m ≤ 8 ∧ Hid (GrowIn KS wo wr ⟨rA, rn, rc⟩ k m q)) (fun _ i _ => 8 - (intOf i).toNat)
                      case atStart => exact ⟨0, ⟨rA, rn, rc⟩, rfl, rfl, by decide, HI⟩
                      case round =>
                        clear HI
                        obtain ⟨m, ⟨qA, qn, qc⟩, rfl, rfl, hm, HI⟩ := hrel
                        obtain ⟨wi, rfl⟩ : ∃ wi : World, wi = wr := ⟨_, rfl⟩
                        have hqn : qn = rn + m := HI.out.n
                        by_cases hlm : m < 8
                        · have hlmz : (m : Int) < 8 := by omega
                          have m0 : (0 : Int) ≤ (m : Int) := by omega
                          obtain ⟨q, c9, w9, hrun, hI⟩ := HI.out.step kS (t := 68) Tryd.underlying68 infoKS rfl (by decide) (by show qn ≤ 3000000; omega)
                          have HRUN := Lib.hid hrun
                          have HI9 := Lib.hid hI
                          clear hrun hI hqn
                          go_wp2_with (at_builtin; refine wpList_append_run rfl (.tmp 160) (.tmp 164) _ rfl rfl rfl HRUN.out ?_)
                          go_roundw
                          case rel => exact ⟨m + 1, ⟨some ⟨q, 0, none⟩, qn + 1, c9⟩, by simp, by go_num, by omega, HI9⟩
                          case measure => simp [intOf]; omega
                        · have hge : ¬ (m : Int) < 8 := by omega
                          have hm8 : m = 8 := by omega
                          obtain ⟨q, c9, w9, hrun, hS⟩ := HW.out.app HR.out AR.out.apS (fun x hx => Nat.lt_of_lt_of_le (AR.out.lowS x hx) (Nat.le_trans AR.out.w0 O0.out.size)) (hm8 ▸ HI.out) Tryd.underlying86 infoSS (by omega)
                          have HRUN := Lib.hid hrun
                          have HW9 := Lib.hid hS
                          clear hrun hS hqn
                          go_wp2_with (at_builtin; refine wpList_append_run rfl (.tmp 166) (.tmp 168) _ rfl rfl rfl HRUN.out ?_)
                          go_roundw
                          case rel => exact ⟨k + 1, some ⟨q, 0, none⟩, c9, G ++ [⟨qA, qn, qc⟩], by simp, by go_num, by omega, HW9⟩
                          case measure => simp [intOf]; omega
                    · have hggS : ¬ (k : Int) < (S.length : Int) := by omega
                      obtain ⟨AgS, cgS, GS, rfl, rfl, rfl⟩ : ∃ A' c' G', A' = Ag ∧ c' = cg ∧ G' = G := ⟨_, _, _, rfl, rfl, rfl⟩
                      have D := HW.out.done (by omega) (by omega) ES.out
                      have w0c : w1.heap.size ≤ wd.heap.size := Nat.le_trans AR.out.w0 O0.out.size
                      have G1S : Hid (Grw KS w1.heap.size wo S AgS GS) := ⟨D.1, fun x hx => Nat.le_trans w0c (D.2.1 x hx), fun g hg x hx => (D.2.2 g hg x hx).imp id fun z => Nat.le_trans w0c z⟩
                      have O1 : Hid (On (AllP N S V) w6 wo) := O0.out.trans (onS HW.out.on)
                      have L1S : Hid (Old KS w1.heap.size wo S E2) := ⟨⟨AR.out.rdS O1.out, fun i r hr => ⟨HW.out.vw i r hr, by have := ES.out r (List.mem_of_getElem? hr); omega⟩, by omega⟩, AR.out.hS⟩
                      have G2N : Hid (Grw KN w1.heap.size wo N AgN GN) := G1N.out.on AR.out.ns AR.out.lowS HW.out.on
                      have L2N : Hid (Old KN w1.heap.size wo N E3) := L1N.out.on AR.out.ns AR.out.lowS HW.out.on
                      have F1V : Hid (Full KV wo V) := F0V.out.on AR.out.sv.symm HW.out.on
                      clear F0S F0V O0 HW hlt hk D w0c G1N L1N
                      go_wp2
                      obtain ⟨we, rfl⟩ : ∃ we : World, we = wo := ⟨_, rfl⟩
                      have F0V := F1V
                      have O0 := O1
                      clear F1V O1
                      go_loopw [19, 26] (fun u i wr => ∃ (k : Nat) (A : Option Addr) (c : Nat) (G : List Sl), u = .slice A G.length c ∧ i = .int .i64 k ∧ k ≤ V.length ∧ Hid (GrowSt KV 65 we wr V k A c G)) (fun _ i _ => V.length - (intOf i).toNat)
                      case atStart => exact ⟨0, none, 0, [], rfl, rfl, Nat.zero_le _, GrowSt.start F0V.out⟩
                      case round =>
                        obtain ⟨k, Ag, cg, G, rfl, rfl, hk, HW⟩ := hrel
                        obtain ⟨wo, rfl⟩ : ∃ wo : World, wo = wr := ⟨_, rfl⟩
                        by_cases hlt : k < V.length
                        · have hltz : (k : Int) < (V.length : Int) := by omega
                          have k0 : (0 : Int) ≤ (k : Int) := by omega
                          have k1 : (k : Int) ≤ 2000000 := by omega
                          obtain ⟨⟨rA, rn, rc⟩, hr⟩ : ∃ f, V[k]? = some f := ⟨V[k], List.getElem?_eq_getElem hlt⟩
                          have HR := Lib.hid hr
                          have lr : rn ≤ 2000000 := EV_.out _ (List.mem_of_getElem? hr)
                          obtain ⟨g, o, rfl, e2⟩ := (AR.out.rdV (O0.out.trans (onV HW.out.on))).sl hr
                          replace e2 : wo.cell? ⟨g, o + k, none⟩ = some (.slice rA rn rc) := e2
                          have HI : Hid (GrowIn KV wo wo ⟨rA, rn, rc⟩ k 0 ⟨rA, rn, rc⟩) := GrowIn.start (HW.out.fil k _ hr (Nat.le_refl _))
                          clear hr
                          go_wp2
                          clear e2
                          go_loopw [27, 28] (fun u i wr => ∃ (m : Nat) (q : Sl), u = .slice q.A q.n q.c ∧ i = .int .i64 m ∧ m ≤ 8 ∧ Hid (GrowIn KV wo wr ⟨rA, rn, rc⟩ k m q)) (fun _ i _ => 8 - (intOf i).toNat)
                          case atStart => exact ⟨0, ⟨rA, rn, rc⟩, rfl, rfl, by decide, HI⟩
                          case round =>
                            clear HI
                            obtain ⟨m, ⟨qA, qn, qc⟩, rfl, rfl, hm, HI⟩ := hrel
                            obtain ⟨wi, rfl⟩ : ∃ wi : World, wi = wr := ⟨_, rfl⟩
                            have hqn : qn = rn + m := HI.out.n
                            by_cases hlm : m < 8
                            · have hlmz : (m : Int) < 8 := by omega
                              have m0 : (0 : Int) ≤ (m : Int) := by omega
                              obtain ⟨q, c9, w9, hrun, hI⟩ := HI.out.step kV (t := 65) Tryd.underlying65 infoKV rfl (by decide) (by show qn ≤ 3000000; omega)
                              have HRUN := Lib.hid hrun
                              have HI9 := Lib.hid hI
                              clear hrun hI hqn
                              go_wp2_with (at_builtin; refine wpList_append_run rfl (.tmp 184) (.tmp 188) _ rfl rfl rfl HRUN.out ?_)
                              go_roundw
                              case rel => exact ⟨m + 1, ⟨some ⟨q, 0, none⟩, qn + 1, c9⟩, by simp, by go_num, by omega, HI9⟩
                              case measure => simp [intOf]; omega
                            · have hge : ¬ (m : Int) < 8 := by omega
                              have hm8 : m = 8 := by omega
                              obtain ⟨q, c9, w9, hrun, hS⟩ := HW.out.app HR.out AR.out.apV (fun x hx => Nat.lt_of_lt_of_le (AR.out.lowV x hx) (Nat.le_trans AR.out.w0 O0.out.size)) (hm8 ▸ HI.out) Tryd.underlying85 infoSV (by omega)
                              have HRUN := Lib.hid hrun
                              have HW9 := Lib.hid hS
                              clear hrun hS hqn
                              go_wp2_with (at_builtin; refine wpList_append_run rfl (.tmp 190) (.tmp 192) _ rfl rfl rfl HRUN.out ?_)
                              go_roundw
                              case rel => exact ⟨k + 1, some ⟨q, 0, none⟩, c9, G ++ [⟨qA, qn, qc⟩], by simp, by go_num, by omega, HW9⟩
                              case measure => simp [intOf]; omega
                        · have hggV : ¬ (k : Int) < (V.length : Int) := by omega
                          have D := HW.out.done (by omega) (by omega) EV_.out
                          have w0c : w1.heap.size ≤ we.heap.size := Nat.le_trans AR.out.w0 O0.out.size
                          have G1V : Hid (Grw KV w1.heap.size wo V Ag G) := ⟨D.1, fun x hx => Nat.le_trans w0c (D.2.1 x hx), fun g hg x hx => (D.2.2 g hg x hx).imp id fun z => Nat.le_trans w0c z⟩
                          have O1 : Hid (On (AllP N S V) w6 wo) := O0.out.trans (onV HW.out.on)
                          have L1V : Hid (Old KV w1.heap.size wo V E1) := ⟨⟨AR.out.rdV O1.out, fun i r hr => ⟨HW.out.vw i r hr, by have := EV_.out r (List.mem_of_getElem? hr); omega⟩, by omega⟩, AR.out.hV⟩
                          have G3N : Hid (Grw KN w1.heap.size wo N AgN GN) := G2N.out.on AR.out.nv AR.out.lowV HW.out.on
                          have L3N : Hid (Old KN w1.heap.size wo N E3) := L2N.out.on AR.out.nv AR.out.lowV HW.out.on
                          have G2S : Hid (Grw KS w1.heap.size wo S AgS GS) := G1S.out.on AR.out.sv AR.out.lowV HW.out.on
                          have L2S : Hid (Old KS w1.heap.size wo S E2) := L1S.out.on AR.out.sv AR.out.lowV HW.out.on
                          have m1 := marked_any (cn := cgN) (cs := cgS) (cv := cg) G3N.out.m G2S.out.m G1V.out.m
                          have m2 := marked_any (cn := e3) (cs := e2) (cv := e1) L3N.out.m L2S.out.m L1V.out.m
                          have END : Hid (On (AllP N S V) w wo) := (On.mk BW.out.os BW.out.tape BW.out.output BW.out.size fun x hx _ => BW.out.block x hx).trans O1.out
                          clear F0V O0 HW hlt hk D w0c G2N L2N G1S L1S G1V L1V G3N L3N G2S L2S O1
                          go_wp2_with (first
                            | (go_at_call 39; (with_reducible refine m1.mono ?_); rintro e w' ⟨rfl, rfl⟩)
                            | (go_at_call 39; (with_reducible refine m2.mono ?_); rintro e w' ⟨rfl, rfl⟩))
                          go_ret
                          exact ⟨rfl, END.out⟩
end Go.Proofs.YtbngelinfpaefaaDoor
