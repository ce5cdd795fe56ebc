/- The walk of the reference: a text as a schema. -/
import Derived.Test.YtbngelinfpaefaaGreatDoorParRTop
namespace Go.Proofs.YtbngelinfpaefaaGreatDoor
open Go.RowKit

/-- the frame of a schema that is being read by the reference -/
structure TZ (w0 w : World) (g : Nat) (A : Option Addr) (c : Nat) (T : List Tk) (q : PS) (b2 b3 : Nat) (As : Option Addr) (cs : Nat) (es : List LEv) : Prop where
  rs : RZ w g A c T q
  r2 : CB w b2 27 #[.slice none 0 0]
  s3 : CB w b3 27 #[.slice As es.length cs]
  bl : Below w0.heap.size w0 w
  bt : Built EvLev w (b3 + 1) As cs es
  o1 : w0.heap.size ≤ b2
  o2 : b2 < g
  o3 : g < b3
  few : es.length ≤ q.i
section
variable {w0 w w' : World} {g : Nat} {A : Option Addr} {c : Nat} {T : List Tk} {q q' : PS} {b2 b3 : Nat} {As : Option Addr} {cs : Nat} {es : List LEv}
theorem TZ.call (h : TZ w0 w g A c T q b2 b3 As cs es) (hg : Gn g w w') (hr : RZ w' g A c T q') (hi : q.i ≤ q'.i) : TZ w0 w' g A c T q' b2 b3 As cs es := by
  have := h.o1
  have := h.o2
  have := h.o3
  have hl := h.rs.len
  refine ⟨hr, h.r2.keep (hg.other h.r2.len (by omega)), h.s3.keep (hg.other h.s3.len (by omega)), h.bl.trans (hg.below (by have := h.bl.size; omega) (by omega)), h.bt.keep evLev fun b hb => ?_, h.o1, h.o2, h.o3, Nat.le_trans h.few hi⟩
  have := h.bt.bd evLev b hb
  exact hg.other this.2 (by omega)
theorem TZ.item (h : TZ w0 w g A c T q b2 b3 As cs es) {w5 : World} {x : LEv} (hg : Gn g w w5) (hr : RZ w5 g A c T q') (hH : EvLev.H w5 w.heap.size x) (hi : q.i + 1 ≤ q'.i) :
    ∃ g4 c4 w6, AppRun 25 45 w5 As es.length cs (EvLev.f x) g4 c4 w6 ∧ w5.cell? ⟨b3, 0, none⟩ = some (.slice As es.length cs) ∧ b3 < w5.heap.size ∧ w6.cell? ⟨b3, 0, none⟩ = some (.slice As es.length cs) ∧ w6.frozen? ⟨b3, 0, none⟩ = false ∧
      TZ w0 (w6.setCell ⟨b3, 0, none⟩ (.slice (some ⟨g4, 0, none⟩) (es.length + 1) c4)) g A c T q' b2 b3 (some ⟨g4, 0, none⟩) c4 (es ++ [x]) := by
  have h5 := h.call hg hr (by omega)
  have := h.o1
  have := h.o2
  have := h.o3
  have hlT : q'.i < T.length := hr.pt.inn
  have hlT2 := hr.pt.few
  have hfw := h.few
  have hbx := evLev.bd hH
  have hl3 := h.s3.len
  obtain ⟨g4, c4, w6, hrun, hB6, hat, hgr⟩ := appEv h5.bt x (evLev.low hH (by omega)) (fun b hb hb2 => by have := (hbx b hb).1; have := (h.bt.bd evLev b hb2).2; omega) (by omega) (by have := h5.s3.len; omega)
  have hl2 := h5.r2.len
  have hl35 := h5.s3.len
  have hgl := hr.len
  have hna : ∀ b, b ≤ b3 → obk As ≠ some b := fun b hb e => by
    have := (h.bt.bd evLev b (mem_bls.2 (.inl e))).1
    omega
  have k2 : w6.heap[b2]? = w5.heap[b2]? := hgr.block b2 hl2 fun e => hna b2 (by omega) e.symm
  have k3 : w6.heap[b3]? = w5.heap[b3]? := hgr.block b3 hl35 fun e => hna b3 (by omega) e.symm
  have kg : w6.heap[g]? = w5.heap[g]? := hgr.block g hgl fun e => hna g (by omega) e.symm
  have hs6 := hgr.size
  have h63 : CB w6 b3 27 #[.slice As es.length cs] := h5.s3.keep k3
  have hb6 : Below (b3 + 1) w5 w6 := ⟨hgr.os, hgr.tape, hgr.output, hgr.size, fun b hb => hgr.block b (by omega) fun e => hna b (by omega) e.symm⟩
  have hg7 : Gn b3 w6 (w6.setCell ⟨b3, 0, none⟩ (.slice (some ⟨g4, 0, none⟩) (es.length + 1) c4)) := (Gn.refl b3 w6).set 0 _
  have hr6 : RZ w6 g A c T q' := hr.keep (hb6.mono (by omega)) kg
  refine ⟨g4, c4, w6, hrun, h5.s3.at_ 0, hl35, h63.at_ 0, h63.frozen 0, ⟨?_, ?_, ?_, ?_, ?_, h.o1, h.o2, h.o3, by rw [List.length_append]; show es.length + 1 ≤ _; omega⟩⟩
  · exact hr6.keep (hg7.below (by omega) (by omega)) (hg7.other hr6.len (by omega))
  · exact (h5.r2.keep k2).keep (hg7.other (by omega) (by omega))
  · have := heap_setCell_same w6 b3 0 _ _ (.slice (some ⟨g4, 0, none⟩) (es.length + 1) c4) h63
    unfold CB
    rw [List.length_append]
    exact this
  · exact (h5.bl.trans (hb6.mono (by omega))).trans (hg7.below (by have := h5.bl.size; omega) (by omega))
  · refine hB6.keep evLev fun b hb => hg7.other (hB6.bd evLev b hb).2 ?_
    have := (hB6.bd evLev b hb).1
    omega
end

set_option maxRecDepth 100000 in
set_option maxHeartbeats 8000000 in
theorem rschema_any (w : World) (s : ByteArray) : Calls Tryz.prog 10 #[.string s] w (SchAt s w) := by
  have hb0 : Below w.heap.size w (w.alloc (.cells #[.slice none 0 0] 27)) := (Below.refl _ w).alloc (Nat.le_refl _) _
  have hc0 : CB (w.alloc (.cells #[.slice none 0 0] 27)) w.heap.size 27 #[.slice none 0 0] := CB.new w _ _
  have hs0 : (w.alloc (.cells #[.slice none 0 0] 27)).heap.size = w.heap.size + 1 := by simp
  have cl := rlex_any (w.alloc (.cells #[.slice none 0 0] 27)) s
  cases hR : lexS s with
  | bad a x =>
    have hv : schS s = .bad a x := by unfold schS; rw [hR]
    have hx0 := lexS_bad hR
    have cl' : Calls Tryz.prog 23 #[.string s] (w.alloc (.cells #[.slice none 0 0] 27)) fun e w' => e = .returned (.tuple #[.slice none 0 0, .int .i64 (a : Nat), .int .i64 (x : Nat)]) ∧ Below (w.alloc (.cells #[.slice none 0 0] 27)).heap.size (w.alloc (.cells #[.slice none 0 0] 27)) w' := cl.mono fun e w' h => by
      rw [hR] at h
      exact ⟨h.2, h.1⟩
    have hx : ((x : Int) != 0) = true := by simp; omega
    have HV := Lib.hid hv
    clear cl hR hv hx0
    go_enter Tryz.func10, Tryz.ntmps10
    go_wp2_with (first
      | (go_at_call 23; refine cl'.mono ?_; rintro e w2 ⟨rfl, hb2⟩; have hc2 := hc0.below hb2; have k2 : w2.cell? ⟨w.heap.size, 0, none⟩ = some (.slice none 0 0) := hc2.at_ 0; have y2 := hc2.frozen 0))
    have t9 : Turned w.heap.size w2 (w2.setCell ⟨w.heap.size, 0, none⟩ (.slice none 0 0)) := (Turned.refl _ _).setCell 0 _
    have h9 : CB (w2.setCell ⟨w.heap.size, 0, none⟩ (.slice none 0 0)) w.heap.size 27 #[.slice none 0 0] := heap_setCell_same w2 w.heap.size 0 _ _ _ hc2
    refine bodyPost_ret (v := .tuple #[.agg #[.slice none 0 0], .int .i64 (a : Nat), .int .i64 (x : Nat)]) (results_sch rfl _ _ _ _ _ _ rfl rfl rfl h9) rfl ?_
    unfold SchAt
    rw [HV.out]
    exact ⟨none, 0, [], rfl, (hb0.trans (hb2.mono (by omega))).trans (t9.below (Nat.le_refl _)), Built.nil _ _ _, rfl⟩
  | ok T =>
    obtain ⟨hL, hLn, hE, hT1⟩ := lexS_ok hR
    have cl' : Calls Tryz.prog 23 #[.string s] (w.alloc (.cells #[.slice none 0 0] 27)) fun e w' => ∃ A c, e = .returned (.tuple #[.slice A T.length c, .int .i64 0, .int .i64 0]) ∧ Below (w.alloc (.cells #[.slice none 0 0] 27)).heap.size (w.alloc (.cells #[.slice none 0 0] 27)) w' ∧ Hid (TRow w' w'.heap.size A T) := cl.mono fun e w' h => by
      rw [hR] at h
      obtain ⟨hb, A, c, h, ht⟩ := h
      exact ⟨A, c, h, hb, ht⟩
    obtain ⟨S, L, hq⟩ : ∃ q L, eventsL T (T.length + 1) PS.zero = (q, L) := ⟨_, _, rfl⟩
    obtain ⟨z, hz⟩ : ∃ z, S.end_ T = z := ⟨_, rfl⟩
    have hv : schS s = if z.flt ≠ 0 then .bad z.plc z.flt else .ok L := by unfold schS; rw [hR]; dsimp only; rw [hq]; dsimp only; rw [hz]
    have HV := Lib.hid hv
    have PRE : Hid (∀ w2 A c, Below (w.alloc (.cells #[.slice none 0 0] 27)).heap.size (w.alloc (.cells #[.slice none 0 0] 27)) w2 → TRow w2 w2.heap.size A T → ∃ w3 w4 w5 : World, w2.alloc (.cells #[.slice A T.length c, .int .i64 0, .int .i64 0, .int .i64 0, .slice none 0 0, .slice none 0 0, .int .i64 0] 63) = w3 ∧ w3.alloc (.cells #[.slice none 0 0] 27) = w4 ∧ w4.setCell ⟨w2.heap.size + 1, 0, none⟩ (.slice none 0 0) = w5 ∧ w3.heap.size = w2.heap.size + 1 ∧ w4.cell? ⟨w2.heap.size + 1, 0, none⟩ = some (.slice none 0 0) ∧ w4.frozen? ⟨w2.heap.size + 1, 0, none⟩ = false ∧
        Hid (TZ w w5 w2.heap.size A c T PS.zero w.heap.size (w2.heap.size + 1) none 0 [])) := fun w2 A c hb2 ht => by
      obtain ⟨w3, e3⟩ : ∃ w3, w2.alloc (.cells #[.slice A T.length c, .int .i64 0, .int .i64 0, .int .i64 0, .slice none 0 0, .slice none 0 0, .int .i64 0] 63) = w3 := ⟨_, rfl⟩
      obtain ⟨w4, e4⟩ : ∃ w4, w3.alloc (.cells #[.slice none 0 0] 27) = w4 := ⟨_, rfl⟩
      have s3 : w3.heap.size = w2.heap.size + 1 := by rw [← e3]; simp
      have b3 : Below w2.heap.size w2 w3 := by rw [← e3]; exact (Below.refl _ w2).alloc (Nat.le_refl _) _
      have b4 : Below w3.heap.size w3 w4 := by rw [← e4]; exact (Below.refl _ w3).alloc (Nat.le_refl _) _
      have hr : RZ w3 w2.heap.size A c T PS.zero := rz_new (c := c) ht hE hT1 (by omega) e3.symm
      have h2 := (hc0.below hb2)
      have hz2 := hb2.size
      have c4 : CB w4 (w2.heap.size + 1) 27 #[.slice none 0 0] := by rw [← s3, ← e4]; exact CB.new w3 _ _
      have s4 : w4.heap.size = w2.heap.size + 2 := by rw [← e4]; simp [s3]
      have g5 : Gn (w2.heap.size + 1) w4 (w4.setCell ⟨w2.heap.size + 1, 0, none⟩ (.slice none 0 0)) := (Gn.refl _ w4).set 0 _
      refine ⟨w3, w4, _, e3, e4, rfl, s3, c4.at_ 0, c4.frozen 0, ⟨(hr.below b4).keep (g5.below (by omega) (by omega)) (g5.other (by omega) (by omega)), ((h2.below b3).below b4).keep (g5.other (by omega) (by omega)), ?_, ?_, Built.nil _ _ _, Nat.le_refl _, by omega, by omega, Nat.zero_le _⟩⟩
      · exact heap_setCell_same w4 (w2.heap.size + 1) 0 _ _ _ c4
      · exact (((hb0.trans (hb2.mono (by omega))).trans (b3.mono (by omega))).trans (b4.mono (by omega))).trans (g5.below (by omega) (by omega))
    have SSTART : Hid (∃ f, (PS.zero.flt = 0 → T.length ≤ PS.zero.i + f) ∧ (eventsL T f PS.zero).1 = S ∧ L = ([] : List LEv).map (·.ev) ++ (eventsL T f PS.zero).2) := ⟨T.length + 1, fun _ => by omega, by rw [hq], by rw [hq]; rfl⟩
    clear cl hR hL hE hT1 hq hv hc0 hb0
    go_enter Tryz.func10, Tryz.ntmps10
    go_wp2_with (first
      | (go_at_call 23; refine cl'.mono ?_; rintro e w2 ⟨A, c, rfl, hb2, ht2⟩; obtain ⟨w3, w4, w5, e3, e4, e5, s3, k4, y4, F4⟩ := PRE.out w2 A c hb2 ht2.out))
    obtain ⟨b2, hb2'⟩ : ∃ b2, w.heap.size = b2 := ⟨_, rfl⟩
    obtain ⟨g, hg'⟩ : ∃ g, w2.heap.size = g := ⟨_, rfl⟩
    have hWB : w.heap.size = b2 := hb2'
    have HWB := Lib.hid hWB
    rw [hb2', hg'] at F4
    simp only [hb2', hg']
    clear PRE cl' e3 e4 e5 s3 k4 y4 hb2 ht2 hs0 hWB hg' hb2'
    go_loopg [] (T.length) (fun k wr => ∃ (q : PS) (As : Option Addr) (cs : Nat) (es : List LEv), Hid (TZ w wr g A c T q b2 (g + 1) As cs es) ∧ Hid (∃ f, (q.flt = 0 → T.length ≤ q.i + f) ∧ (eventsL T f q).1 = S ∧ L = es.map (·.ev) ++ (eventsL T f q).2) ∧ T.length - q.i ≤ k)
    case atStart => exact ⟨PS.zero, none, 0, [], F4, SSTART, by omega⟩
    case round =>
      clear F4 SSTART
      obtain ⟨q, As, cs, es, HF, HS, hk⟩ := hrel
      obtain ⟨_, _, c3, _⟩ := HF.out.rs.cells
      have hl3 := HF.out.s3.len
      have d1 : wr.cell? ⟨g + 1, 0, none⟩ = some (.slice As es.length cs) := HF.out.s3.at_ 0
      obtain ⟨b, hb⟩ : ∃ b, q.is T 1 [101, 118, 101, 110, 116] = b := ⟨_, rfl⟩
      have ci : Calls Tryz.prog 24 #[.pointer (some ⟨g, 0, none⟩), .int .i64 1, .string ⟨#[101, 118, 101, 110, 116]⟩] wr fun e w' => e = .returned (.bool b) ∧ Below wr.heap.size wr w' := by
        have := zis_any HF.out.rs 1 [101, 118, 101, 110, 116]
        rw [hb] at this
        exact this
      cases b with
      | true =>
        have hzq := (is_ok q hb).1
        have hfz : ((q.flt : Int) == 0) = true := by rw [hzq]; rfl
        have STEP : Hid (∀ W, Below wr.heap.size wr W → Calls Tryz.prog 25 #[.pointer (some ⟨g, 0, none⟩)] W fun e w5 => ∃ x : LEv, e = .returned (.agg #[.string (str x.name), .slice x.A x.vs.length x.c, .int .i64 (x.at_ : Nat)]) ∧ ∃ g4 c4 w6,
            Hid ((Builtin.append_ #[25, 25] 25 #[.slice As es.length cs, .slice (some ⟨w5.heap.size, 0, none⟩) 1 1]).run Tryz.prog (w5.alloc (.cells #[.string (str x.name), .slice x.A x.vs.length x.c, .int .i64 (x.at_ : Nat)] 45)) = .ok (.slice (some ⟨g4, 0, none⟩) (es.length + 1) c4) w6) ∧
            w5.cell? ⟨g + 1, 0, none⟩ = some (.slice As es.length cs) ∧ g + 1 < w5.heap.size ∧ w6.cell? ⟨g + 1, 0, none⟩ = some (.slice As es.length cs) ∧ w6.frozen? ⟨g + 1, 0, none⟩ = false ∧
            Hid (TZ w (w6.setCell ⟨g + 1, 0, none⟩ (.slice (some ⟨g4, 0, none⟩) (es.length + 1) c4)) g A c T (q.event T).1 b2 (g + 1) (some ⟨g4, 0, none⟩) c4 (es ++ [x])) ∧
            Hid (∃ f, ((q.event T).1.flt = 0 → T.length ≤ (q.event T).1.i + f) ∧ (eventsL T f (q.event T).1).1 = S ∧ L = (es ++ [x]).map (·.ev) ++ (eventsL T f (q.event T).1).2)) := fun W hW => by
          have FW := HF.out.call (Gn.of hW) (HF.out.rs.below hW) (Nat.le_refl _)
          refine (revent_any FW.rs).mono ?_
          rintro e w5 ⟨x, rfl, hr5, hg5, hH5, hx5⟩
          have hgo := go_event_on hb
          obtain ⟨g4, c4, w6, hrun, k1, k2, k3, k4, k5⟩ := FW.item hg5 hr5 hH5 hgo.1
          refine ⟨x, rfl, g4, c4, w6, hrun, k1, k2, k3, k4, k5, ?_⟩
          obtain ⟨f, hf, h1, h2⟩ := HS.out
          have := hf hzq
          have hin : q.i < T.length := HF.out.rs.pt.inn
          cases f with
          | zero => omega
          | succ f =>
            rw [events_on hb] at h1 h2
            refine ⟨f, fun _ => by have := hgo.1; omega, h1, ?_⟩
            rw [h2, List.map_append, List.append_assoc, ← hx5]
            rfl
        have NXT : Hid (q.i + 1 ≤ (q.event T).1.i) := (go_event_on hb).1
        have hin : q.i < T.length := HF.out.rs.pt.inn
        clear hzq hb
        go_wp2_with (first
          | (go_at_call 24; (with_reducible refine ci.mono ?_); rintro e w6 ⟨rfl, hb6⟩; have d6 := (hb6.cell (p := ⟨g + 1, 0, none⟩) hl3).trans d1; have hb57 : Below wr.heap.size wr w6.drew := Below.thenN hb6 1))
        go_region_law (first
          | (refine step_append_run rfl (.tmp 35) (.tmp 38) _ rfl rfl rfl HRUN.out ?_)
          | (go_simp; go_at_call 25; refine (STEP.out _ hb57).mono ?_; rintro e w7 ⟨x, rfl, g4, c4, w8, HRUN, d7, l7, d8, f8, HG8, HS8⟩))
        all_goals
          go_wp2
          go_roundg (gk - 1)
          case measure => omega
          case rel =>
            have hn := NXT.out
            exact ⟨_, _, c4, es ++ [x], HG8, HS8, by omega⟩
      | false =>
        have END : Hid (∀ W, Below wr.heap.size wr W → Calls Tryz.prog 26 #[.pointer (some ⟨g, 0, none⟩)] W fun e w4 => e = .returned (.tuple #[]) ∧ w4.cell? ⟨g, 2, none⟩ = some (.int .i64 (z.plc : Nat)) ∧ w4.cell? ⟨g, 3, none⟩ = some (.int .i64 (z.flt : Nat)) ∧ w4.cell? ⟨g + 1, 0, none⟩ = some (.slice As es.length cs) ∧ w4.cell? ⟨b2, 0, none⟩ = some (.slice none 0 0) ∧ w4.frozen? ⟨b2, 0, none⟩ = false ∧ b2 < g ∧ Hid (TZ w w4 g A c T z b2 (g + 1) As cs es ∧ L = es.map (·.ev))) := fun W hW => by
          obtain ⟨f, hf, h1, h2⟩ := HS.out
          rw [events_end hb] at h1 h2
          have h1' : q = S := h1
          have FW := HF.out.call (Gn.of hW) (HF.out.rs.below hW) (Nat.le_refl _)
          refine (zend_any FW.rs).mono ?_
          rintro e w4 ⟨rfl, hr4, hg4⟩
          rw [h1', hz] at hr4
          have F4 := FW.call hg4 hr4 (by rw [h1', ← hz]; exact (go_end T S).1)
          obtain ⟨_, k2, k3, _⟩ := hr4.cells
          exact ⟨rfl, k2, k3, F4.s3.at_ 0, F4.r2.at_ 0, F4.r2.frozen 0, F4.o2, F4, by rw [h2, List.append_nil]⟩
        by_cases hf : z.flt = 0
        · have hfz : ((z.flt : Int) != 0) = false := by rw [hf]; rfl
          have FIN : Hid (∀ w4, (TZ w w4 g A c T z b2 (g + 1) As cs es ∧ L = es.map (·.ev)) → CB (w4.setCell ⟨b2, 0, none⟩ (.slice As es.length cs)) b2 27 #[.slice As es.length cs] ∧ SchAt s w (.returned (.tuple #[.agg #[.slice As es.length cs], .int .i64 0, .int .i64 0])) (w4.setCell ⟨b2, 0, none⟩ (.slice As es.length cs))) := fun w4 h => by
            obtain ⟨h, hL⟩ := h
            have hg9 : Gn b2 w4 (w4.setCell ⟨b2, 0, none⟩ (.slice As es.length cs)) := (Gn.refl b2 w4).set 0 _
            have hw := HWB.out
            have := h.o2
            have := h.o1
            have := h.bl.size
            refine ⟨heap_setCell_same w4 b2 0 _ _ _ h.r2, ?_⟩
            unfold SchAt
            rw [HV.out, if_neg (fun k => k hf)]
            refine ⟨As, cs, es, rfl, h.bl.trans (hg9.below (by omega) (by omega)), (h.bt.keep evLev fun b hb => ?_).low evLev (by omega), hL.symm⟩
            have := h.bt.bd evLev b hb
            exact hg9.other this.2 (by omega)
          by_cases hzq : q.flt = 0
          · have hfq : ((q.flt : Int) == 0) = true := by rw [hzq]; rfl
            clear hf hb hzq
            go_wp2_with (first
              | (go_at_call 24; (with_reducible refine ci.mono ?_); rintro e w6 ⟨rfl, hb6⟩)
              | (go_at_call 26; refine (END.out _ hb6).mono ?_; rintro e w7 ⟨rfl, d2, d3, d4, d5, d6, hbg, F7⟩; obtain ⟨h9, hZ⟩ := FIN.out w7 F7.out; have HZ := Lib.hid hZ; clear hZ))
            exact bodyPost_ret (v := .tuple #[.agg #[.slice As es.length cs], .int .i64 0, .int .i64 0]) (results_sch rfl _ _ _ _ _ _ rfl rfl rfl h9) rfl HZ.out
          · have hfq : ((q.flt : Int) == 0) = false := by rw [beq_eq_false_iff_ne]; omega
            clear hf hb hzq
            go_wp2_with (first
              | (go_at_call 26; refine (END.out _ (Below.refl _ _)).mono ?_; rintro e w7 ⟨rfl, d2, d3, d4, d5, d6, hbg, F7⟩; obtain ⟨h9, hZ⟩ := FIN.out w7 F7.out; have HZ := Lib.hid hZ; clear hZ))
            exact bodyPost_ret (v := .tuple #[.agg #[.slice As es.length cs], .int .i64 0, .int .i64 0]) (results_sch rfl _ _ _ _ _ _ rfl rfl rfl h9) rfl HZ.out
        · have hfz : ((z.flt : Int) != 0) = true := by simp; omega
          have FIN : Hid (∀ w4, (TZ w w4 g A c T z b2 (g + 1) As cs es ∧ L = es.map (·.ev)) → CB (w4.setCell ⟨b2, 0, none⟩ (.slice none 0 0)).drew b2 27 #[.slice none 0 0] ∧ SchAt s w (.returned (.tuple #[.agg #[.slice none 0 0], .int .i64 (z.plc : Nat), .int .i64 (z.flt : Nat)])) (w4.setCell ⟨b2, 0, none⟩ (.slice none 0 0)).drew) := fun w4 h => by
            obtain ⟨h, hL⟩ := h
            have hg9 : Gn b2 w4 (w4.setCell ⟨b2, 0, none⟩ (.slice none 0 0)) := (Gn.refl b2 w4).set 0 _
            have hw := HWB.out
            have := h.o2
            have := h.o1
            have := h.bl.size
            have := h.rs.len
            refine ⟨heap_setCell_same w4 b2 0 _ _ _ h.r2, ?_⟩
            unfold SchAt
            rw [HV.out, if_pos hf]
            exact ⟨none, 0, [], rfl, Below.thenN (h.bl.trans (hg9.below (by omega) (by omega))) 1, Built.nil _ _ _, rfl⟩
          by_cases hzq : q.flt = 0
          · have hfq : ((q.flt : Int) == 0) = true := by rw [hzq]; rfl
            clear hf hb hzq
            go_wp2_with (first
              | (go_at_call 24; (with_reducible refine ci.mono ?_); rintro e w6 ⟨rfl, hb6⟩)
              | (go_at_call 26; refine (END.out _ hb6).mono ?_; rintro e w7 ⟨rfl, d2, d3, d4, d5, d6, hbg, F7⟩; obtain ⟨h9, hZ⟩ := FIN.out w7 F7.out; have HZ := Lib.hid hZ; clear hZ))
            go_region
            all_goals
              go_wp2
              exact bodyPost_ret (v := .tuple #[.agg #[.slice none 0 0], .int .i64 (z.plc : Nat), .int .i64 (z.flt : Nat)]) (results_sch rfl _ _ _ _ _ _ rfl rfl rfl h9) rfl HZ.out
          · have hfq : ((q.flt : Int) == 0) = false := by rw [beq_eq_false_iff_ne]; omega
            clear hf hb hzq
            go_wp2_with (first
              | (go_at_call 26; refine (END.out _ (Below.refl _ _)).mono ?_; rintro e w7 ⟨rfl, d2, d3, d4, d5, d6, hbg, F7⟩; obtain ⟨h9, hZ⟩ := FIN.out w7 F7.out; have HZ := Lib.hid hZ; clear hZ))
            go_region
            all_goals
              go_wp2
              exact bodyPost_ret (v := .tuple #[.agg #[.slice none 0 0], .int .i64 (z.plc : Nat), .int .i64 (z.flt : Nat)]) (results_sch rfl _ _ _ _ _ _ rfl rfl rfl h9) rfl HZ.out
end Go.Proofs.YtbngelinfpaefaaGreatDoor
