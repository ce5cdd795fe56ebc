/- The walks of the reference: an event. -/
import Derived.Test.YtbngelinfpaefaaGreatDoorParRVer
namespace Go.Proofs.YtbngelinfpaefaaGreatDoor
open Go.RowKit

/-- what an event answers -/
def EvtR (g : Nat) (A : Option Addr) (c : Nat) (T : List Tk) (p : PS) (w : World) (e : Ending) (w' : World) : Prop :=
  ∃ x : LEv, e = .returned (.agg x.C) ∧ RZ w' g A c T (p.event T).1 ∧ Gn g w w' ∧ EvLev.H w' w.heap.size x ∧ x.ev = (p.event T).2

set_option maxRecDepth 100000 in
set_option maxHeartbeats 8000000 in
theorem revent_any {w : World} {g : Nat} {A : Option Addr} {c : Nat} {T : List Tk} {p : PS} (h : RZ w g A c T p) :
    Calls Tryz.prog 25 #[.pointer (some ⟨g, 0, none⟩)] w (EvtR g A c T p w) := by
  have hgl := h.len
  have hV := event_eq T p
  obtain ⟨t, ht⟩ : ∃ t, p.tok T = t := ⟨_, rfl⟩
  obtain ⟨p1, hp1⟩ : ∃ q, p.word T [101, 118, 101, 110, 116] = q := ⟨_, rfl⟩
  rw [hp1] at hV
  obtain ⟨q1, n1, hq1⟩ : ∃ q n, p1.name T = (q, n) := ⟨_, _, rfl⟩
  rw [hq1] at hV
  dsimp only at hV
  obtain ⟨q0, hq0⟩ : ∃ q, q1.mark T 123 = q := ⟨_, rfl⟩
  rw [hq0] at hV
  obtain ⟨qv, v1, hqv⟩ : ∃ q v, q0.version T = (q, v) := ⟨_, _, rfl⟩
  rw [hqv] at hV
  dsimp only at hV
  obtain ⟨S, L, hSL⟩ : ∃ S L, versL T (T.length + 1) qv = (S, L) := ⟨_, _, rfl⟩
  rw [hSL] at hV
  dsimp only at hV
  obtain ⟨E, hE⟩ : ∃ E, S.mark T 125 = E := ⟨_, rfl⟩
  rw [hE, ht] at hV
  have HV := Lib.hid hV
  have hb1 : Below w.heap.size w (w.alloc (.cells #[.string ⟨#[]⟩, .slice none 0 0, .int .i64 0] 45)) := (Below.refl _ w).alloc (Nat.le_refl _) _
  have hc1 : CB (w.alloc (.cells #[.string ⟨#[]⟩, .slice none 0 0, .int .i64 0] 45)) w.heap.size 45 #[.string ⟨#[]⟩, .slice none 0 0, .int .i64 0] := CB.new w _ _
  have ct := ztok_any (h.below hb1) ht
  have PRE : Hid (∀ w2, Below (w.alloc (.cells #[.string ⟨#[]⟩, .slice none 0 0, .int .i64 0] 45)).heap.size (w.alloc (.cells #[.string ⟨#[]⟩, .slice none 0 0, .int .i64 0] 45)) w2 → ∃ w3 : World, w2.alloc (.cells #[.string ⟨#[]⟩, .slice none 0 0, .int .i64 (t.a : Nat)] 45) = w3 ∧ w.heap.size < w2.heap.size ∧
      Hid (GZ VeLev 45 (.string ⟨#[]⟩) w w3 g A c T p w.heap.size w2.heap.size (.string ⟨#[]⟩) t.a none 0 [])) := fun w2 hb2 => by
    refine ⟨_, rfl, by have := hb2.size; simp at this; omega, ?_⟩
    exact gz_start ((h.below hb1).below hb2) (hc1.below hb2) ((Gn.of hb1).trans (Gn.of hb2)) hgl (Nat.le_refl _) _ _
  -- a version more
  have ITEM : Hid (∀ W b3 q As cs vs, (GZ VeLev 45 (.string ⟨#[]⟩) w W g A c T q w.heap.size b3 (.string (str n1)) t.a As cs vs) → vs.length ≤ q.i + 0 ∧ q.flt = 0 ∨ vs = [] → Calls Tryz.prog 50 #[.pointer (some ⟨g, 0, none⟩)] W fun e w5 => ∃ x : LVe, e = .returned (.agg #[.int .u64 (x.num : Nat), .slice x.A x.st.length x.c, .int .i64 (x.at_ : Nat)]) ∧ ∃ g4 c4 w6,
      Hid ((Builtin.append_ #[43, 43] 43 #[.slice As vs.length cs, .slice (some ⟨w5.heap.size, 0, none⟩) 1 1]).run Tryz.prog (w5.alloc (.cells #[.int .u64 (x.num : Nat), .slice x.A x.st.length x.c, .int .i64 (x.at_ : Nat)] 49)) = .ok (.slice (some ⟨g4, 0, none⟩) (vs.length + 1) c4) w6) ∧
      w5.cell? ⟨b3, 1, none⟩ = some (.slice As vs.length cs) ∧ b3 < w5.heap.size ∧ w6.cell? ⟨b3, 1, none⟩ = some (.slice As vs.length cs) ∧ w6.frozen? ⟨b3, 1, none⟩ = false ∧
      Hid (GZ VeLev 45 (.string ⟨#[]⟩) w (w6.setCell ⟨b3, 1, none⟩ (.slice (some ⟨g4, 0, none⟩) (vs.length + 1) c4)) g A c T (q.version T).1 w.heap.size b3 (.string (str n1)) t.a (some ⟨g4, 0, none⟩) c4 (vs ++ [x])) ∧ Hid (x.ve = (q.version T).2)) := fun W b3 q As cs vs FW hfw => by
    refine (rversion_any FW.rs).mono ?_
    rintro e w5 ⟨x, rfl, hr5, hg5, hH5, hx5⟩
    have hgo := go_version_any T q
    obtain ⟨g4, c4, w6, hrun, k1, k2, k3, k4, k5⟩ := FW.item veLev appVe hg5 hr5 hH5 hgo (by
      have := hgo.1
      rcases hfw with ⟨k, _⟩ | k
      · exact ⟨by omega, fun z => by have := version_more z; omega⟩
      · subst k
        exact ⟨by show 0 + 1 ≤ _; omega, fun z => by have := version_more z; show 0 + 1 ≤ _; omega⟩)
    exact ⟨x, rfl, g4, c4, w6, hrun, k1, k2, k3, k4, k5, hx5⟩
  have SSTART : Hid (∀ x : LVe, x.ve = (q0.version T).2 → ∃ f, (qv.flt = 0 → T.length ≤ qv.i + f) ∧ (versL T f qv).1 = S ∧ v1 :: L = [x].map (·.ve) ++ (versL T f qv).2) := fun x hx => ⟨T.length + 1, fun _ => by omega, by rw [hSL], by
    rw [hSL]
    rw [hqv] at hx
    rw [List.map_singleton, hx]
    rfl⟩
  have HQV : Hid ((q0.version T).1 = qv) := by unfold Hid; rw [hqv]
  have fa := rfld_a t
  clear h hSL hV ht hqv hb1 hc1
  go_enter Tryz.func25, Tryz.ntmps25
  go_wp2_with (first
    | (go_at_call 46; (with_reducible refine ct.mono ?_); rintro e w2 ⟨rfl, hb2⟩; obtain ⟨w3, e3, hl2, F3⟩ := PRE.out w2 hb2; clear ct)
    | (go_at_call 47; (with_reducible refine (gz_word veLev F3.out [101, 118, 101, 110, 116] ⟨#[101, 118, 101, 110, 116]⟩ rfl hp1).mono ?_); rintro e w4 ⟨rfl, F4⟩)
    | (go_at_call 48; (with_reducible refine (gz_name veLev F4.out hq1).mono ?_); rintro e w5 ⟨rfl, c5, f5, F5⟩)
    | (go_at_call 49; (with_reducible refine (gz_mark veLev F5.out 123 hq0).mono ?_); rintro e w7 ⟨rfl, F7⟩))
  obtain ⟨b3, hb3⟩ : ∃ b3, w2.heap.size = b3 := ⟨_, rfl⟩
  rw [hb3] at hl2 F7
  simp only [hb3]
  clear fa PRE hb2 e3 F3 F4 F5 c5 f5 hb3
  have d4 : w7.cell? ⟨b3, 1, none⟩ = some (.slice none 0 0) := F7.out.s3.at_ 1
  have FD := F7.out.call veLev (Gn.of (Below.thenN (Below.refl _ w7) 1)) (F7.out.rs.below (Below.thenN (Below.refl _ w7) 1)) (Go_.refl q0)
  have cv4 := ITEM.out w7.drew b3 q0 none 0 [] FD (.inr rfl)
  clear FD
  go_region_law (first
    | (refine step_append_run rfl (.tmp 16) (.tmp 19) _ rfl rfl rfl HRUN.out ?_)
    | (go_simp; go_at_call 50; refine cv4.mono ?_; rintro e w17 ⟨x1, rfl, g4, c4, w8, HRUN, d7, l7, d8, f8, HG8, HX8⟩))
  all_goals
    rw [HQV.out] at HG8
    have HS0 := Lib.hid (SSTART.out x1 HX8.out)
    go_wp2
    clear HRUN d7 l7 d8 f8 HX8 cv4 d4 F7
    go_loopg [] (T.length) (fun k wr => ∃ (q : PS) (As : Option Addr) (cs : Nat) (vs : List LVe), Hid (GZ VeLev 45 (.string ⟨#[]⟩) w wr g A c T q w.heap.size b3 (.string (str n1)) t.a As cs vs) ∧ Hid (∃ f, (q.flt = 0 → T.length ≤ q.i + f) ∧ (versL T f q).1 = S ∧ v1 :: L = vs.map (·.ve) ++ (versL T f q).2) ∧ (if q.flt = 0 then T.length - q.i else 0) ≤ k)
    case atStart => exact ⟨qv, _, c4, [x1], HG8, HS0, by split <;> omega⟩
    case round =>
      clear HG8 HS0
      obtain ⟨q, As, cs, vs, HF, HS, hk⟩ := hrel
      obtain ⟨_, _, c3, _⟩ := HF.out.rs.cells
      have hl3 := HF.out.s3.len
      have d1 : wr.cell? ⟨b3, 1, none⟩ = some (.slice As vs.length cs) := HF.out.s3.at_ 1
      by_cases hzq : q.flt = 0
      · have hfz : ((q.flt : Int) == 0) = true := by rw [hzq]; rfl
        obtain ⟨b, hb⟩ : ∃ b, q.is T 4 [125] = b := ⟨_, rfl⟩
        have ci := gz_is veLev HF.out 125 hb
        cases b with
        | true =>
          have END : Hid (∀ W, (GZ VeLev 45 (.string ⟨#[]⟩) w W g A c T q w.heap.size b3 (.string (str n1)) t.a As cs vs) → Calls Tryz.prog 49 #[.pointer (some ⟨g, 0, none⟩), .string ⟨#[125]⟩] W fun e w4 => e = .returned (.tuple #[]) ∧ Hid ((GZ VeLev 45 (.string ⟨#[]⟩) w w4 g A c T E w.heap.size b3 (.string (str n1)) t.a As cs vs) ∧ v1 :: L = vs.map (·.ve))) := fun W hW => by
            obtain ⟨f, hf, h1, h2⟩ := HS.out
            rw [vers_no (.inr hb)] at h1 h2
            have h1' : q = S := h1
            refine (gz_mark (q' := E) veLev hW 125 (by rw [h1']; exact hE)).mono ?_
            rintro e w4 ⟨rfl, h4⟩
            exact ⟨rfl, h4.out, by rw [h2, List.append_nil]⟩
          clear hzq hb
          go_wp2_with (first
            | (go_at_call 24; (with_reducible refine ci.mono ?_); rintro e w5 ⟨rfl, hb5, F5⟩)
            | (go_at_call 49; (with_reducible refine (END.out _ F5.out).mono ?_); rintro e w7 ⟨rfl, F7⟩)
            | (refine wpList_load_cb rfl 45 (.tmp 3) rfl _ _ rfl F7.out.1.s3 Tryz.underlying45 rfl (by kernel_rfl) ?_)
            | (refine wpList_store_cb rfl 45 (.tmp 2) (.tmp 41) rfl w.heap.size _ _ rfl rfl F7.out.1.r2 rfl (by kernel_rfl) (by kernel_rfl) ?_; intro w9 h9 t9))
          obtain ⟨z1, z2, z3⟩ := F7.out.1.close veLev t9
          refine bodyPost_ret (results_cb rfl _ _ _ _ rfl h9 Tryz.underlying45 rfl (by kernel_rfl)) rfl ?_
          refine ⟨⟨n1, t.a, vs, As, cs⟩, rfl, by rw [HV.out]; exact z1, z2, z3, ?_⟩
          rw [HV.out, F7.out.2]
          rfl
        | false =>
          have STEP : Hid (∀ W, Below wr.heap.size wr W → Calls Tryz.prog 50 #[.pointer (some ⟨g, 0, none⟩)] W fun e w5 => ∃ x : LVe, e = .returned (.agg #[.int .u64 (x.num : Nat), .slice x.A x.st.length x.c, .int .i64 (x.at_ : Nat)]) ∧ ∃ g4 c4 w6,
              Hid ((Builtin.append_ #[43, 43] 43 #[.slice As vs.length cs, .slice (some ⟨w5.heap.size, 0, none⟩) 1 1]).run Tryz.prog (w5.alloc (.cells #[.int .u64 (x.num : Nat), .slice x.A x.st.length x.c, .int .i64 (x.at_ : Nat)] 49)) = .ok (.slice (some ⟨g4, 0, none⟩) (vs.length + 1) c4) w6) ∧
              w5.cell? ⟨b3, 1, none⟩ = some (.slice As vs.length cs) ∧ b3 < w5.heap.size ∧ w6.cell? ⟨b3, 1, none⟩ = some (.slice As vs.length cs) ∧ w6.frozen? ⟨b3, 1, none⟩ = false ∧
              Hid (GZ VeLev 45 (.string ⟨#[]⟩) w (w6.setCell ⟨b3, 1, none⟩ (.slice (some ⟨g4, 0, none⟩) (vs.length + 1) c4)) g A c T (q.version T).1 w.heap.size b3 (.string (str n1)) t.a (some ⟨g4, 0, none⟩) c4 (vs ++ [x])) ∧
              Hid (∃ f, ((q.version T).1.flt = 0 → T.length ≤ (q.version T).1.i + f) ∧ (versL T f (q.version T).1).1 = S ∧ v1 :: L = (vs ++ [x]).map (·.ve) ++ (versL T f (q.version T).1).2)) := fun W hW => by
            have FW := HF.out.call veLev (Gn.of hW) (HF.out.rs.below hW) (Go_.refl q)
            refine (ITEM.out W b3 q As cs vs FW (.inl ⟨HF.out.few.2 hzq, hzq⟩)).mono ?_
            rintro e w5 ⟨x, rfl, g4, c4, w6, HR, k1, k2, k3, k4, k5, hx5⟩
            refine ⟨x, rfl, g4, c4, w6, HR, k1, k2, k3, k4, k5, ?_⟩
            obtain ⟨f, hf, h1, h2⟩ := HS.out
            have := hf hzq
            have hin : q.i < T.length := HF.out.rs.pt.inn
            cases f with
            | zero => omega
            | succ f =>
              rw [vers_go hzq hb] at h1 h2
              refine ⟨f, fun z => by have := version_more z; omega, h1, ?_⟩
              rw [h2, List.map_append, List.append_assoc, ← hx5.out]
              rfl
          have NXT : Hid ((q.version T).1.flt = 0 → q.i + 1 ≤ (q.version T).1.i) := fun k => version_more k
          have hin : q.i < T.length := HF.out.rs.pt.inn
          rw [if_pos hzq] at hk
          clear hzq hb
          go_wp2_with (first
            | (go_at_call 24; (with_reducible refine ci.mono ?_); rintro e w6 ⟨rfl, hb6, F6⟩; have d6 := (hb6.cell (p := ⟨b3, 1, none⟩) hl3).trans d1; have hb57 : Below wr.heap.size wr w6.drew := Below.thenN hb6 1))
          go_region_law (first
            | (refine step_append_run rfl (.tmp 33) (.tmp 36) _ rfl rfl rfl HRUN.out ?_)
            | (go_simp; go_at_call 50; refine (STEP.out _ hb57).mono ?_; rintro e w7 ⟨x, rfl, g4, c4, w8, HRUN, d7, l7, d8, f8, HG8, HS8⟩))
          all_goals
            go_wp2
            go_roundg (gk - 1)
            case measure => omega
            case rel =>
              have hn := NXT.out
              exact ⟨_, _, c4, vs ++ [x], HG8, HS8, by split <;> omega⟩
      · have hfz : ((q.flt : Int) == 0) = false := by rw [beq_eq_false_iff_ne]; omega
        have END : Hid (∀ W, (GZ VeLev 45 (.string ⟨#[]⟩) w W g A c T q w.heap.size b3 (.string (str n1)) t.a As cs vs) → Calls Tryz.prog 49 #[.pointer (some ⟨g, 0, none⟩), .string ⟨#[125]⟩] W fun e w4 => e = .returned (.tuple #[]) ∧ Hid ((GZ VeLev 45 (.string ⟨#[]⟩) w w4 g A c T E w.heap.size b3 (.string (str n1)) t.a As cs vs) ∧ v1 :: L = vs.map (·.ve))) := fun W hW => by
          obtain ⟨f, hf, h1, h2⟩ := HS.out
          rw [vers_no (.inl hzq)] at h1 h2
          have h1' : q = S := h1
          refine (gz_mark (q' := E) veLev hW 125 (by rw [h1']; exact hE)).mono ?_
          rintro e w4 ⟨rfl, h4⟩
          exact ⟨rfl, h4.out, by rw [h2, List.append_nil]⟩
        clear hzq
        go_wp2_with (first
          | (go_at_call 49; (with_reducible refine (END.out _ HF.out).mono ?_); rintro e w7 ⟨rfl, F7⟩)
          | (refine wpList_load_cb rfl 45 (.tmp 3) rfl _ _ rfl F7.out.1.s3 Tryz.underlying45 rfl (by kernel_rfl) ?_)
          | (refine wpList_store_cb rfl 45 (.tmp 2) (.tmp 41) rfl w.heap.size _ _ rfl rfl F7.out.1.r2 rfl (by kernel_rfl) (by kernel_rfl) ?_; intro w9 h9 t9))
        obtain ⟨z1, z2, z3⟩ := F7.out.1.close veLev t9
        refine bodyPost_ret (results_cb rfl _ _ _ _ rfl h9 Tryz.underlying45 rfl (by kernel_rfl)) rfl ?_
        refine ⟨⟨n1, t.a, vs, As, cs⟩, rfl, by rw [HV.out]; exact z1, z2, z3, ?_⟩
        rw [HV.out, F7.out.2]
        rfl
end Go.Proofs.YtbngelinfpaefaaGreatDoor
