/- The walks of the code: events, a schema, an expression's text. -/
import Derived.Test.YtipcgmaobiobbaaGreatDoorParGi
import Derived.Test.YtipcgmaobiobbaaGreatDoorParGd
namespace Go.Proofs.YtipcgmaobiobbaaGreatDoor
open Go.RowKit

theorem go_event (T : List Tk) (p : PS) : Go_ (p.word T [101, 118, 101, 110, 116]) (p.event T).1 := by
  rw [event_eq]
  generalize p.word T [101, 118, 101, 110, 116] = p1
  have a1 := go_name (T := T) p1
  generalize p1.name T = r at a1 ⊢
  have a2 := a1.trans (go_mark T r.1 123)
  generalize r.1.mark T 123 = q0 at a2 ⊢
  have a3 := a2.trans (go_version_any T q0)
  generalize q0.version T = v at a3 ⊢
  have a4 := a3.trans (go_vers (T := T) (T.length + 1) v.1)
  generalize versL T (T.length + 1) v.1 = u at a4 ⊢
  exact a4.trans (go_mark T u.1 125)
theorem go_event_on {T : List Tk} {q : PS} (h : q.is T 1 [101, 118, 101, 110, 116] = true) : q.i + 1 ≤ (q.event T).1.i ∧ Go_ q (q.event T).1 := by
  have := go_event T q
  rw [word_next h] at this
  exact ⟨this.1, (go_next q (is_ok q h).1).trans this⟩
theorem events_on {T : List Tk} {q : PS} {f : Nat} (h : q.is T 1 [101, 118, 101, 110, 116] = true) : eventsL T (f + 1) q = ((eventsL T f (q.event T).1).1, (q.event T).2 :: (eventsL T f (q.event T).1).2) := by
  conv => lhs; unfold eventsL
  rw [ls_event, if_pos h]
theorem events_end {T : List Tk} {q : PS} {f : Nat} (h : q.is T 1 [101, 118, 101, 110, 116] = false) : eventsL T f q = (q, []) := by
  cases f with
  | zero => rfl
  | succ f => unfold eventsL; rw [ls_event, h, if_neg (by decide)]
theorem go_events {T : List Tk} : ∀ (f : Nat) (q : PS), Go_ q (eventsL T f q).1 := by
  intro f
  induction f with
  | zero => exact fun q => Go_.refl q
  | succ f ih =>
    intro q
    by_cases h : q.is T 1 [101, 118, 101, 110, 116] = true
    · rw [events_on h]
      exact (go_event_on h).2.trans (ih _)
    · rw [events_end (by simpa using h)]
      exact Go_.refl q

/-- what the events answer -/
def EvsAt (g : Nat) (A : Option Addr) (c : Nat) (T : List Tk) (p : PS) (w : World) (e : Ending) (w' : World) : Prop :=
  ∃ As cs es, e = .returned (.slice As (List.length (α := LEv) es) cs) ∧ RS w' g A c T (eventsL T (T.length + 1) p).1 ∧ Gn g w w' ∧ Built EvLev w' w.heap.size As cs es ∧ ((eventsL T (T.length + 1) p).1.flt = 0 → es.map (·.ev) = (eventsL T (T.length + 1) p).2)

set_option maxRecDepth 100000 in
set_option maxHeartbeats 4000000 in
theorem cevents_any {w : World} {g : Nat} {A : Option Addr} {c : Nat} {T : List Tk} {p : PS} (h : RS w g A c T p) (hp : p.i = 0) :
    Calls Tryz.prog 18 #[.pointer (some ⟨g, 0, none⟩)] w (EvsAt g A c T p w) := by
  have hgl := h.len
  have hfew := h.few
  obtain ⟨E, L, hEL⟩ : ∃ S L, eventsL T (T.length + 1) p = (S, L) := ⟨_, _, rfl⟩
  have HEL := Lib.hid hEL
  have HR := Lib.hid h
  have SSTART : Hid (∃ f, (p.flt = 0 → T.length ≤ p.i + f) ∧ (eventsL T f p).1 = E ∧ (E.flt = 0 → L = ([] : List LEv).map (·.ev) ++ (eventsL T f p).2)) := ⟨T.length + 1, fun _ => by omega, by rw [hEL], fun _ => by rw [hEL]; rfl⟩
  clear h hEL
  go_enter Tryz.func18, Tryz.ntmps18
  go_wp2
  go_loopg [3] (T.length) (fun k v wr => ∃ (q : PS) (As : Option Addr) (cs : Nat) (es : List LEv), v = .slice As es.length cs ∧ Hid (RS wr g A c T q ∧ Gn g w wr ∧ Built EvLev wr w.heap.size As cs es ∧ es.length ≤ q.i) ∧ Hid (∃ f, (q.flt = 0 → T.length ≤ q.i + f) ∧ (eventsL T f q).1 = E ∧ (E.flt = 0 → L = es.map (·.ev) ++ (eventsL T f q).2)) ∧ T.length - q.i ≤ k)
  case atStart => exact ⟨p, none, 0, [], rfl, ⟨HR.out, Gn.refl g w, Built.nil _ _ _, Nat.zero_le _⟩, SSTART, by omega⟩
  case round =>
    obtain ⟨q, As, cs, es, rfl, HF, HS, hk⟩ := hrel
    have hin : q.i < T.length := HF.out.1.inn
    obtain ⟨b, hb⟩ : ∃ b, q.is T 1 [101, 118, 101, 110, 116] = b := ⟨_, rfl⟩
    have ca : Calls Tryz.prog 33 #[.pointer (some ⟨g, 0, none⟩), .string ⟨#[101, 118, 101, 110, 116]⟩] wr fun e w' => e = .returned (.bool b) ∧ Below wr.heap.size wr w' := by
      have := catWord_any HF.out.1 [101, 118, 101, 110, 116]
      rw [hb] at this
      exact this
    cases b with
    | false =>
      have END : Hid (∀ W, Below wr.heap.size wr W → EvsAt g A c T p w (.returned (.slice As es.length cs)) W) := fun W hW => by
        obtain ⟨f, hf, h1, h2⟩ := HS.out
        rw [events_end hb] at h1 h2
        obtain ⟨r1, r2, r3, r4⟩ := HF.out
        unfold EvsAt
        rw [HEL.out]
        refine ⟨As, cs, es, rfl, by rw [← h1]; exact r1.below hW, r2.trans (Gn.of hW), r3.below evLev hW, fun z => ?_⟩
        rw [h2 z, List.append_nil]
      clear hb
      go_wp2_with (go_at_call 33; refine ca.mono ?_; rintro e w5 ⟨rfl, hb5⟩)
      go_ret
      exact END.out _ hb5
    | true =>
      have STEP : Hid (∀ W, Below wr.heap.size wr W → Calls Tryz.prog 34 #[.pointer (some ⟨g, 0, none⟩)] W fun e w5 => ∃ x : LEv, e = .returned (.agg #[.string (str x.name), .slice x.A x.vs.length x.c, .int .i64 (x.at_ : Nat)]) ∧ ∃ g4 c4 w6,
          Hid ((Builtin.append_ #[22, 22] 22 #[.slice As es.length cs, .slice (some ⟨w5.heap.size, 0, none⟩) 1 1]).run Tryz.prog (w5.alloc (.cells #[.string (str x.name), .slice x.A x.vs.length x.c, .int .i64 (x.at_ : Nat)] 48)) = .ok (.slice (some ⟨g4, 0, none⟩) (es.length + 1) c4) w6) ∧
          Hid (RS w6 g A c T (q.event T).1 ∧ Gn g w w6 ∧ Built EvLev w6 w.heap.size (some ⟨g4, 0, none⟩) c4 (es ++ [x]) ∧ (es ++ [x]).length ≤ (q.event T).1.i) ∧
          Hid (∃ f, ((q.event T).1.flt = 0 → T.length ≤ (q.event T).1.i + f) ∧ (eventsL T f (q.event T).1).1 = E ∧ (E.flt = 0 → L = (es ++ [x]).map (·.ev) ++ (eventsL T f (q.event T).1).2))) := fun W hW => by
        obtain ⟨r1, r2, r3, r4⟩ := HF.out
        have hgo := go_event_on hb
        refine (cevent_any (r1.below hW) hb).mono ?_
        rintro e w5 ⟨x, rfl, hr5, hg5, hH5, hx5⟩
        have hg15 : Gn g wr w5 := (Gn.of hW).trans hg5
        have hw0 := r2.size
        have hw1 := hW.size
        have hbd := r3.bd evLev
        have hB5 : Built EvLev w5 w.heap.size As cs es := r3.keep evLev fun b hb => hg15.other (hbd b hb).2 (by have := (hbd b hb).1; omega)
        have hbx := evLev.bd hH5
        have hlt := hr5.i_lt
        obtain ⟨g4, c4, w6, hrun, hB6, hat, hgr⟩ := appEv hB5 x (evLev.low hH5 (by omega)) (fun b hb hb2 => by have := (hbx b hb).1; have := (hbd b hb2).2; omega) (by omega) (Nat.le_trans hw0 hg15.size)
        have hna : ∀ b, b < w.heap.size → obk As ≠ some b := fun b hb e => by have := (hbd b (mem_bls.2 (.inl e))).1; omega
        have hs5 := hg15.size
        have hb6 : Below w.heap.size w5 w6 := ⟨hgr.os, hgr.tape, hgr.output, hgr.size, fun b hb => hgr.block b (by omega) fun e => hna b hb e.symm⟩
        refine ⟨x, rfl, g4, c4, w6, hrun, ⟨hr5.keep (hb6.mono (by omega)) (hb6.block g hgl), ?_, hB6, by rw [List.length_append]; show es.length + 1 ≤ _; omega⟩, ?_⟩
        · have hgw := r2.trans hg15
          exact ⟨hb6.os.trans hgw.os, hb6.tape.trans hgw.tape, hb6.output.trans hgw.output, Nat.le_trans hgw.size hb6.size, fun k hk hne => (hb6.block k hk).trans (hgw.block k hk hne)⟩
        · obtain ⟨f, hf, h1, h2⟩ := HS.out
          have := hf (is_ok q hb).1
          cases f with
          | zero => omega
          | succ f =>
            rw [events_on hb] at h1 h2
            refine ⟨f, fun _ => by omega, h1, fun z => ?_⟩
            have gE : Go_ (q.event T).1 E := by
              rw [← h1]
              exact go_events f _
            rw [h2 z, List.map_append, List.append_assoc, ← hx5 (flt_back gE z)]
            rfl
      have NXT : Hid (q.i + 1 ≤ (q.event T).1.i) := (go_event_on hb).1
      clear hb
      go_wp2_with (first
        | (go_at_call 33; refine ca.mono ?_; rintro e w5 ⟨rfl, hb5⟩)
        | (go_at_call 34; refine (STEP.out _ hb5).mono ?_; rintro e w7 ⟨x, rfl, g4, c4, w8, HRUN, HG8, HX8⟩)
        | (at_builtin; refine wpList_append_run rfl (.tmp 6) (.tmp 9) _ rfl rfl rfl HRUN.out ?_))
      go_roundg (gk - 1)
      case measure => omega
      case rel =>
        have hn := NXT.out
        exact ⟨_, _, c4, es ++ [x], by simp, HG8, HX8, by omega⟩
/-- what is answered of a text as a schema, as an expression -/
def schS (s : ByteArray) : SR := match lexS s with
  | .bad a e => .bad a e
  | .ok T => if (((eventsL T (T.length + 1) PS.zero).1).end_ T).flt ≠ 0 then .bad (((eventsL T (T.length + 1) PS.zero).1).end_ T).plc (((eventsL T (T.length + 1) PS.zero).1).end_ T).flt else .ok (eventsL T (T.length + 1) PS.zero).2
def valS (s : ByteArray) : VR := match lexS s with
  | .bad a e => .bad a e
  | .ok T => if ((PS.zero.value T).end_ T).flt ≠ 0 then .bad ((PS.zero.value T).end_ T).plc ((PS.zero.value T).end_ T).flt else .ok (PS.zero.value T).nds
def SR.plc : SR → Nat | .ok _ => 0 | .bad a _ => a
def SR.err : SR → Nat | .ok _ => 0 | .bad _ e => e
def SR.evs : SR → List Ev | .ok l => l | .bad _ _ => []
def VR.plc : VR → Nat | .ok _ => 0 | .bad a _ => a
def VR.err : VR → Nat | .ok _ => 0 | .bad _ e => e
def VR.nds : VR → List Nd | .ok l => l | .bad _ _ => []
def SchAt (s : ByteArray) (w : World) (e : Ending) (w' : World) : Prop :=
  ∃ As cs es, e = .returned (.tuple #[.agg #[.slice As (List.length (α := LEv) es) cs], .int .i64 ((schS s).plc : Nat), .int .i64 ((schS s).err : Nat)]) ∧ Below w.heap.size w w' ∧ Built EvLev w' w.heap.size As cs es ∧ es.map (·.ev) = (schS s).evs
def ValAt (s : ByteArray) (w : World) (e : Ending) (w' : World) : Prop :=
  ∃ An cn, e = .returned (.tuple #[.slice An (valS s).nds.length cn, .int .i64 ((valS s).plc : Nat), .int .i64 ((valS s).err : Nat)]) ∧ Below w.heap.size w w' ∧ OwnN w' w.heap.size An cn (valS s).nds

theorem go_end (T : List Tk) (p : PS) : Go_ p (p.end_ T) := by
  unfold PS.end_
  split
  · exact go_fail p _ _
  · exact Go_.refl p
/-- a reader just laid at a text's tokens -/
theorem rs_new {w w1 : World} {A : Option Addr} {c : Nat} {T : List Tk} (ht : TRow w w.heap.size A T) (hE : TkEnds T) (hp : 1 ≤ T.length) (hf : T.length ≤ 2000000) (hw : w1 = w.alloc (.cells #[.slice A T.length c, .int .i64 0, .int .i64 0, .int .i64 0] 58)) :
    RS w1 w.heap.size A c T PS.zero := by
  subst hw
  exact ⟨heap_alloc_new w _, ht.below ((Below.refl _ w).alloc (Nat.le_refl _) _), hE, hp, hf⟩

set_option maxRecDepth 100000 in
set_option maxHeartbeats 4000000 in
theorem cvalue_any (w : World) (s : ByteArray) (hEV : EV w) : Calls Tryz.prog 10 #[.string s] w (ValAt s w) := by
  have cl := lex_any w s hEV
  cases hR : lexS s with
  | bad a x =>
    have hv : valS s = .bad a x := by unfold valS; rw [hR]
    have hx0 : x ≠ 0 := by
      unfold lexS at hR
      split at hR
      · cases hR; decide
      · exact (lex_err _ _ _ (Nat.le_refl _) hR).1
    have cl' : Calls Tryz.prog 17 #[.string s] w fun e w' => e = .returned (.tuple #[.slice none 0 0, .int .i64 (a : Nat), .int .i64 (x : Nat)]) ∧ Below w.heap.size w w' := cl.mono fun e w' h => by
      rw [hR] at h
      exact ⟨h.2, h.1⟩
    have hx : ((x : Int) != 0) = true := by simp; omega
    have HV := Lib.hid hv
    clear cl hR hv hx0
    go_enter Tryz.func10, Tryz.ntmps10
    go_wp2_with (go_at_call 17; refine cl'.mono ?_; rintro e w2 ⟨rfl, hb2⟩)
    refine bodyPost_ret (results_three rfl _ _ _ _ _ rfl rfl rfl) rfl ?_
    unfold ValAt
    rw [HV.out]
    exact ⟨none, 0, rfl, hb2, OwnN.nil _ _⟩
  | ok T =>
    have hL : lexL (ls s) 0 = .ok T ∧ T.length ≤ 1048577 := by
      unfold lexS at hR
      split at hR
      · cases hR
      · rename_i hs
        have := lex_len _ _ _ (Nat.le_refl _) hR
        rw [ls_size] at this
        exact ⟨hR, by omega⟩
    have hE := lex_ends _ _ _ (Nat.le_refl _) hL.1
    obtain ⟨T0, hT0⟩ := lex_last _ _ _ (Nat.le_refl _) hL.1
    have hT1 : 1 ≤ T.length := by rw [hT0, List.length_append]; show 1 ≤ _ + 1; omega
    have cl' : Calls Tryz.prog 17 #[.string s] w fun e w' => ∃ A c, e = .returned (.tuple #[.slice A T.length c, .int .i64 0, .int .i64 0]) ∧ Below w.heap.size w w' ∧ Hid (TRow w' w'.heap.size A T) := cl.mono fun e w' h => by
      rw [hR] at h
      obtain ⟨hb, A, c, h, ht⟩ := h
      exact ⟨A, c, h, hb, ht⟩
    obtain ⟨q, hq⟩ : ∃ q, PS.zero.value T = q := ⟨_, rfl⟩
    obtain ⟨z, hz⟩ : ∃ z, q.end_ T = z := ⟨_, rfl⟩
    have hv : valS s = if z.flt ≠ 0 then .bad z.plc z.flt else .ok q.nds := by unfold valS; rw [hR]; dsimp only; rw [hq, hz]
    have HV := Lib.hid hv
    have RD : Hid (∀ w2 A c, TRow w2 w2.heap.size A T → Calls Tryz.prog 23 #[.pointer (some ⟨w2.heap.size, 0, none⟩)] (w2.alloc (.cells #[.slice A T.length c, .int .i64 0, .int .i64 0, .int .i64 0] 58)) fun e w3 => ∃ (An : Option Addr) (cn : Nat) (l : List Nd), e = .returned (.slice An l.length cn) ∧
        Calls Tryz.prog 19 #[.pointer (some ⟨w2.heap.size, 0, none⟩)] w3 fun e w4 => e = .returned (.tuple #[]) ∧ w4.cell? ⟨w2.heap.size, 2, none⟩ = some (.int .i64 (z.plc : Nat)) ∧ w4.cell? ⟨w2.heap.size, 3, none⟩ = some (.int .i64 (z.flt : Nat)) ∧ Hid (Below w2.heap.size w2 w4 ∧ OwnN w4 w2.heap.size An cn l ∧ (z.flt = 0 → l = q.nds))) := fun w2 A c ht => by
      have hr := rs_new (c := c) ht hE hT1 (by omega) rfl
      have hb1 : Below w2.heap.size w2 (w2.alloc (.cells #[.slice A T.length c, .int .i64 0, .int .i64 0, .int .i64 0] 58)) := (Below.refl _ w2).alloc (Nat.le_refl _) _
      refine (cexpression_any hr).mono ?_
      rintro e w3 ⟨An, cn, l, rfl, hr3, hg3, ho3, hx3, _⟩
      rw [hq] at hr3 hx3
      refine ⟨An, cn, l, rfl, (cend_any hr3).mono ?_⟩
      rintro e w4 ⟨rfl, hr4, hg4⟩
      rw [hz] at hr4
      obtain ⟨_, _, c2, c3⟩ := hr4.blk.cells
      refine ⟨rfl, c2, c3, ?_, ?_, fun k => hx3 (flt_back (by rw [← hz]; exact go_end T q) k)⟩
      · exact hb1.trans (((hg3.trans hg4).below (by simp) (Nat.le_refl _)))
      · refine ownsRow_keep (ownsRow_low ho3 (by simp)) fun b hb => ?_
        have := World.ownsRow.lt ho3 b (by rw [obk_own]; exact hb)
        have h1 : (w2.alloc (.cells #[.slice A T.length c, .int .i64 0, .int .i64 0, .int .i64 0] 58)).heap.size = w2.heap.size + 1 := by simp
        exact hg4.other this.2 (by omega)
    clear cl hR hL hE hT0 hT1 hq hz hv
    by_cases hf : z.flt = 0
    · have hfz : ((z.flt : Int) != 0) = false := by rw [hf]; rfl
      have END : Hid (∀ w2 w4 An cn (l : List Nd), Below w.heap.size w w2 → (Below w2.heap.size w2 w4 ∧ OwnN w4 w2.heap.size An cn l ∧ (z.flt = 0 → l = q.nds)) → ValAt s w (.returned (.tuple #[.slice An l.length cn, .int .i64 0, .int .i64 0])) w4) := fun w2 w4 An cn l hb2 h => by
        obtain ⟨h1, h2, h3⟩ := h
        unfold ValAt
        rw [HV.out, if_neg (fun k => k hf)]
        have e := h3 hf
        subst e
        exact ⟨An, cn, rfl, Below.both hb2 h1, ownsRow_low h2 hb2.size⟩
      clear hf
      go_enter Tryz.func10, Tryz.ntmps10
      go_wp2_with (first
        | (go_at_call 17; refine cl'.mono ?_; rintro e w2 ⟨A, c, rfl, hb2, ht2⟩; have ce := RD.out w2 A c ht2.out)
        | (go_at_call 23; refine ce.mono ?_; rintro e w3 ⟨An, cn, l, rfl, cz⟩)
        | (go_at_call 19; refine cz.mono ?_; rintro e w4 ⟨rfl, d2, d3, H4⟩))
      exact bodyPost_ret (v := .tuple #[.slice An l.length cn, .int .i64 0, .int .i64 0]) (results_three rfl _ _ _ _ _ rfl rfl rfl) rfl (END.out w2 w4 An cn l hb2 H4.out)
    · have hfz : ((z.flt : Int) != 0) = true := by simp; omega
      have END : Hid (∀ w2 w4 n, Below w.heap.size w w2 → Below w2.heap.size w2 w4 → ValAt s w (.returned (.tuple #[.slice none 0 0, .int .i64 (z.plc : Nat), .int .i64 (z.flt : Nat)])) (w4.drewN n)) := fun w2 w4 n hb2 h => by
        unfold ValAt
        rw [HV.out, if_pos hf]
        exact ⟨none, 0, rfl, Below.thenN (Below.both hb2 h) n, OwnN.nil _ _⟩
      clear hf
      go_enter Tryz.func10, Tryz.ntmps10
      go_wp2_with (first
        | (go_at_call 17; refine cl'.mono ?_; rintro e w2 ⟨A, c, rfl, hb2, ht2⟩; have ce := RD.out w2 A c ht2.out)
        | (go_at_call 23; refine ce.mono ?_; rintro e w3 ⟨An, cn, l, rfl, cz⟩)
        | (go_at_call 19; refine cz.mono ?_; rintro e w4 ⟨rfl, d2, d3, H4⟩))
      go_quiet (fail)
      go_wp2
      exact bodyPost_ret (v := .tuple #[.slice none 0 0, .int .i64 (z.plc : Nat), .int .i64 (z.flt : Nat)]) (results_three rfl _ _ _ _ _ rfl rfl rfl) rfl (END.out w2 w4 _ hb2 H4.out.1)
end Go.Proofs.YtipcgmaobiobbaaGreatDoor
/- The walk of the code: a schema. -/
namespace Go.Proofs.YtipcgmaobiobbaaGreatDoor
open Go.RowKit

/-- a struct of one cell, a place and an error: what is answered -/
theorem results_sch {fn : Func} {s t q : Tmp} (h : fn.results = #[.cell s 24, .tmp t, .tmp q]) (tmps : Array Value) (w : World) (b : Nat) (x u v : Value)
    (hp : tmps.getD s undef = .pointer (some ⟨b, 0, none⟩)) (he : tmps.getD t undef = u) (hv : tmps.getD q undef = v) (hb : CB w b 24 #[x]) : (results fn tmps).run Tryz.prog w = .ok (.tuple #[.agg #[x], u, v]) w := by
  unfold results
  rw [h]
  have hp' : tmps[s]?.getD undef = .pointer (some ⟨b, 0, none⟩) := by simpa [Array.getD_eq_getD_getElem?] using hp
  have he' : tmps[t]?.getD undef = u := by simpa [Array.getD_eq_getD_getElem?] using he
  have hv' : tmps[q]?.getD undef = v := by simpa [Array.getD_eq_getD_getElem?] using hv
  simp [hp', he', hv', asAddr, hb.load Tryz.underlying24 rfl (by kernel_rfl)]

set_option maxRecDepth 100000 in
set_option maxHeartbeats 4000000 in
theorem cschema_any (w : World) (s : ByteArray) (hEV : EV w) : Calls Tryz.prog 7 #[.string s] w (SchAt s w) := by
  have hb0 : Below w.heap.size w (w.alloc (.cells #[.slice none 0 0] 24)) := (Below.refl _ w).alloc (Nat.le_refl _) _
  have hc0 : CB (w.alloc (.cells #[.slice none 0 0] 24)) w.heap.size 24 #[.slice none 0 0] := CB.new w _ _
  have hs0 : (w.alloc (.cells #[.slice none 0 0] 24)).heap.size = w.heap.size + 1 := by simp
  have cl := lex_any (w.alloc (.cells #[.slice none 0 0] 24)) s (hEV.new _)
  cases hR : lexS s with
  | bad a x =>
    have hv : schS s = .bad a x := by unfold schS; rw [hR]
    have hx0 : x ≠ 0 := by
      unfold lexS at hR
      split at hR
      · cases hR; decide
      · exact (lex_err _ _ _ (Nat.le_refl _) hR).1
    have cl' : Calls Tryz.prog 17 #[.string s] (w.alloc (.cells #[.slice none 0 0] 24)) fun e w' => e = .returned (.tuple #[.slice none 0 0, .int .i64 (a : Nat), .int .i64 (x : Nat)]) ∧ Below (w.alloc (.cells #[.slice none 0 0] 24)).heap.size (w.alloc (.cells #[.slice none 0 0] 24)) w' := cl.mono fun e w' h => by
      rw [hR] at h
      exact ⟨h.2, h.1⟩
    have hx : ((x : Int) != 0) = true := by simp; omega
    have HV := Lib.hid hv
    clear cl hR hv hx0
    go_enter Tryz.func7, Tryz.ntmps7
    go_wp2_with (first
      | (go_at_call 17; refine cl'.mono ?_; rintro e w2 ⟨rfl, hb2⟩; have hc2 := hc0.below hb2; have k2 : w2.cell? ⟨w.heap.size, 0, none⟩ = some (.slice none 0 0) := hc2.at_ 0; have y2 := hc2.frozen 0))
    have t9 : Turned w.heap.size w2 (w2.setCell ⟨w.heap.size, 0, none⟩ (.slice none 0 0)) := (Turned.refl _ _).setCell 0 _
    have h9 : CB (w2.setCell ⟨w.heap.size, 0, none⟩ (.slice none 0 0)) w.heap.size 24 #[.slice none 0 0] := heap_setCell_same w2 w.heap.size 0 _ _ _ hc2
    refine bodyPost_ret (v := .tuple #[.agg #[.slice none 0 0], .int .i64 (a : Nat), .int .i64 (x : Nat)]) (results_sch rfl _ _ _ _ _ _ rfl rfl rfl h9) rfl ?_
    unfold SchAt
    rw [HV.out]
    exact ⟨none, 0, [], rfl, (hb0.trans (hb2.mono (by omega))).trans (t9.below (Nat.le_refl _)), Built.nil _ _ _, rfl⟩
  | ok T =>
    have hL : lexL (ls s) 0 = .ok T ∧ T.length ≤ 1048577 := by
      unfold lexS at hR
      split at hR
      · cases hR
      · rename_i hs
        have := lex_len _ _ _ (Nat.le_refl _) hR
        rw [ls_size] at this
        exact ⟨hR, by omega⟩
    have hE := lex_ends _ _ _ (Nat.le_refl _) hL.1
    obtain ⟨T0, hT0⟩ := lex_last _ _ _ (Nat.le_refl _) hL.1
    have hT1 : 1 ≤ T.length := by rw [hT0, List.length_append]; show 1 ≤ _ + 1; omega
    have cl' : Calls Tryz.prog 17 #[.string s] (w.alloc (.cells #[.slice none 0 0] 24)) fun e w' => ∃ A c, e = .returned (.tuple #[.slice A T.length c, .int .i64 0, .int .i64 0]) ∧ Below (w.alloc (.cells #[.slice none 0 0] 24)).heap.size (w.alloc (.cells #[.slice none 0 0] 24)) w' ∧ Hid (TRow w' w'.heap.size A T) := cl.mono fun e w' h => by
      rw [hR] at h
      obtain ⟨hb, A, c, h, ht⟩ := h
      exact ⟨A, c, h, hb, ht⟩
    obtain ⟨q, L, hq⟩ : ∃ q L, eventsL T (T.length + 1) PS.zero = (q, L) := ⟨_, _, rfl⟩
    obtain ⟨z, hz⟩ : ∃ z, q.end_ T = z := ⟨_, rfl⟩
    have hv : schS s = if z.flt ≠ 0 then .bad z.plc z.flt else .ok L := by unfold schS; rw [hR]; dsimp only; rw [hq]; dsimp only; rw [hz]
    have HV := Lib.hid hv
    have RD : Hid (∀ w2 A c, TRow w2 w2.heap.size A T → Calls Tryz.prog 18 #[.pointer (some ⟨w2.heap.size, 0, none⟩)] (w2.alloc (.cells #[.slice A T.length c, .int .i64 0, .int .i64 0, .int .i64 0] 58)) fun e w3 => ∃ (An : Option Addr) (cn : Nat) (l : List LEv), e = .returned (.slice An l.length cn) ∧
        Calls Tryz.prog 19 #[.pointer (some ⟨w2.heap.size, 0, none⟩)] w3 fun e w4 => e = .returned (.tuple #[]) ∧ w4.cell? ⟨w2.heap.size, 2, none⟩ = some (.int .i64 (z.plc : Nat)) ∧ w4.cell? ⟨w2.heap.size, 3, none⟩ = some (.int .i64 (z.flt : Nat)) ∧ Below w2.heap.size w2 w4 ∧ Hid (Built EvLev w4 w2.heap.size An cn l ∧ (z.flt = 0 → l.map (·.ev) = L))) := fun w2 A c ht => by
      have hr := rs_new (c := c) ht hE hT1 (by omega) rfl
      have hb1 : Below w2.heap.size w2 (w2.alloc (.cells #[.slice A T.length c, .int .i64 0, .int .i64 0, .int .i64 0] 58)) := (Below.refl _ w2).alloc (Nat.le_refl _) _
      have h1 : (w2.alloc (.cells #[.slice A T.length c, .int .i64 0, .int .i64 0, .int .i64 0] 58)).heap.size = w2.heap.size + 1 := by simp
      refine (cevents_any hr rfl).mono ?_
      rintro e w3 ⟨An, cn, l, rfl, hr3, hg3, ho3, hx3⟩
      rw [hq] at hr3 hx3
      dsimp only at hr3 hx3
      refine ⟨An, cn, l, rfl, (cend_any hr3).mono ?_⟩
      rintro e w4 ⟨rfl, hr4, hg4⟩
      rw [hz] at hr4
      obtain ⟨_, _, c2, c3⟩ := hr4.blk.cells
      refine ⟨rfl, c2, c3, hb1.trans (((hg3.trans hg4).below (by omega) (Nat.le_refl _))), ?_, fun k => hx3 (flt_back (by rw [← hz]; exact go_end T q) k)⟩
      refine (ho3.low evLev (by omega)).keep evLev fun b hb => ?_
      have := ho3.bd evLev b hb
      exact hg4.other this.2 (by omega)
    clear cl hR hL hE hT0 hT1 hq hz hv
    by_cases hf : z.flt = 0
    · have hfz : ((z.flt : Int) != 0) = false := by rw [hf]; rfl
      have END : Hid (∀ w2 w4 w9 An cn (l : List LEv), Below (w.heap.size + 1) (w.alloc (.cells #[.slice none 0 0] 24)) w2 → Below w2.heap.size w2 w4 → (Built EvLev w4 w2.heap.size An cn l ∧ (z.flt = 0 → l.map (·.ev) = L)) → Turned w.heap.size w4 w9 → w.heap.size < w2.heap.size → SchAt s w (.returned (.tuple #[.agg #[.slice An l.length cn], .int .i64 0, .int .i64 0])) w9) := fun w2 w4 w9 An cn l hb2 h1 h t9 hl2 => by
        obtain ⟨h2, h3⟩ := h
        unfold SchAt
        rw [HV.out, if_neg (fun k => k hf)]
        have hg9 : Gn w.heap.size w4 w9 := t9.grown
        refine ⟨An, cn, l, rfl, ((hb0.trans (hb2.mono (by omega))).trans (h1.mono (by omega))).trans (t9.below (Nat.le_refl _)), (h2.keep evLev fun b hb => ?_).low evLev (by omega), h3 hf⟩
        have := h2.bd evLev b hb
        exact hg9.other this.2 (by omega)
      clear hf
      go_enter Tryz.func7, Tryz.ntmps7
      go_wp2_with (first
        | (go_at_call 17; refine cl'.mono ?_; rintro e w2 ⟨A, c, rfl, hb2, ht2⟩; have ce := RD.out w2 A c ht2.out; have hc2 := hc0.below hb2; have hl2 := hc2.len)
        | (go_at_call 18; refine ce.mono ?_; rintro e w3 ⟨An, cn, l, rfl, cz⟩)
        | (go_at_call 19; refine cz.mono ?_; rintro e w4 ⟨rfl, d2, d3, hb4, H4⟩; have hc4 := hc2.below hb4; have k4 : w4.cell? ⟨w.heap.size, 0, none⟩ = some (.slice none 0 0) := hc4.at_ 0; have y4 := hc4.frozen 0))
      have t9 : Turned w.heap.size w4 (w4.setCell ⟨w.heap.size, 0, none⟩ (.slice An l.length cn)) := (Turned.refl _ _).setCell 0 _
      have h9 : CB (w4.setCell ⟨w.heap.size, 0, none⟩ (.slice An l.length cn)) w.heap.size 24 #[.slice An l.length cn] := heap_setCell_same w4 w.heap.size 0 _ _ _ hc4
      exact bodyPost_ret (v := .tuple #[.agg #[.slice An l.length cn], .int .i64 0, .int .i64 0]) (results_sch rfl _ _ _ _ _ _ rfl rfl rfl h9) rfl (END.out w2 w4 _ An cn l (hb2.mono (by omega)) hb4 H4.out t9 hl2)
    · have hfz : ((z.flt : Int) != 0) = true := by simp; omega
      have END : Hid (∀ w2 w4, Below (w.heap.size + 1) (w.alloc (.cells #[.slice none 0 0] 24)) w2 → Below w2.heap.size w2 w4 → w.heap.size < w2.heap.size → SchAt s w (.returned (.tuple #[.agg #[.slice none 0 0], .int .i64 (z.plc : Nat), .int .i64 (z.flt : Nat)])) (w4.setCell ⟨w.heap.size, 0, none⟩ (.slice none 0 0)).drew) := fun w2 w4 hb2 h1 hl2 => by
        unfold SchAt
        rw [HV.out, if_pos hf]
        have t9 : Turned w.heap.size w4 (w4.setCell ⟨w.heap.size, 0, none⟩ (.slice none 0 0)) := (Turned.refl _ _).setCell 0 _
        exact ⟨none, 0, [], rfl, Below.thenN (((hb0.trans (hb2.mono (by omega))).trans (h1.mono (by omega))).trans (t9.below (Nat.le_refl _))) 1, Built.nil _ _ _, rfl⟩
      clear hf
      go_enter Tryz.func7, Tryz.ntmps7
      go_wp2_with (first
        | (go_at_call 17; refine cl'.mono ?_; rintro e w2 ⟨A, c, rfl, hb2, ht2⟩; have ce := RD.out w2 A c ht2.out; have hc2 := hc0.below hb2; have hl2 := hc2.len)
        | (go_at_call 18; refine ce.mono ?_; rintro e w3 ⟨An, cn, l, rfl, cz⟩)
        | (go_at_call 19; refine cz.mono ?_; rintro e w4 ⟨rfl, d2, d3, hb4, H4⟩; have hc4 := hc2.below hb4; have k4 : w4.cell? ⟨w.heap.size, 0, none⟩ = some (.slice none 0 0) := hc4.at_ 0; have y4 := hc4.frozen 0))
      go_region
      all_goals
        go_wp2
        have h9 : CB (w4.setCell ⟨w.heap.size, 0, none⟩ (.slice none 0 0)).drew w.heap.size 24 #[.slice none 0 0] := heap_setCell_same w4 w.heap.size 0 _ _ _ hc4
        exact bodyPost_ret (v := .tuple #[.agg #[.slice none 0 0], .int .i64 (z.plc : Nat), .int .i64 (z.flt : Nat)]) (results_sch rfl _ _ _ _ _ _ rfl rfl rfl h9) rfl (END.out w2 w4 (hb2.mono (by omega)) hb4 hl2)
end Go.Proofs.YtipcgmaobiobbaaGreatDoor
