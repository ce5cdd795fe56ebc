/- The walks of the reference: a version. -/
import Derived.Test.YtbngelinfpaefaaGreatDoorParGz
import Derived.Test.YtbngelinfpaefaaGreatDoorParGi
namespace Go.Proofs.YtbngelinfpaefaaGreatDoor
open Go.RowKit

theorem go_step_any (T : List Tk) (q : PS) : Go_ q (q.step T).1 := by
  by_cases hk : stepK T q = 0
  · have es : q.step T = (q.fail (q.tok T).a 90, ⟨0, [], [], [], [], [], [], (q.tok T).a⟩) := by
      unfold PS.step
      dsimp only
      rw [if_pos hk]
    rw [es]
    exact go_fail q _ _
  · exact (go_step hk).2
theorem step_more {T : List Tk} {q : PS} (h : (q.step T).1.flt = 0) : q.i + 1 ≤ (q.step T).1.i := by
  by_cases hk : stepK T q = 0
  · have es : q.step T = (q.fail (q.tok T).a 90, ⟨0, [], [], [], [], [], [], (q.tok T).a⟩) := by
      unfold PS.step
      dsimp only
      rw [if_pos hk]
    rw [es] at h
    exact absurd h (fail_flt (by decide))
  · exact (go_step hk).1
theorem steps_go {T : List Tk} {q : PS} {f : Nat} (h0 : q.flt = 0) (hb : q.is T 4 [125] = false) : stepsL T (f + 1) q = ((stepsL T f (q.step T).1).1, (q.step T).2 :: (stepsL T f (q.step T).1).2) := by
  conv => lhs; unfold stepsL
  rw [if_pos ⟨h0, hb⟩]
theorem steps_no {T : List Tk} {q : PS} (h : q.flt ≠ 0 ∨ q.is T 4 [125] = true) (f : Nat) : stepsL T f q = (q, []) := by
  cases f with
  | zero => rfl
  | succ f =>
    unfold stepsL
    rw [if_neg]
    rintro ⟨z1, z2⟩
    rcases h with h | h
    · exact h z1
    · rw [h] at z2; exact absurd z2 (by decide)
theorem version_more {T : List Tk} {q : PS} (h : (q.version T).1.flt = 0) : q.i + 1 ≤ (q.version T).1.i := by
  by_cases hb : q.is T 1 [118, 101, 114, 115, 105, 111, 110] = true
  · exact go_version_on hb
  · rw [version_bad (by simpa using hb)] at h
    exact absurd h (fail_flt (by decide))
theorem vers_go {T : List Tk} {q : PS} {f : Nat} (h0 : q.flt = 0) (hb : q.is T 4 [125] = false) : versL T (f + 1) q = ((versL T f (q.version T).1).1, (q.version T).2 :: (versL T f (q.version T).1).2) := by
  conv => lhs; unfold versL
  rw [if_pos ⟨h0, hb⟩]
theorem vers_no {T : List Tk} {q : PS} (h : q.flt ≠ 0 ∨ q.is T 4 [125] = true) (f : Nat) : versL T f q = (q, []) := by
  cases f with
  | zero => rfl
  | succ f =>
    unfold versL
    rw [if_neg]
    rintro ⟨z1, z2⟩
    rcases h with h | h
    · exact h z1
    · rw [h] at z2; exact absurd z2 (by decide)
section
variable {α : Type} {L : Lev α} (O : L.Ok) {TS : TypeId} {z : Value} {w0 w w' : World} {g : Nat} {A : Option Addr} {c : Nat} {T : List Tk} {q q' : PS} {b2 b3 : Nat} {hd : Value} {a : Nat} {As : Option Addr} {cs : Nat} {l : List α}
include O
theorem gz_word (h : GZ L TS z w0 w g A c T q b2 b3 hd a As cs l) (s : List UInt8) (bs : ByteArray) (hs : str s = bs) (hq : q.word T s = q') : Calls Tryz.prog 47 #[.pointer (some ⟨g, 0, none⟩), .string bs] w fun e w' => e = .returned (.tuple #[]) ∧ Hid (GZ L TS z w0 w' g A c T q' b2 b3 hd a As cs l) := by
  subst hs
  refine (zword_any h.rs s).mono ?_
  rintro e w' ⟨rfl, hr, hg⟩
  rw [hq] at hr
  exact ⟨rfl, h.call O hg hr (by rw [← hq]; exact go_word T q s)⟩
theorem gz_mark (h : GZ L TS z w0 w g A c T q b2 b3 hd a As cs l) (m : UInt8) (hq : q.mark T m = q') : Calls Tryz.prog 49 #[.pointer (some ⟨g, 0, none⟩), .string ⟨#[m]⟩] w fun e w' => e = .returned (.tuple #[]) ∧ Hid (GZ L TS z w0 w' g A c T q' b2 b3 hd a As cs l) := by
  refine Calls.mono (zmark_any h.rs m) ?_
  rintro e w' ⟨rfl, hr, hg⟩
  rw [hq] at hr
  exact ⟨rfl, h.call O hg hr (by rw [← hq]; exact go_mark T q m)⟩
theorem gz_tok (h : GZ L TS z w0 w g A c T q b2 b3 hd a As cs l) {x : Tk} (hx : q.tok T = x) : Calls Tryz.prog 46 #[.pointer (some ⟨g, 0, none⟩)] w fun e w' => e = .returned (.agg #[.int .i64 (x.k : Nat), .string (str x.t), .int .u64 (x.n : Nat), .int .i64 (x.a : Nat), .int .i64 (x.e : Nat)]) ∧ Hid (GZ L TS z w0 w' g A c T q b2 b3 hd a As cs l) := by
  refine (ztok_any h.rs hx).mono ?_
  rintro e w' ⟨rfl, hb⟩
  exact ⟨rfl, h.call O (Gn.of hb) (h.rs.below hb) (Go_.refl q)⟩
theorem gz_is (h : GZ L TS z w0 w g A c T q b2 b3 hd a As cs l) (m : UInt8) {b : Bool} (hb : q.is T 4 [m] = b) : Calls Tryz.prog 24 #[.pointer (some ⟨g, 0, none⟩), .int .i64 4, .string ⟨#[m]⟩] w fun e w' => e = .returned (.bool b) ∧ Below w.heap.size w w' ∧ Hid (GZ L TS z w0 w' g A c T q b2 b3 hd a As cs l) := by
  refine Calls.mono (zis_any h.rs 4 [m]) ?_
  rintro e w' ⟨rfl, hb'⟩
  rw [hb]
  exact ⟨rfl, hb', h.call O (Gn.of hb') (h.rs.below hb') (Go_.refl q)⟩
theorem gz_fail (h : GZ L TS z w0 w g A c T q b2 b3 hd a As cs l) (a' : Nat) (hq : q.fail a' 90 = q') : Calls Tryz.prog 51 #[.pointer (some ⟨g, 0, none⟩), .int .i64 (a' : Nat), .int .i64 90] w fun e w' => e = .returned (.tuple #[]) ∧ Hid (GZ L TS z w0 w' g A c T q' b2 b3 hd a As cs l) := by
  refine Calls.mono (zfail_any h.rs a' 90) ?_
  rintro e w' ⟨rfl, hr, hg⟩
  rw [hq] at hr
  exact ⟨rfl, h.call O hg hr (by rw [← hq]; exact go_fail q a' 90)⟩
theorem GZ.next (h : GZ L TS z w0 w g A c T q b2 b3 hd a As cs l) (h0 : q.flt = 0) (hk : (q.tok T).k ≠ 0) (hq : q.next = q') : GZ L TS z w0 (w.setCell ⟨g, 1, none⟩ (.int .i64 ((q.i : Int) + 1))) g A c T q' b2 b3 hd a As cs l := by
  subst hq
  obtain ⟨h1, h2⟩ := h.rs.next hk
  exact h.call O h2 h1 (go_next q h0)
/-- a name, as the head -/
theorem gz_name (h : GZ L TS z w0 w g A c T q b2 b3 hd a As cs l) {nm : List UInt8} (hq : q.name T = (q', nm)) :
    Calls Tryz.prog 48 #[.pointer (some ⟨g, 0, none⟩)] w fun e w' => e = .returned (.string (str nm)) ∧ w'.cell? ⟨b3, 0, none⟩ = some hd ∧ w'.frozen? ⟨b3, 0, none⟩ = false ∧ Hid (GZ L TS z w0 (w'.setCell ⟨b3, 0, none⟩ (.string (str nm))) g A c T q' b2 b3 (.string (str nm)) a As cs l) := by
  have cc := zname_any h.rs
  rw [hq] at cc
  refine cc.mono ?_
  rintro e w' ⟨rfl, hr, hg⟩
  have h2 := h.call O hg hr (go_nm hq)
  exact ⟨rfl, h2.s3.at_ 0, h2.s3.frozen 0, h2.head O _⟩
end
/-- what a version answers -/
def VerR (g : Nat) (A : Option Addr) (c : Nat) (T : List Tk) (p : PS) (w : World) (e : Ending) (w' : World) : Prop :=
  ∃ x : LVe, e = .returned (.agg x.C) ∧ RZ w' g A c T (p.version T).1 ∧ Gn g w w' ∧ VeLev.H w' w.heap.size x ∧ x.ve = (p.version T).2

set_option maxRecDepth 100000 in
set_option maxHeartbeats 8000000 in
theorem rversionA_any {w : World} {g : Nat} {A : Option Addr} {c : Nat} {T : List Tk} {p : PS} (h : RZ w g A c T p) (hz : (p.word T [118, 101, 114, 115, 105, 111, 110]).flt = 0) (hk : ((p.word T [118, 101, 114, 115, 105, 111, 110]).tok T).k = 2) :
    Calls Tryz.prog 50 #[.pointer (some ⟨g, 0, none⟩)] w (VerR g A c T p w) := by
  have hgl := h.len
  obtain ⟨t, ht⟩ : ∃ t, p.tok T = t := ⟨_, rfl⟩
  obtain ⟨p1, hp1⟩ : ∃ q, p.word T [118, 101, 114, 115, 105, 111, 110] = q := ⟨_, rfl⟩
  rw [hp1] at hz hk
  obtain ⟨x1, hx1⟩ : ∃ x, p1.tok T = x := ⟨_, rfl⟩
  obtain ⟨p2, hp2⟩ : ∃ q, p1.next = q := ⟨_, rfl⟩
  have hnum : p1.number T = (p2, x1.n) := by
    unfold PS.number
    rw [if_pos ⟨hz, hk⟩, hx1, hp2]
  obtain ⟨q0, hq0⟩ : ∃ q, p2.mark T 123 = q := ⟨_, rfl⟩
  obtain ⟨S, L, hSL⟩ : ∃ S L, stepsL T (T.length + 1) q0 = (S, L) := ⟨_, _, rfl⟩
  obtain ⟨E, hE⟩ : ∃ E, S.mark T 125 = E := ⟨_, rfl⟩
  have hV : p.version T = (E, ⟨x1.n, L, t.a⟩) := by
    unfold PS.version
    dsimp only
    rw [ls_version, hp1]
    have : (if p1.flt = 0 ∧ (p1.tok T).k = 2 then (p1.next, (p1.tok T).n) else (p1.fail (p1.tok T).a 90, 0)) = (p2, x1.n) := hnum
    rw [this]
    dsimp only
    rw [hq0, hSL, ht]
    dsimp only
    rw [hE]
  have HV := Lib.hid hV
  have hb1 : Below w.heap.size w (w.alloc (.cells #[.int .u64 0, .slice none 0 0, .int .i64 0] 49)) := (Below.refl _ w).alloc (Nat.le_refl _) _
  have hc1 : CB (w.alloc (.cells #[.int .u64 0, .slice none 0 0, .int .i64 0] 49)) w.heap.size 49 #[.int .u64 0, .slice none 0 0, .int .i64 0] := CB.new w _ _
  have ct := ztok_any (h.below hb1) ht
  have PRE : Hid (∀ w2, Below (w.alloc (.cells #[.int .u64 0, .slice none 0 0, .int .i64 0] 49)).heap.size (w.alloc (.cells #[.int .u64 0, .slice none 0 0, .int .i64 0] 49)) w2 → ∃ w3 : World, w2.alloc (.cells #[.int .u64 0, .slice none 0 0, .int .i64 (t.a : Nat)] 49) = w3 ∧ w.heap.size < w2.heap.size ∧
      Hid (GZ StLev 49 (.int .u64 0) w w3 g A c T p w.heap.size w2.heap.size (.int .u64 0) t.a none 0 [])) := fun w2 hb2 => by
    refine ⟨_, rfl, by have := hb2.size; simp at this; omega, ?_⟩
    exact gz_start ((h.below hb1).below hb2) (hc1.below hb2) ((Gn.of hb1).trans (Gn.of hb2)) hgl (Nat.le_refl _) _ _
  have SSTART : Hid (∃ f, (q0.flt = 0 → T.length ≤ q0.i + f) ∧ (stepsL T f q0).1 = S ∧ L = ([] : List LSt).map (·.s) ++ (stepsL T f q0).2) := ⟨T.length + 1, fun _ => by omega, by rw [hSL], by rw [hSL]; rfl⟩
  have hzz : ((p1.flt : Int) == 0) = true := by rw [hz]; rfl
  rw [hx1] at hk
  have hkz : ((x1.k : Int) == 2) = true := by rw [hk]; rfl
  have HK1 : Hid (p1.flt = 0 ∧ (p1.tok T).k ≠ 0) := ⟨hz, by rw [hx1, hk]; decide⟩
  clear hz hk
  clear h hnum hSL hV ht hb1 hc1
  have fa := rfld_a t
  have fk := rfld_k x1
  have fn := rfld_n x1
  have fb := rfld_a x1
  go_enter Tryz.func50, Tryz.ntmps50
  go_wp2_with (first
    | (go_at_call 46; (with_reducible refine ct.mono ?_); rintro e w2 ⟨rfl, hb2⟩; obtain ⟨w3, e3, hl2, F3⟩ := PRE.out w2 hb2; clear ct)
    | (go_at_call 47; (with_reducible refine (gz_word stLev F3.out [118, 101, 114, 115, 105, 111, 110] ⟨#[118, 101, 114, 115, 105, 111, 110]⟩ rfl hp1).mono ?_); rintro e w4 ⟨rfl, F4⟩; obtain ⟨_, _, c4, _⟩ := F4.out.rs.cells)
    | (go_at_call 46; (with_reducible refine (gz_tok stLev F4.out hx1).mono ?_); rintro e w5 ⟨rfl, F5⟩)
    | (go_at_call 46; (with_reducible refine (gz_tok stLev F5.out hx1).mono ?_); rintro e w6 ⟨rfl, F6⟩; have f30 := F6.out.s3.frozen 0; have c30 := F6.out.s3.at_ 0; have F6h := F6.out.head stLev (.int .u64 (x1.n : Nat)); obtain ⟨c1, _, _, f1⟩ := F6h.rs.cells; have f1 := f1 1; have hil : p1.i < T.length := F6h.rs.pt.inn; have hfew : T.length ≤ 2000000 := F6h.rs.pt.few; have FM := Lib.hid (F6h.next stLev HK1.out.1 HK1.out.2 hp2); clear F6h)
    | (go_at_call 49; (with_reducible refine (gz_mark stLev FM.out 123 hq0).mono ?_); rintro e w7 ⟨rfl, F7⟩))
  obtain ⟨b3, hb3⟩ : ∃ b3, w2.heap.size = b3 := ⟨_, rfl⟩
  rw [hb3] at hl2 F7
  simp only [hb3]
  clear fa fk fn fb c4 PRE hb2 e3 F3 F4 FM hb3 F5 F6 f30 c30 c1 f1 hil hfew hzz hkz HK1
  go_loopg [] (T.length) (fun k wr => ∃ (q : PS) (As : Option Addr) (cs : Nat) (ss : List LSt), Hid (GZ StLev 49 (.int .u64 0) w wr g A c T q w.heap.size b3 (.int .u64 (x1.n : Nat)) t.a As cs ss) ∧ Hid (∃ f, (q.flt = 0 → T.length ≤ q.i + f) ∧ (stepsL T f q).1 = S ∧ L = ss.map (·.s) ++ (stepsL T f q).2) ∧ (if q.flt = 0 then T.length - q.i else 0) ≤ k)
  case atStart => exact ⟨q0, none, 0, [], F7, SSTART, by split <;> omega⟩
  case round =>
    clear F7 SSTART
    obtain ⟨q, As, cs, ss, HF, HS, hk⟩ := hrel
    obtain ⟨_, _, c3, _⟩ := HF.out.rs.cells
    have hl3 := HF.out.s3.len
    have d1 : wr.cell? ⟨b3, 1, none⟩ = some (.slice As ss.length cs) := HF.out.s3.at_ 1
    by_cases hzq : q.flt = 0
    · have hfz : ((q.flt : Int) == 0) = true := by rw [hzq]; rfl
      obtain ⟨b, hb⟩ : ∃ b, q.is T 4 [125] = b := ⟨_, rfl⟩
      have ci := gz_is stLev HF.out 125 hb
      cases b with
      | true =>
        have END : Hid (∀ W, (GZ StLev 49 (.int .u64 0) w W g A c T q w.heap.size b3 (.int .u64 (x1.n : Nat)) t.a As cs ss) → Calls Tryz.prog 49 #[.pointer (some ⟨g, 0, none⟩), .string ⟨#[125]⟩] W fun e w4 => e = .returned (.tuple #[]) ∧ Hid ((GZ StLev 49 (.int .u64 0) w w4 g A c T E w.heap.size b3 (.int .u64 (x1.n : Nat)) t.a As cs ss) ∧ L = ss.map (·.s))) := fun W hW => by
          obtain ⟨f, hf, h1, h2⟩ := HS.out
          rw [steps_no (.inr hb)] at h1 h2
          have h1' : q = S := h1
          refine (gz_mark (q' := E) stLev hW 125 (by rw [h1']; exact hE)).mono ?_
          rintro e w4 ⟨rfl, h4⟩
          exact ⟨rfl, h4.out, by rw [h2, List.append_nil]⟩
        clear hzq hb
        go_wp2_with (first
          | (go_at_call 24; (with_reducible refine ci.mono ?_); rintro e w5 ⟨rfl, hb5, F5⟩)
          | (go_at_call 49; (with_reducible refine (END.out _ F5.out).mono ?_); rintro e w7 ⟨rfl, F7⟩)
          | (refine wpList_load_cb rfl 49 (.tmp 3) rfl _ _ rfl F7.out.1.s3 Tryz.underlying49 rfl (by kernel_rfl) ?_)
          | (refine wpList_store_cb rfl 49 (.tmp 2) (.tmp 58) rfl w.heap.size _ _ rfl rfl F7.out.1.r2 rfl (by kernel_rfl) (by kernel_rfl) ?_; intro w9 h9 t9))
        obtain ⟨z1, z2, z3⟩ := F7.out.1.close stLev t9
        refine bodyPost_ret (results_cb rfl _ _ _ _ rfl h9 Tryz.underlying49 rfl (by kernel_rfl)) rfl ?_
        refine ⟨⟨x1.n, t.a, ss, As, cs⟩, rfl, by rw [HV.out]; exact z1, z2, z3, ?_⟩
        rw [HV.out, F7.out.2]
        rfl
      | false =>
        have STEP : Hid (∀ W, Below wr.heap.size wr W → Calls Tryz.prog 85 #[.pointer (some ⟨g, 0, none⟩)] W fun e w5 => ∃ x : LSt, e = .returned (.agg #[.int .i64 (x.s.k : Nat), .string (str x.s.a), .string (str x.s.b), .string (str x.s.c), .string (str x.s.sep), .string (str x.s.ty), .slice x.A x.s.v.length x.c, .int .i64 (x.s.at_ : Nat)]) ∧ ∃ g4 c4 w6,
            Hid ((Builtin.append_ #[47, 47] 47 #[.slice As ss.length cs, .slice (some ⟨w5.heap.size, 0, none⟩) 1 1]).run Tryz.prog (w5.alloc (.cells #[.int .i64 (x.s.k : Nat), .string (str x.s.a), .string (str x.s.b), .string (str x.s.c), .string (str x.s.sep), .string (str x.s.ty), .slice x.A x.s.v.length x.c, .int .i64 (x.s.at_ : Nat)] 51)) = .ok (.slice (some ⟨g4, 0, none⟩) (ss.length + 1) c4) w6) ∧
            w5.cell? ⟨b3, 1, none⟩ = some (.slice As ss.length cs) ∧ b3 < w5.heap.size ∧ w6.cell? ⟨b3, 1, none⟩ = some (.slice As ss.length cs) ∧ w6.frozen? ⟨b3, 1, none⟩ = false ∧
            Hid (GZ StLev 49 (.int .u64 0) w (w6.setCell ⟨b3, 1, none⟩ (.slice (some ⟨g4, 0, none⟩) (ss.length + 1) c4)) g A c T (q.step T).1 w.heap.size b3 (.int .u64 (x1.n : Nat)) t.a (some ⟨g4, 0, none⟩) c4 (ss ++ [x])) ∧
            Hid (∃ f, ((q.step T).1.flt = 0 → T.length ≤ (q.step T).1.i + f) ∧ (stepsL T f (q.step T).1).1 = S ∧ L = (ss ++ [x]).map (·.s) ++ (stepsL T f (q.step T).1).2)) := fun W hW => by
          have FW := HF.out.call stLev (Gn.of hW) (HF.out.rs.below hW) (Go_.refl q)
          refine (rstep_any FW.rs).mono ?_
          rintro e w5 ⟨x, rfl, hr5, hg5, hH5, hx5⟩
          have hfw := HF.out.few.2 hzq
          have hgo := go_step_any T q
          obtain ⟨g4, c4, w6, hrun, k1, k2, k3, k4, k5⟩ := FW.item stLev appSt hg5 hr5 hH5 hgo ⟨by have := hgo.1; omega, fun k => by have := step_more k; omega⟩
          refine ⟨x, rfl, g4, c4, w6, hrun, k1, k2, k3, k4, k5, ?_⟩
          obtain ⟨f, hf, h1, h2⟩ := HS.out
          have := hf hzq
          have hin : q.i < T.length := HF.out.rs.pt.inn
          cases f with
          | zero => omega
          | succ f =>
            rw [steps_go hzq hb] at h1 h2
            refine ⟨f, fun z => by have := step_more z; omega, h1, ?_⟩
            rw [h2, List.map_append, List.append_assoc, ← hx5]
            rfl
        have NXT : Hid ((q.step T).1.flt = 0 → q.i + 1 ≤ (q.step T).1.i) := fun k => step_more k
        have hin : q.i < T.length := HF.out.rs.pt.inn
        rw [if_pos hzq] at hk
        clear hzq hb
        go_wp2_with (first
          | (go_at_call 24; (with_reducible refine ci.mono ?_); rintro e w6 ⟨rfl, hb6, F6⟩; have d6 := (hb6.cell (p := ⟨b3, 1, none⟩) hl3).trans d1; have hb57 : Below wr.heap.size wr w6.drew := Below.thenN hb6 1))
        go_region_law (first
          | (refine step_append_run rfl (.tmp 50) (.tmp 53) _ rfl rfl rfl HRUN.out ?_)
          | (go_simp; go_at_call 85; refine (STEP.out _ hb57).mono ?_; rintro e w7 ⟨x, rfl, g4, c4, w8, HRUN, d7, l7, d8, f8, HG8, HS8⟩))
        all_goals
          go_wp2
          go_roundg (gk - 1)
          case measure => omega
          case rel =>
            have hn := NXT.out
            exact ⟨_, _, c4, ss ++ [x], HG8, HS8, by split <;> omega⟩
    · have hfz : ((q.flt : Int) == 0) = false := by rw [beq_eq_false_iff_ne]; omega
      have END : Hid (∀ W, (GZ StLev 49 (.int .u64 0) w W g A c T q w.heap.size b3 (.int .u64 (x1.n : Nat)) t.a As cs ss) → Calls Tryz.prog 49 #[.pointer (some ⟨g, 0, none⟩), .string ⟨#[125]⟩] W fun e w4 => e = .returned (.tuple #[]) ∧ Hid ((GZ StLev 49 (.int .u64 0) w w4 g A c T E w.heap.size b3 (.int .u64 (x1.n : Nat)) t.a As cs ss) ∧ L = ss.map (·.s))) := fun W hW => by
        obtain ⟨f, hf, h1, h2⟩ := HS.out
        rw [steps_no (.inl hzq)] at h1 h2
        have h1' : q = S := h1
        refine (gz_mark (q' := E) stLev hW 125 (by rw [h1']; exact hE)).mono ?_
        rintro e w4 ⟨rfl, h4⟩
        exact ⟨rfl, h4.out, by rw [h2, List.append_nil]⟩
      clear hzq
      go_wp2_with (first
        | (go_at_call 49; (with_reducible refine (END.out _ HF.out).mono ?_); rintro e w7 ⟨rfl, F7⟩)
        | (refine wpList_load_cb rfl 49 (.tmp 3) rfl _ _ rfl F7.out.1.s3 Tryz.underlying49 rfl (by kernel_rfl) ?_)
        | (refine wpList_store_cb rfl 49 (.tmp 2) (.tmp 58) rfl w.heap.size _ _ rfl rfl F7.out.1.r2 rfl (by kernel_rfl) (by kernel_rfl) ?_; intro w9 h9 t9))
      obtain ⟨z1, z2, z3⟩ := F7.out.1.close stLev t9
      refine bodyPost_ret (results_cb rfl _ _ _ _ rfl h9 Tryz.underlying49 rfl (by kernel_rfl)) rfl ?_
      refine ⟨⟨x1.n, t.a, ss, As, cs⟩, rfl, by rw [HV.out]; exact z1, z2, z3, ?_⟩
      rw [HV.out, F7.out.2]
      rfl

set_option maxRecDepth 100000 in
set_option maxHeartbeats 8000000 in
theorem rversionB_any {w : World} {g : Nat} {A : Option Addr} {c : Nat} {T : List Tk} {p : PS} (h : RZ w g A c T p) (hz : (p.word T [118, 101, 114, 115, 105, 111, 110]).flt = 0) (hk : ((p.word T [118, 101, 114, 115, 105, 111, 110]).tok T).k ≠ 2) :
    Calls Tryz.prog 50 #[.pointer (some ⟨g, 0, none⟩)] w (VerR g A c T p w) := by
  have hgl := h.len
  obtain ⟨t, ht⟩ : ∃ t, p.tok T = t := ⟨_, rfl⟩
  obtain ⟨p1, hp1⟩ : ∃ q, p.word T [118, 101, 114, 115, 105, 111, 110] = q := ⟨_, rfl⟩
  rw [hp1] at hz hk
  obtain ⟨x1, hx1⟩ : ∃ x, p1.tok T = x := ⟨_, rfl⟩
  obtain ⟨p2, hp2⟩ : ∃ q, p1.fail x1.a 90 = q := ⟨_, rfl⟩
  have hnum : p1.number T = (p2, 0) := by
    unfold PS.number
    rw [if_neg (fun k => hk k.2), hx1, hp2]
  obtain ⟨q0, hq0⟩ : ∃ q, p2.mark T 123 = q := ⟨_, rfl⟩
  obtain ⟨S, L, hSL⟩ : ∃ S L, stepsL T (T.length + 1) q0 = (S, L) := ⟨_, _, rfl⟩
  obtain ⟨E, hE⟩ : ∃ E, S.mark T 125 = E := ⟨_, rfl⟩
  have hV : p.version T = (E, ⟨0, L, t.a⟩) := by
    unfold PS.version
    dsimp only
    rw [ls_version, hp1]
    have : (if p1.flt = 0 ∧ (p1.tok T).k = 2 then (p1.next, (p1.tok T).n) else (p1.fail (p1.tok T).a 90, 0)) = (p2, 0) := hnum
    rw [this]
    dsimp only
    rw [hq0, hSL, ht]
    dsimp only
    rw [hE]
  have HV := Lib.hid hV
  have hb1 : Below w.heap.size w (w.alloc (.cells #[.int .u64 0, .slice none 0 0, .int .i64 0] 49)) := (Below.refl _ w).alloc (Nat.le_refl _) _
  have hc1 : CB (w.alloc (.cells #[.int .u64 0, .slice none 0 0, .int .i64 0] 49)) w.heap.size 49 #[.int .u64 0, .slice none 0 0, .int .i64 0] := CB.new w _ _
  have ct := ztok_any (h.below hb1) ht
  have PRE : Hid (∀ w2, Below (w.alloc (.cells #[.int .u64 0, .slice none 0 0, .int .i64 0] 49)).heap.size (w.alloc (.cells #[.int .u64 0, .slice none 0 0, .int .i64 0] 49)) w2 → ∃ w3 : World, w2.alloc (.cells #[.int .u64 0, .slice none 0 0, .int .i64 (t.a : Nat)] 49) = w3 ∧ w.heap.size < w2.heap.size ∧
      Hid (GZ StLev 49 (.int .u64 0) w w3 g A c T p w.heap.size w2.heap.size (.int .u64 0) t.a none 0 [])) := fun w2 hb2 => by
    refine ⟨_, rfl, by have := hb2.size; simp at this; omega, ?_⟩
    exact gz_start ((h.below hb1).below hb2) (hc1.below hb2) ((Gn.of hb1).trans (Gn.of hb2)) hgl (Nat.le_refl _) _ _
  have SSTART : Hid (∃ f, (q0.flt = 0 → T.length ≤ q0.i + f) ∧ (stepsL T f q0).1 = S ∧ L = ([] : List LSt).map (·.s) ++ (stepsL T f q0).2) := ⟨T.length + 1, fun _ => by omega, by rw [hSL], by rw [hSL]; rfl⟩
  have hzz : ((p1.flt : Int) == 0) = true := by rw [hz]; rfl
  rw [hx1] at hk
  have hkz : ((x1.k : Int) == 2) = false := by rw [beq_eq_false_iff_ne]; omega
  clear hz hk
  clear h hnum hSL hV ht hb1 hc1
  have fa := rfld_a t
  have fk := rfld_k x1
  have fn := rfld_n x1
  have fb := rfld_a x1
  go_enter Tryz.func50, Tryz.ntmps50
  go_wp2_with (first
    | (go_at_call 46; (with_reducible refine ct.mono ?_); rintro e w2 ⟨rfl, hb2⟩; obtain ⟨w3, e3, hl2, F3⟩ := PRE.out w2 hb2; clear ct)
    | (go_at_call 47; (with_reducible refine (gz_word stLev F3.out [118, 101, 114, 115, 105, 111, 110] ⟨#[118, 101, 114, 115, 105, 111, 110]⟩ rfl hp1).mono ?_); rintro e w4 ⟨rfl, F4⟩; obtain ⟨_, _, c4, _⟩ := F4.out.rs.cells)
    | (go_at_call 46; (with_reducible refine (gz_tok stLev F4.out hx1).mono ?_); rintro e w5 ⟨rfl, F5⟩)
    | (go_at_call 46; (with_reducible refine (gz_tok stLev F5.out hx1).mono ?_); rintro e w6 ⟨rfl, F6⟩)
    | (go_at_call 51; (with_reducible refine (gz_fail stLev F6.out x1.a hp2).mono ?_); rintro e w9 ⟨rfl, FM⟩)
    | (go_at_call 49; (with_reducible refine (gz_mark stLev FM.out 123 hq0).mono ?_); rintro e w7 ⟨rfl, F7⟩))
  obtain ⟨b3, hb3⟩ : ∃ b3, w2.heap.size = b3 := ⟨_, rfl⟩
  rw [hb3] at hl2 F7
  simp only [hb3]
  clear fa fk fn fb c4 PRE hb2 e3 F3 F4 FM hb3 F5 F6 hzz hkz
  go_loopg [] (T.length) (fun k wr => ∃ (q : PS) (As : Option Addr) (cs : Nat) (ss : List LSt), Hid (GZ StLev 49 (.int .u64 0) w wr g A c T q w.heap.size b3 (.int .u64 0) t.a As cs ss) ∧ Hid (∃ f, (q.flt = 0 → T.length ≤ q.i + f) ∧ (stepsL T f q).1 = S ∧ L = ss.map (·.s) ++ (stepsL T f q).2) ∧ (if q.flt = 0 then T.length - q.i else 0) ≤ k)
  case atStart => exact ⟨q0, none, 0, [], F7, SSTART, by split <;> omega⟩
  case round =>
    clear F7 SSTART
    obtain ⟨q, As, cs, ss, HF, HS, hk⟩ := hrel
    obtain ⟨_, _, c3, _⟩ := HF.out.rs.cells
    have hl3 := HF.out.s3.len
    have d1 : wr.cell? ⟨b3, 1, none⟩ = some (.slice As ss.length cs) := HF.out.s3.at_ 1
    by_cases hzq : q.flt = 0
    · have hfz : ((q.flt : Int) == 0) = true := by rw [hzq]; rfl
      obtain ⟨b, hb⟩ : ∃ b, q.is T 4 [125] = b := ⟨_, rfl⟩
      have ci := gz_is stLev HF.out 125 hb
      cases b with
      | true =>
        have END : Hid (∀ W, (GZ StLev 49 (.int .u64 0) w W g A c T q w.heap.size b3 (.int .u64 0) t.a As cs ss) → Calls Tryz.prog 49 #[.pointer (some ⟨g, 0, none⟩), .string ⟨#[125]⟩] W fun e w4 => e = .returned (.tuple #[]) ∧ Hid ((GZ StLev 49 (.int .u64 0) w w4 g A c T E w.heap.size b3 (.int .u64 0) t.a As cs ss) ∧ L = ss.map (·.s))) := fun W hW => by
          obtain ⟨f, hf, h1, h2⟩ := HS.out
          rw [steps_no (.inr hb)] at h1 h2
          have h1' : q = S := h1
          refine (gz_mark (q' := E) stLev hW 125 (by rw [h1']; exact hE)).mono ?_
          rintro e w4 ⟨rfl, h4⟩
          exact ⟨rfl, h4.out, by rw [h2, List.append_nil]⟩
        clear hzq hb
        go_wp2_with (first
          | (go_at_call 24; (with_reducible refine ci.mono ?_); rintro e w5 ⟨rfl, hb5, F5⟩)
          | (go_at_call 49; (with_reducible refine (END.out _ F5.out).mono ?_); rintro e w7 ⟨rfl, F7⟩)
          | (refine wpList_load_cb rfl 49 (.tmp 3) rfl _ _ rfl F7.out.1.s3 Tryz.underlying49 rfl (by kernel_rfl) ?_)
          | (refine wpList_store_cb rfl 49 (.tmp 2) (.tmp 58) rfl w.heap.size _ _ rfl rfl F7.out.1.r2 rfl (by kernel_rfl) (by kernel_rfl) ?_; intro w9 h9 t9))
        obtain ⟨z1, z2, z3⟩ := F7.out.1.close stLev t9
        refine bodyPost_ret (results_cb rfl _ _ _ _ rfl h9 Tryz.underlying49 rfl (by kernel_rfl)) rfl ?_
        refine ⟨⟨0, t.a, ss, As, cs⟩, rfl, by rw [HV.out]; exact z1, z2, z3, ?_⟩
        rw [HV.out, F7.out.2]
        rfl
      | false =>
        have STEP : Hid (∀ W, Below wr.heap.size wr W → Calls Tryz.prog 85 #[.pointer (some ⟨g, 0, none⟩)] W fun e w5 => ∃ x : LSt, e = .returned (.agg #[.int .i64 (x.s.k : Nat), .string (str x.s.a), .string (str x.s.b), .string (str x.s.c), .string (str x.s.sep), .string (str x.s.ty), .slice x.A x.s.v.length x.c, .int .i64 (x.s.at_ : Nat)]) ∧ ∃ g4 c4 w6,
            Hid ((Builtin.append_ #[47, 47] 47 #[.slice As ss.length cs, .slice (some ⟨w5.heap.size, 0, none⟩) 1 1]).run Tryz.prog (w5.alloc (.cells #[.int .i64 (x.s.k : Nat), .string (str x.s.a), .string (str x.s.b), .string (str x.s.c), .string (str x.s.sep), .string (str x.s.ty), .slice x.A x.s.v.length x.c, .int .i64 (x.s.at_ : Nat)] 51)) = .ok (.slice (some ⟨g4, 0, none⟩) (ss.length + 1) c4) w6) ∧
            w5.cell? ⟨b3, 1, none⟩ = some (.slice As ss.length cs) ∧ b3 < w5.heap.size ∧ w6.cell? ⟨b3, 1, none⟩ = some (.slice As ss.length cs) ∧ w6.frozen? ⟨b3, 1, none⟩ = false ∧
            Hid (GZ StLev 49 (.int .u64 0) w (w6.setCell ⟨b3, 1, none⟩ (.slice (some ⟨g4, 0, none⟩) (ss.length + 1) c4)) g A c T (q.step T).1 w.heap.size b3 (.int .u64 0) t.a (some ⟨g4, 0, none⟩) c4 (ss ++ [x])) ∧
            Hid (∃ f, ((q.step T).1.flt = 0 → T.length ≤ (q.step T).1.i + f) ∧ (stepsL T f (q.step T).1).1 = S ∧ L = (ss ++ [x]).map (·.s) ++ (stepsL T f (q.step T).1).2)) := fun W hW => by
          have FW := HF.out.call stLev (Gn.of hW) (HF.out.rs.below hW) (Go_.refl q)
          refine (rstep_any FW.rs).mono ?_
          rintro e w5 ⟨x, rfl, hr5, hg5, hH5, hx5⟩
          have hfw := HF.out.few.2 hzq
          have hgo := go_step_any T q
          obtain ⟨g4, c4, w6, hrun, k1, k2, k3, k4, k5⟩ := FW.item stLev appSt hg5 hr5 hH5 hgo ⟨by have := hgo.1; omega, fun k => by have := step_more k; omega⟩
          refine ⟨x, rfl, g4, c4, w6, hrun, k1, k2, k3, k4, k5, ?_⟩
          obtain ⟨f, hf, h1, h2⟩ := HS.out
          have := hf hzq
          have hin : q.i < T.length := HF.out.rs.pt.inn
          cases f with
          | zero => omega
          | succ f =>
            rw [steps_go hzq hb] at h1 h2
            refine ⟨f, fun z => by have := step_more z; omega, h1, ?_⟩
            rw [h2, List.map_append, List.append_assoc, ← hx5]
            rfl
        have NXT : Hid ((q.step T).1.flt = 0 → q.i + 1 ≤ (q.step T).1.i) := fun k => step_more k
        have hin : q.i < T.length := HF.out.rs.pt.inn
        rw [if_pos hzq] at hk
        clear hzq hb
        go_wp2_with (first
          | (go_at_call 24; (with_reducible refine ci.mono ?_); rintro e w6 ⟨rfl, hb6, F6⟩; have d6 := (hb6.cell (p := ⟨b3, 1, none⟩) hl3).trans d1; have hb57 : Below wr.heap.size wr w6.drew := Below.thenN hb6 1))
        go_region_law (first
          | (refine step_append_run rfl (.tmp 50) (.tmp 53) _ rfl rfl rfl HRUN.out ?_)
          | (go_simp; go_at_call 85; refine (STEP.out _ hb57).mono ?_; rintro e w7 ⟨x, rfl, g4, c4, w8, HRUN, d7, l7, d8, f8, HG8, HS8⟩))
        all_goals
          go_wp2
          go_roundg (gk - 1)
          case measure => omega
          case rel =>
            have hn := NXT.out
            exact ⟨_, _, c4, ss ++ [x], HG8, HS8, by split <;> omega⟩
    · have hfz : ((q.flt : Int) == 0) = false := by rw [beq_eq_false_iff_ne]; omega
      have END : Hid (∀ W, (GZ StLev 49 (.int .u64 0) w W g A c T q w.heap.size b3 (.int .u64 0) t.a As cs ss) → Calls Tryz.prog 49 #[.pointer (some ⟨g, 0, none⟩), .string ⟨#[125]⟩] W fun e w4 => e = .returned (.tuple #[]) ∧ Hid ((GZ StLev 49 (.int .u64 0) w w4 g A c T E w.heap.size b3 (.int .u64 0) t.a As cs ss) ∧ L = ss.map (·.s))) := fun W hW => by
        obtain ⟨f, hf, h1, h2⟩ := HS.out
        rw [steps_no (.inl hzq)] at h1 h2
        have h1' : q = S := h1
        refine (gz_mark (q' := E) stLev hW 125 (by rw [h1']; exact hE)).mono ?_
        rintro e w4 ⟨rfl, h4⟩
        exact ⟨rfl, h4.out, by rw [h2, List.append_nil]⟩
      clear hzq
      go_wp2_with (first
        | (go_at_call 49; (with_reducible refine (END.out _ HF.out).mono ?_); rintro e w7 ⟨rfl, F7⟩)
        | (refine wpList_load_cb rfl 49 (.tmp 3) rfl _ _ rfl F7.out.1.s3 Tryz.underlying49 rfl (by kernel_rfl) ?_)
        | (refine wpList_store_cb rfl 49 (.tmp 2) (.tmp 58) rfl w.heap.size _ _ rfl rfl F7.out.1.r2 rfl (by kernel_rfl) (by kernel_rfl) ?_; intro w9 h9 t9))
      obtain ⟨z1, z2, z3⟩ := F7.out.1.close stLev t9
      refine bodyPost_ret (results_cb rfl _ _ _ _ rfl h9 Tryz.underlying49 rfl (by kernel_rfl)) rfl ?_
      refine ⟨⟨0, t.a, ss, As, cs⟩, rfl, by rw [HV.out]; exact z1, z2, z3, ?_⟩
      rw [HV.out, F7.out.2]
      rfl

set_option maxRecDepth 100000 in
set_option maxHeartbeats 8000000 in
theorem rversionC_any {w : World} {g : Nat} {A : Option Addr} {c : Nat} {T : List Tk} {p : PS} (h : RZ w g A c T p) (hz : (p.word T [118, 101, 114, 115, 105, 111, 110]).flt ≠ 0) :
    Calls Tryz.prog 50 #[.pointer (some ⟨g, 0, none⟩)] w (VerR g A c T p w) := by
  have hgl := h.len
  obtain ⟨t, ht⟩ : ∃ t, p.tok T = t := ⟨_, rfl⟩
  obtain ⟨p1, hp1⟩ : ∃ q, p.word T [118, 101, 114, 115, 105, 111, 110] = q := ⟨_, rfl⟩
  rw [hp1] at hz
  obtain ⟨x1, hx1⟩ : ∃ x, p1.tok T = x := ⟨_, rfl⟩
  obtain ⟨p2, hp2⟩ : ∃ q, p1.fail x1.a 90 = q := ⟨_, rfl⟩
  have hnum : p1.number T = (p2, 0) := by
    unfold PS.number
    rw [if_neg (fun k => hz k.1), hx1, hp2]
  obtain ⟨q0, hq0⟩ : ∃ q, p2.mark T 123 = q := ⟨_, rfl⟩
  obtain ⟨S, L, hSL⟩ : ∃ S L, stepsL T (T.length + 1) q0 = (S, L) := ⟨_, _, rfl⟩
  obtain ⟨E, hE⟩ : ∃ E, S.mark T 125 = E := ⟨_, rfl⟩
  have hV : p.version T = (E, ⟨0, L, t.a⟩) := by
    unfold PS.version
    dsimp only
    rw [ls_version, hp1]
    have : (if p1.flt = 0 ∧ (p1.tok T).k = 2 then (p1.next, (p1.tok T).n) else (p1.fail (p1.tok T).a 90, 0)) = (p2, 0) := hnum
    rw [this]
    dsimp only
    rw [hq0, hSL, ht]
    dsimp only
    rw [hE]
  have HV := Lib.hid hV
  have hb1 : Below w.heap.size w (w.alloc (.cells #[.int .u64 0, .slice none 0 0, .int .i64 0] 49)) := (Below.refl _ w).alloc (Nat.le_refl _) _
  have hc1 : CB (w.alloc (.cells #[.int .u64 0, .slice none 0 0, .int .i64 0] 49)) w.heap.size 49 #[.int .u64 0, .slice none 0 0, .int .i64 0] := CB.new w _ _
  have ct := ztok_any (h.below hb1) ht
  have PRE : Hid (∀ w2, Below (w.alloc (.cells #[.int .u64 0, .slice none 0 0, .int .i64 0] 49)).heap.size (w.alloc (.cells #[.int .u64 0, .slice none 0 0, .int .i64 0] 49)) w2 → ∃ w3 : World, w2.alloc (.cells #[.int .u64 0, .slice none 0 0, .int .i64 (t.a : Nat)] 49) = w3 ∧ w.heap.size < w2.heap.size ∧
      Hid (GZ StLev 49 (.int .u64 0) w w3 g A c T p w.heap.size w2.heap.size (.int .u64 0) t.a none 0 [])) := fun w2 hb2 => by
    refine ⟨_, rfl, by have := hb2.size; simp at this; omega, ?_⟩
    exact gz_start ((h.below hb1).below hb2) (hc1.below hb2) ((Gn.of hb1).trans (Gn.of hb2)) hgl (Nat.le_refl _) _ _
  have SSTART : Hid (∃ f, (q0.flt = 0 → T.length ≤ q0.i + f) ∧ (stepsL T f q0).1 = S ∧ L = ([] : List LSt).map (·.s) ++ (stepsL T f q0).2) := ⟨T.length + 1, fun _ => by omega, by rw [hSL], by rw [hSL]; rfl⟩
  have hzz : ((p1.flt : Int) == 0) = false := by rw [beq_eq_false_iff_ne]; omega
  clear hz
  clear h hnum hSL hV ht hb1 hc1
  have fa := rfld_a t
  have fk := rfld_k x1
  have fn := rfld_n x1
  have fb := rfld_a x1
  go_enter Tryz.func50, Tryz.ntmps50
  go_wp2_with (first
    | (go_at_call 46; (with_reducible refine ct.mono ?_); rintro e w2 ⟨rfl, hb2⟩; obtain ⟨w3, e3, hl2, F3⟩ := PRE.out w2 hb2; clear ct)
    | (go_at_call 47; (with_reducible refine (gz_word stLev F3.out [118, 101, 114, 115, 105, 111, 110] ⟨#[118, 101, 114, 115, 105, 111, 110]⟩ rfl hp1).mono ?_); rintro e w4 ⟨rfl, F4⟩; obtain ⟨_, _, c4, _⟩ := F4.out.rs.cells)
    | (go_at_call 46; (with_reducible refine (gz_tok stLev F4.out hx1).mono ?_); rintro e w5 ⟨rfl, F5⟩)
    | (go_at_call 51; (with_reducible refine (gz_fail stLev F5.out x1.a hp2).mono ?_); rintro e w9 ⟨rfl, FM⟩)
    | (go_at_call 49; (with_reducible refine (gz_mark stLev FM.out 123 hq0).mono ?_); rintro e w7 ⟨rfl, F7⟩))
  obtain ⟨b3, hb3⟩ : ∃ b3, w2.heap.size = b3 := ⟨_, rfl⟩
  rw [hb3] at hl2 F7
  simp only [hb3]
  clear fa fk fn fb c4 PRE hb2 e3 F3 F4 FM hb3 F5 hzz
  go_loopg [] (T.length) (fun k wr => ∃ (q : PS) (As : Option Addr) (cs : Nat) (ss : List LSt), Hid (GZ StLev 49 (.int .u64 0) w wr g A c T q w.heap.size b3 (.int .u64 0) t.a As cs ss) ∧ Hid (∃ f, (q.flt = 0 → T.length ≤ q.i + f) ∧ (stepsL T f q).1 = S ∧ L = ss.map (·.s) ++ (stepsL T f q).2) ∧ (if q.flt = 0 then T.length - q.i else 0) ≤ k)
  case atStart => exact ⟨q0, none, 0, [], F7, SSTART, by split <;> omega⟩
  case round =>
    clear F7 SSTART
    obtain ⟨q, As, cs, ss, HF, HS, hk⟩ := hrel
    obtain ⟨_, _, c3, _⟩ := HF.out.rs.cells
    have hl3 := HF.out.s3.len
    have d1 : wr.cell? ⟨b3, 1, none⟩ = some (.slice As ss.length cs) := HF.out.s3.at_ 1
    by_cases hzq : q.flt = 0
    · have hfz : ((q.flt : Int) == 0) = true := by rw [hzq]; rfl
      obtain ⟨b, hb⟩ : ∃ b, q.is T 4 [125] = b := ⟨_, rfl⟩
      have ci := gz_is stLev HF.out 125 hb
      cases b with
      | true =>
        have END : Hid (∀ W, (GZ StLev 49 (.int .u64 0) w W g A c T q w.heap.size b3 (.int .u64 0) t.a As cs ss) → Calls Tryz.prog 49 #[.pointer (some ⟨g, 0, none⟩), .string ⟨#[125]⟩] W fun e w4 => e = .returned (.tuple #[]) ∧ Hid ((GZ StLev 49 (.int .u64 0) w w4 g A c T E w.heap.size b3 (.int .u64 0) t.a As cs ss) ∧ L = ss.map (·.s))) := fun W hW => by
          obtain ⟨f, hf, h1, h2⟩ := HS.out
          rw [steps_no (.inr hb)] at h1 h2
          have h1' : q = S := h1
          refine (gz_mark (q' := E) stLev hW 125 (by rw [h1']; exact hE)).mono ?_
          rintro e w4 ⟨rfl, h4⟩
          exact ⟨rfl, h4.out, by rw [h2, List.append_nil]⟩
        clear hzq hb
        go_wp2_with (first
          | (go_at_call 24; (with_reducible refine ci.mono ?_); rintro e w5 ⟨rfl, hb5, F5⟩)
          | (go_at_call 49; (with_reducible refine (END.out _ F5.out).mono ?_); rintro e w7 ⟨rfl, F7⟩)
          | (refine wpList_load_cb rfl 49 (.tmp 3) rfl _ _ rfl F7.out.1.s3 Tryz.underlying49 rfl (by kernel_rfl) ?_)
          | (refine wpList_store_cb rfl 49 (.tmp 2) (.tmp 58) rfl w.heap.size _ _ rfl rfl F7.out.1.r2 rfl (by kernel_rfl) (by kernel_rfl) ?_; intro w9 h9 t9))
        obtain ⟨z1, z2, z3⟩ := F7.out.1.close stLev t9
        refine bodyPost_ret (results_cb rfl _ _ _ _ rfl h9 Tryz.underlying49 rfl (by kernel_rfl)) rfl ?_
        refine ⟨⟨0, t.a, ss, As, cs⟩, rfl, by rw [HV.out]; exact z1, z2, z3, ?_⟩
        rw [HV.out, F7.out.2]
        rfl
      | false =>
        have STEP : Hid (∀ W, Below wr.heap.size wr W → Calls Tryz.prog 85 #[.pointer (some ⟨g, 0, none⟩)] W fun e w5 => ∃ x : LSt, e = .returned (.agg #[.int .i64 (x.s.k : Nat), .string (str x.s.a), .string (str x.s.b), .string (str x.s.c), .string (str x.s.sep), .string (str x.s.ty), .slice x.A x.s.v.length x.c, .int .i64 (x.s.at_ : Nat)]) ∧ ∃ g4 c4 w6,
            Hid ((Builtin.append_ #[47, 47] 47 #[.slice As ss.length cs, .slice (some ⟨w5.heap.size, 0, none⟩) 1 1]).run Tryz.prog (w5.alloc (.cells #[.int .i64 (x.s.k : Nat), .string (str x.s.a), .string (str x.s.b), .string (str x.s.c), .string (str x.s.sep), .string (str x.s.ty), .slice x.A x.s.v.length x.c, .int .i64 (x.s.at_ : Nat)] 51)) = .ok (.slice (some ⟨g4, 0, none⟩) (ss.length + 1) c4) w6) ∧
            w5.cell? ⟨b3, 1, none⟩ = some (.slice As ss.length cs) ∧ b3 < w5.heap.size ∧ w6.cell? ⟨b3, 1, none⟩ = some (.slice As ss.length cs) ∧ w6.frozen? ⟨b3, 1, none⟩ = false ∧
            Hid (GZ StLev 49 (.int .u64 0) w (w6.setCell ⟨b3, 1, none⟩ (.slice (some ⟨g4, 0, none⟩) (ss.length + 1) c4)) g A c T (q.step T).1 w.heap.size b3 (.int .u64 0) t.a (some ⟨g4, 0, none⟩) c4 (ss ++ [x])) ∧
            Hid (∃ f, ((q.step T).1.flt = 0 → T.length ≤ (q.step T).1.i + f) ∧ (stepsL T f (q.step T).1).1 = S ∧ L = (ss ++ [x]).map (·.s) ++ (stepsL T f (q.step T).1).2)) := fun W hW => by
          have FW := HF.out.call stLev (Gn.of hW) (HF.out.rs.below hW) (Go_.refl q)
          refine (rstep_any FW.rs).mono ?_
          rintro e w5 ⟨x, rfl, hr5, hg5, hH5, hx5⟩
          have hfw := HF.out.few.2 hzq
          have hgo := go_step_any T q
          obtain ⟨g4, c4, w6, hrun, k1, k2, k3, k4, k5⟩ := FW.item stLev appSt hg5 hr5 hH5 hgo ⟨by have := hgo.1; omega, fun k => by have := step_more k; omega⟩
          refine ⟨x, rfl, g4, c4, w6, hrun, k1, k2, k3, k4, k5, ?_⟩
          obtain ⟨f, hf, h1, h2⟩ := HS.out
          have := hf hzq
          have hin : q.i < T.length := HF.out.rs.pt.inn
          cases f with
          | zero => omega
          | succ f =>
            rw [steps_go hzq hb] at h1 h2
            refine ⟨f, fun z => by have := step_more z; omega, h1, ?_⟩
            rw [h2, List.map_append, List.append_assoc, ← hx5]
            rfl
        have NXT : Hid ((q.step T).1.flt = 0 → q.i + 1 ≤ (q.step T).1.i) := fun k => step_more k
        have hin : q.i < T.length := HF.out.rs.pt.inn
        rw [if_pos hzq] at hk
        clear hzq hb
        go_wp2_with (first
          | (go_at_call 24; (with_reducible refine ci.mono ?_); rintro e w6 ⟨rfl, hb6, F6⟩; have d6 := (hb6.cell (p := ⟨b3, 1, none⟩) hl3).trans d1; have hb57 : Below wr.heap.size wr w6.drew := Below.thenN hb6 1))
        go_region_law (first
          | (refine step_append_run rfl (.tmp 50) (.tmp 53) _ rfl rfl rfl HRUN.out ?_)
          | (go_simp; go_at_call 85; refine (STEP.out _ hb57).mono ?_; rintro e w7 ⟨x, rfl, g4, c4, w8, HRUN, d7, l7, d8, f8, HG8, HS8⟩))
        all_goals
          go_wp2
          go_roundg (gk - 1)
          case measure => omega
          case rel =>
            have hn := NXT.out
            exact ⟨_, _, c4, ss ++ [x], HG8, HS8, by split <;> omega⟩
    · have hfz : ((q.flt : Int) == 0) = false := by rw [beq_eq_false_iff_ne]; omega
      have END : Hid (∀ W, (GZ StLev 49 (.int .u64 0) w W g A c T q w.heap.size b3 (.int .u64 0) t.a As cs ss) → Calls Tryz.prog 49 #[.pointer (some ⟨g, 0, none⟩), .string ⟨#[125]⟩] W fun e w4 => e = .returned (.tuple #[]) ∧ Hid ((GZ StLev 49 (.int .u64 0) w w4 g A c T E w.heap.size b3 (.int .u64 0) t.a As cs ss) ∧ L = ss.map (·.s))) := fun W hW => by
        obtain ⟨f, hf, h1, h2⟩ := HS.out
        rw [steps_no (.inl hzq)] at h1 h2
        have h1' : q = S := h1
        refine (gz_mark (q' := E) stLev hW 125 (by rw [h1']; exact hE)).mono ?_
        rintro e w4 ⟨rfl, h4⟩
        exact ⟨rfl, h4.out, by rw [h2, List.append_nil]⟩
      clear hzq
      go_wp2_with (first
        | (go_at_call 49; (with_reducible refine (END.out _ HF.out).mono ?_); rintro e w7 ⟨rfl, F7⟩)
        | (refine wpList_load_cb rfl 49 (.tmp 3) rfl _ _ rfl F7.out.1.s3 Tryz.underlying49 rfl (by kernel_rfl) ?_)
        | (refine wpList_store_cb rfl 49 (.tmp 2) (.tmp 58) rfl w.heap.size _ _ rfl rfl F7.out.1.r2 rfl (by kernel_rfl) (by kernel_rfl) ?_; intro w9 h9 t9))
      obtain ⟨z1, z2, z3⟩ := F7.out.1.close stLev t9
      refine bodyPost_ret (results_cb rfl _ _ _ _ rfl h9 Tryz.underlying49 rfl (by kernel_rfl)) rfl ?_
      refine ⟨⟨0, t.a, ss, As, cs⟩, rfl, by rw [HV.out]; exact z1, z2, z3, ?_⟩
      rw [HV.out, F7.out.2]
      rfl

theorem rversion_any {w : World} {g : Nat} {A : Option Addr} {c : Nat} {T : List Tk} {p : PS} (h : RZ w g A c T p) : Calls Tryz.prog 50 #[.pointer (some ⟨g, 0, none⟩)] w (VerR g A c T p w) := by
  by_cases hz : (p.word T [118, 101, 114, 115, 105, 111, 110]).flt = 0
  · by_cases hk : ((p.word T [118, 101, 114, 115, 105, 111, 110]).tok T).k = 2
    · exact rversionA_any h hz hk
    · exact rversionB_any h hz hk
  · exact rversionC_any h hz
end Go.Proofs.YtbngelinfpaefaaGreatDoor
