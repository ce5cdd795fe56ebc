/- The walk of the reference: a call. -/
import Derived.Test.YtbngelinfpaefaaGreatDoorParRTerm
namespace Go.Proofs.YtbngelinfpaefaaGreatDoor
open Go.RowKit

theorem Fit.level {T : List Tk} {p : PS} (h : Fit p) : Fit (p.level T) := by
  unfold PS.level
  split
  · exact h
  · rename_i z
    have z0 : p.flt = 0 := Decidable.byContradiction z
    split
    · obtain ⟨e1, e2, e3, e4⟩ := fail_same p (p.tok T).a 91
      exact ⟨by rw [e2, e4]; exact h.n, by rw [e1, e4]; exact h.d, by rw [e3]; exact h.hi, by rw [e3]; exact h.lo, fun z2 => absurd z2 (fail_flt (by decide))⟩
    · rename_i q
      have a := h.hi
      have b := h.at_ z0
      have n := h.n
      have d := h.d
      exact ⟨by show p.nds.length ≤ p.i + 1; omega, by show p.dps.length ≤ p.i + 1; omega, by show p.opn + 1 ≤ 100; omega, by show -1 ≤ p.opn + 1; omega, fun _ => by show 0 ≤ p.opn + 1; omega⟩
theorem Fit.mark {T : List Tk} {p : PS} (h : Fit p) (m : UInt8) : Fit (p.mark T m) := by
  obtain ⟨e1, e2, e3⟩ := want_same T p 4 [m]
  have hg := go_want (T := T) p 4 [m]
  have hi := hg.1
  have n := h.n
  have d := h.d
  refine ⟨?_, ?_, ?_, ?_, fun z => ?_⟩
  · show (p.want T 4 [m]).nds.length ≤ (p.want T 4 [m]).i
    rw [e2]; omega
  · show (p.want T 4 [m]).dps.length ≤ (p.want T 4 [m]).i
    rw [e1]; omega
  · show (p.want T 4 [m]).opn ≤ 100
    rw [e3]; exact h.hi
  · show -1 ≤ (p.want T 4 [m]).opn
    rw [e3]; exact h.lo
  · show 0 ≤ (p.want T 4 [m]).opn
    rw [e3]; exact h.at_ (flt_back hg z)
theorem args_on {T : List Tk} {fac : PS → PS} {k f n : Nat} {p : PS} (h : p.is T 4 [44] = true) (hn : k = 0 ∨ n < k) : argsLoop T fac k (f + 1) p n = argsLoop T fac k f (exprW T fac p.next) (n + 1) := by
  conv => lhs; unfold argsLoop
  rw [if_pos (by rw [h]; rcases hn with e | e <;> simp [e])]
theorem args_off {T : List Tk} {fac : PS → PS} {k f n : Nat} {p : PS} (h : p.is T 4 [44] = false ∨ ¬ (k = 0 ∨ n < k)) : argsLoop T fac k f p n = (p, n) := by
  cases f with
  | zero => rfl
  | succ f =>
    unfold argsLoop
    rw [if_neg]
    rcases h with e | e
    · rw [e]; simp
    · intro z
      rw [Bool.and_eq_true_iff, Bool.or_eq_true_iff, beq_iff_eq, decide_eq_true_eq] at z
      exact e z.2

set_option maxRecDepth 100000 in
set_option maxHeartbeats 8000000 in
theorem rcall_any {T : List Tk} {f : Nat} (F : RF T f) {w : World} {g B : Nat} {A : Option Addr} {c : Nat} {p : PS} {gn gd : Nat} (h : PSe w g B A c T p gn gd) (hf : Fit p) (hk0 : (p.tok T).k ≠ 0) (hc : T.length < p.i + 1 + f) (op k : Nat) (hop : op ≤ 100) (hkk : k ≤ 100) :
    Calls Tryz.prog 160 #[.pointer (some ⟨g, 0, none⟩), .int .i64 (op : Nat), .int .i64 (k : Nat)] w (XAt_ w g B A c T gn gd (callW T (factorF T f) op k p)) := by
  obtain ⟨t, ht⟩ : ∃ t, p.tok T = t := ⟨_, rfl⟩
  obtain ⟨e, he⟩ : ∃ e, (p.level T).mark T 40 = e := ⟨_, rfl⟩
  obtain ⟨R, hR⟩ : ∃ R, argsLoop T (factorF T f) k (T.length + 1) (exprW T (factorF T f) e) 1 = R := ⟨_, rfl⟩
  obtain ⟨Z, hZ⟩ : ∃ Z, callW T (factorF T f) op k p = Z := ⟨_, rfl⟩
  have hZ2 : Z = (((if k ≠ 0 ∧ R.2 < k then R.1.mark T 44 else R.1).mark T 41).emit ⟨op, if op = 9 then R.2 else 0, 0, [], t.a⟩ R.2).shut := by
    rw [← hZ, ← hR, ← he, ← ht]
    rfl
  have fe : Fit e := by rw [← he]; exact hf.level.mark 40
  have hce : e.flt ≠ 0 ∨ T.length < e.i + f := by
    by_cases z : e.flt = 0
    · have zl : (p.level T).flt = 0 := flt_back (by rw [← he]; exact go_want (T := T) (p.level T) 4 [40]) z
      have := (cn_level (T := T) (m := T.length + 1 - f) (p := p) (by omega) zl).go (q := e) (by rw [← he]; exact go_want (T := T) (p.level T) 4 [40])
      rcases this with y | y
      · exact .inl y
      · exact .inr (by omega)
    · exact .inl z
  have EX := ex_expr_ (T := T) (f := f) e hce
  have ct := xtok_any h ht
  have CL := Lib.hid (fun (W : World) (hW : Below w.heap.size w W) => xlevel_any (h.below hW) hf fun _ => hk0)
  have IN : Hid (∀ {W : World} {q : PS} {n d : Nat}, PSe W g B A c T q n d → Fit q → (q.flt ≠ 0 ∨ T.length < q.i + f) → Calls Tryz.prog 53 #[.pointer (some ⟨g, 0, none⟩)] W (XAt_ W g B A c T n d (exprW T (factorF T f) q))) := fun h1 h2 h3 => rexpr_any F h1 h2 h3
  have HCE := Lib.hid hce
  have HZ := Lib.hid hZ2
  have HE := Lib.hid he
  have L0 : Hid (∃ n, ((exprW T (factorF T f) e).flt = 0 → T.length ≤ (exprW T (factorF T f) e).i + n) ∧ argsLoop T (factorF T f) k n (exprW T (factorF T f) e) 1 = R) := ⟨T.length + 1, fun _ => by omega, hR⟩
  have AR0 : Hid (Args T e (exprW T (factorF T f) e) 1 ∧ Fit (exprW T (factorF T f) e) ∧ 1 ≤ (exprW T (factorF T f) e).i + 1) := ⟨⟨EX.go, EX.ln, EX.one, EX.opn⟩, fe.ex EX, by omega⟩
  have FE := Lib.hid fe
  rw [hZ]
  unfold XAt_
  clear hZ hZ2 hR he EX F h hf hk0 hc fe hce ht
  go_enter Tryz.func160, Tryz.ntmps160
  have cf : ∀ W, (Instr.field 78 (.agg #[.int .i64 (t.k : Nat), .string (str t.t), .int .u64 (t.n : Nat), .int .i64 (t.a : Nat), .int .i64 (t.e : Nat)]) 3).run Tryz.prog W = .ok (.int .i64 (t.a : Nat)) W := fun W => rfld_a t W
  go_wp2_with (first
    | (go_at_call 46; refine ct.mono ?_; rintro e w1 ⟨rfl, hb1⟩; have cl := CL.out w1 hb1)
    | (go_at_call 142; refine cl.mono ?_; rintro e w2 ⟨rfl, hP2, hX2⟩; have cm : Calls Tryz.prog 49 #[.pointer (some ⟨g, 0, none⟩), .string ⟨#[40]⟩] w2 _ := xmark_any hP2 40; have X2 := Lib.hid ((Xr.of hb1).trans hX2); clear hP2 hX2)
    | (go_at_call 49; refine cm.mono ?_; rintro e w3 ⟨rfl, hP3, hX3⟩; rw [HE.out] at hP3; have ce := IN.out hP3 FE.out HCE.out; have X3 := Lib.hid (X2.out.trans hX3); clear hP3 hX3)
    | (go_at_call 53; refine ce.mono ?_; rintro e w4 ⟨rfl, n4, d4, hP4, hX4⟩; have S4 := Lib.hid (And.intro hP4 (And.intro (X3.out.trans hX4) AR0.out)); clear hP4 hX4))
  clear ct cl cm ce cf
  go_loopg [7] (T.length) (fun j v wr => ∃ (q : PS) (m n d : Nat), v = .int .i64 m ∧ Hid (PSe wr g B A c T q n d ∧ Xr g gn gd n d w wr ∧ Args T e q m ∧ Fit q ∧ m ≤ q.i + 1) ∧ Hid (∃ n, (q.flt = 0 → T.length ≤ q.i + n) ∧ argsLoop T (factorF T f) k n q m = R) ∧ T.length - q.i ≤ j)
  case atStart => exact ⟨_, 1, n4, d4, rfl, S4, L0, by omega⟩
  case round =>
    clear S4 L0 AR0
    obtain ⟨q, m, n, d, rfl, HQ, HN, hk⟩ := hrel
    have hil := HQ.out.1.i_lt
    have hmi := HQ.out.2.2.2.2
    obtain ⟨b, hb⟩ : ∃ b, q.is T 4 [44] = b := ⟨_, rfl⟩
    have ci := xis_any HQ.out.1 4 [44]
    rw [hb] at ci
    change Calls _ _ #[_, .int .i64 4, .string ⟨#[44]⟩] _ _ at ci
    by_cases hgo : b = true ∧ (k = 0 ∨ m < k)
    · obtain ⟨rfl, hkm⟩ := hgo
      have hok := is_ok q hb
      have hq0 : (q.tok T).k ≠ 0 := by rw [hok.2.1]; decide
      have hc2 := lv_next HCE.out HQ.out.2.2.1.go hok.1
      have hFn := HQ.out.2.2.2.1.next
      have ee := ex_expr_ (T := T) (f := f) q.next hc2
      have ho : q.opn = e.opn := HQ.out.2.2.1.opn.resolve_right fun z => z.1 hok.1
      have NEW : Hid (Args T e (exprW T (factorF T f) q.next) (m + 1) ∧ Fit (exprW T (factorF T f) q.next) ∧ m + 1 ≤ (exprW T (factorF T f) q.next).i + 1) := by
        refine ⟨⟨HQ.out.2.2.1.go.trans ((go_next q hok.1).trans ee.go), ((HQ.out.2.2.1.ln.trans (ln_next q)).trans ee.ln).more (by decide), fun r0 ri => ?_, ?_⟩, hFn.ex ee, ?_⟩
        · have a := ee.one r0 ri
          have b := HQ.out.2.2.1.one hok.1 (Nat.le_trans ((go_next q hok.1).trans ee.go).1 ri)
          have c : q.next.dps.length = q.dps.length := rfl
          omega
        · have hn : q.next.opn = q.opn := rfl
          rcases ee.opn with e1 | ⟨e1, e2⟩
          · exact .inl (by omega)
          · exact .inr ⟨e1, by omega⟩
        · have : q.i + 1 ≤ (exprW T (factorF T f) q.next).i := ee.go.1
          omega
      have NXT : Hid (q.i + 1 ≤ (exprW T (factorF T f) q.next).i) := ee.go.1
      have LN : Hid (∃ n, ((exprW T (factorF T f) q.next).flt = 0 → T.length ≤ (exprW T (factorF T f) q.next).i + n) ∧ argsLoop T (factorF T f) k n (exprW T (factorF T f) q.next) (m + 1) = R) := by
        obtain ⟨j, hj, hj2⟩ := HN.out
        have h1 := hj hok.1
        have h2 : q.i + 1 ≤ (exprW T (factorF T f) q.next).i := ee.go.1
        cases j with
        | zero => omega
        | succ j =>
          rw [args_on hb hkm] at hj2
          exact ⟨j, fun _ => by omega, hj2⟩
      have NX : Hid (∀ w5, Below wr.heap.size wr w5 → w5.cell? ⟨g, 1, none⟩ = some (.int .i64 (q.i : Nat)) ∧ w5.frozen? ⟨g, 1, none⟩ = false ∧ Hid (PSe (w5.setCell ⟨g, 1, none⟩ (.int .i64 ((q.i : Int) + 1))) g B A c T q.next n d ∧ Xr g gn gd n d w (w5.setCell ⟨g, 1, none⟩ (.int .i64 ((q.i : Int) + 1))))) := fun w5 hb5 => by
        have h5 := HQ.out.1.below hb5
        obtain ⟨a1, _, _, a2, _⟩ := h5.cells
        obtain ⟨s1, s2⟩ := h5.next hq0
        exact ⟨a1, a2, s1, (HQ.out.2.1.trans (Xr.of hb5)).trans s2⟩
      have INN : Hid (∀ {w7 : World}, PSe w7 g B A c T q.next n d → Calls Tryz.prog 53 #[.pointer (some ⟨g, 0, none⟩)] w7 (XAt_ w7 g B A c T n d (exprW T (factorF T f) q.next))) := fun h7 => IN.out h7 hFn hc2
      have kz : ((k : Int) == 0) = true ∨ (((k : Int) == 0) = false ∧ (m : Int) < (k : Int)) := by
        rcases hkm with z | z
        · left; rw [z]; rfl
        · by_cases y : k = 0
          · left; rw [y]; rfl
          · exact .inr ⟨beq_eq_false_iff_ne.2 (by omega), by omega⟩
      clear hb hok hq0 hc2 hFn ee ho hkm
      rcases kz with kz | ⟨kz, mz⟩
      all_goals
        go_wp2_with (first
          | (go_at_call 24; refine ci.mono ?_; rintro e w5 ⟨rfl, hb5⟩; obtain ⟨k1, k2, K5⟩ := NX.out w5 hb5)
          | (go_at_call 53; refine (INN.out K5.out.1).mono ?_; rintro e w6 ⟨rfl, n6, d6, hP6, hX6⟩; have S6 := Lib.hid (And.intro hP6 (And.intro (K5.out.2.trans hX6) NEW.out)); clear hP6 hX6 k1 k2))
        go_roundg (gk - 1)
        case measure => omega
        case rel => exact ⟨_, m + 1, n6, d6, by go_num, S6, LN, by have := NXT.out; omega⟩
    · -- no operand more
      have hR : R = (q, m) := by
        obtain ⟨j, _, hj⟩ := HN.out
        rw [← hj]
        refine args_off ?_
        by_cases hbt : b = true
        · exact .inr fun z => hgo ⟨hbt, z⟩
        · exact .inl (hb.trans (Bool.eq_false_iff.2 hbt))
      obtain ⟨q2, hq2⟩ : ∃ q2, (if k ≠ 0 ∧ m < k then q.mark T 44 else q) = q2 := ⟨_, rfl⟩
      have hZ3 : Z = ((q2.mark T 41).emit ⟨op, if op = 9 then m else 0, 0, [], t.a⟩ m).shut := by rw [HZ.out, hR, ← hq2]
      have hq3 : ∀ {x : PS}, x = (q2.mark T 41) → Fit x ∧ Go_ q x ∧ (x.flt = 0 → x.i ≤ T.length → m ≤ x.dps.length) := fun {x} hx => by
        have g2 : Fit q2 ∧ Go_ q q2 ∧ q2.dps = q.dps := by
          rw [← hq2]
          split
          · exact ⟨HQ.out.2.2.2.1.mark 44, go_want (T := T) q 4 [44], (want_same T q 4 [44]).1⟩
          · exact ⟨HQ.out.2.2.2.1, Go_.refl q, rfl⟩
        rw [hx]
        refine ⟨g2.1.mark 41, g2.2.1.trans (go_want (T := T) q2 4 [41]), fun z zi => ?_⟩
        have g3 := g2.2.1.trans (go_want (T := T) q2 4 [41])
        have := HQ.out.2.2.1.one (flt_back g3 z) (Nat.le_trans g3.1 zi)
        have e1 : (q2.mark T 41).dps = q.dps := (want_same T q2 4 [41]).1.trans g2.2.2
        rw [e1]
        omega
      have FIN : Hid (∀ {w8 : World} {n8 d8 : Nat} (o : Nat) (y : Int), y = (o : Nat) → o = (if op = 9 then m else 0) → PSe w8 g B A c T (q2.mark T 41) n8 d8 → Calls Tryz.prog 91 #[.pointer (some ⟨g, 0, none⟩), .agg #[.int .i64 (op : Nat), .int .i64 y, .int .u64 0, .string ⟨#[]⟩, .int .i64 (t.a : Nat)], .int .i64 (m : Nat)] (w8.alloc (.cells #[.int .i64 (op : Nat), .int .i64 y, .int .u64 0, .string ⟨#[]⟩, .int .i64 (t.a : Nat)] 53)) fun e w9 => e = .returned (.tuple #[]) ∧ ∃ (x : Int), -1 ≤ x ∧ x ≤ 100 ∧ w9.cell? ⟨g, 6, none⟩ = some (.int .i64 x) ∧ w9.frozen? ⟨g, 6, none⟩ = false ∧ Hid (∃ n9 d9, PSe (w9.setCell ⟨g, 6, none⟩ (.int .i64 (x - 1))) g B A c T Z n9 d9 ∧ Xr g n8 d8 n9 d9 w8 (w9.setCell ⟨g, 6, none⟩ (.int .i64 (x - 1))))) := fun {w8 n8 d8} o y hy ho h80 => by
        subst hy
        have hba : Below w8.heap.size w8 (w8.alloc (.cells #[.int .i64 (op : Nat), .int .i64 (o : Nat), .int .u64 0, .string ⟨#[]⟩, .int .i64 (t.a : Nat)] 53)) := (Below.refl _ w8).alloc (Nat.le_refl _) _
        have h8 := h80.below hba
        obtain ⟨f1, f2, f3⟩ := hq3 rfl
        have hi := h8.i_lt
        have hn := f1.n
        have hd := f1.d
        refine (remit_any h8 ⟨op, o, 0, [], t.a⟩ m (fun z => f3 z (by omega)) (by omega) (by omega)).mono ?_
        rintro e w9 ⟨rfl, n9, d9, h9, x9⟩
        obtain ⟨_, _, c6, _, f6⟩ := h9.cells
        obtain ⟨s1, s2⟩ := h9.shut
        have eo := emit_opn (q2.mark T 41) ⟨op, o, 0, [], t.a⟩ m
        refine ⟨rfl, _, by rw [eo]; exact f1.lo, by rw [eo]; exact f1.hi, c6, f6, n9, d9, ?_, ((Xr.of hba).trans x9).trans s2⟩
        rw [hZ3, ← ho]
        exact s1
      have HI := Lib.hid hil
      have hml : (m : Int) ≤ 2000001 := by omega
      have hop2 : (op : Int) ≤ 100 := by omega
      have hkz2 : (k : Int) ≤ 100 := by omega
      -- the marks
      have M1 : Hid (∀ W, Below wr.heap.size wr W → Calls Tryz.prog 49 #[.pointer (some ⟨g, 0, none⟩), .string ⟨#[44]⟩] W fun r w' => r = .returned (.tuple #[]) ∧ PSe w' g B A c T (q.mark T 44) n d ∧ Xr g n d n d W w') := fun W hW => xmark_any (HQ.out.1.below hW) 44
      have M2 : Hid (∀ {W : World}, PSe W g B A c T q2 n d → Calls Tryz.prog 49 #[.pointer (some ⟨g, 0, none⟩), .string ⟨#[41]⟩] W fun r w' => r = .returned (.tuple #[]) ∧ PSe w' g B A c T (q2.mark T 41) n d ∧ Xr g n d n d W w') := fun hW => xmark_any hW 41
      have ends : (b = false ∨ (b = true ∧ ((k : Int) == 0) = false ∧ ¬ (m : Int) < (k : Int))) := by
        by_cases hbt : b = true
        · have : ¬ (k = 0 ∨ m < k) := fun z => hgo ⟨hbt, z⟩
          exact .inr ⟨hbt, beq_eq_false_iff_ne.2 (by omega), by omega⟩
        · exact .inl (Bool.eq_false_iff.2 hbt)
      have endz : ((k : Int) = 0 ∨ ((k : Int) ≠ 0 ∧ (m : Int) < k) ∨ ((k : Int) ≠ 0 ∧ ¬ (m : Int) < k)) := by omega
      have PB0 : Hid (∀ W, Below wr.heap.size wr W → PSe W g B A c T q n d ∧ Xr g gn gd n d w W) := fun W hW => ⟨HQ.out.1.below hW, HQ.out.2.1.trans (Xr.of hW)⟩
      clear hb hgo hR hZ3 hq3 hil hmi hk
      have hk9 : (((op : Int) == 9) = true ∧ Hid (op = 9)) ∨ (((op : Int) == 9) = false ∧ Hid (op ≠ 9)) := by
        by_cases z : op = 9
        · exact .inl ⟨by rw [z]; rfl, z⟩
        · exact .inr ⟨beq_eq_false_iff_ne.2 (by omega), z⟩
      have endy : (((k : Int) == 0) = true ∧ ((k : Int) != 0) = false ∧ q2 = q) ∨ (((k : Int) == 0) = false ∧ ((k : Int) != 0) = true ∧ (m : Int) < (k : Int) ∧ q2 = q.mark T 44) ∨ (((k : Int) == 0) = false ∧ ((k : Int) != 0) = true ∧ ¬ (m : Int) < (k : Int) ∧ q2 = q) := by
        rw [← hq2]
        by_cases z : k = 0
        · refine .inl ⟨by rw [z]; rfl, by rw [z]; rfl, if_neg fun y => y.1 z⟩
        · have z1 : ((k : Int) == 0) = false := beq_eq_false_iff_ne.2 (by omega)
          have z2 : ((k : Int) != 0) = true := by rw [bne, z1]; rfl
          by_cases y : m < k
          · exact .inr (.inl ⟨z1, z2, by omega, if_pos ⟨z, y⟩⟩)
          · exact .inr (.inr ⟨z1, z2, by omega, if_neg fun x => y x.2⟩)
      clear endz hq2
      have Q2 : Hid (q2 = q2) := rfl
      -- the comma's place done: what is owed from there
      have END2 : ∀ (r : Go.Ending), True := fun _ => trivial
      clear END2
      rcases endy with ⟨kz, kn, rfl⟩ | ⟨kz, kn, mk, hq2⟩ | ⟨kz, kn, mk, rfl⟩
      all_goals rcases ends with rfl | ⟨rfl, kz2, mk2⟩
      all_goals first | (exfalso; rw [kz] at kz2; exact Bool.noConfusion kz2) | (exfalso; exact mk2 mk) | skip
      all_goals rcases hk9 with ⟨z9, e9⟩ | ⟨z9, e9⟩
      rotate_left 2
      · go_wp2_with (first
          | (go_at_call 24; refine ci.mono ?_; rintro e w5 ⟨rfl, hb5⟩; obtain ⟨K5, KX5⟩ := PB0.out w5 hb5; have m1 := M1.out w5 hb5)
          | (go_at_call 49; (with_reducible refine m1.mono ?_); rintro e w6 ⟨rfl, hP6, hX6⟩; rw [← hq2] at hP6; have K6 := hP6; have KX6 := KX5.trans hX6; clear hP6 hX6 m1)
          | (go_at_call 49; refine (M2.out K6).mono ?_; rintro e w7 ⟨rfl, hP7, hX7⟩; have X7 := Lib.hid (KX6.trans hX7); have ce := FIN.out m _ rfl (if_pos e9.out).symm hP7; clear hP7 hX7)
          | (go_at_call 91; refine ce.mono ?_; rintro e w9 ⟨rfl, x, xlo, xhi, c9, f9, END⟩))
        go_end0
        obtain ⟨n9, d9, h9, x9⟩ := END.out
        exact ⟨rfl, n9, d9, h9, X7.out.trans x9⟩
      · go_wp2_with (first
          | (go_at_call 24; refine ci.mono ?_; rintro e w5 ⟨rfl, hb5⟩; obtain ⟨K5, KX5⟩ := PB0.out w5 hb5; have m1 := M1.out w5 hb5)
          | (go_at_call 49; (with_reducible refine m1.mono ?_); rintro e w6 ⟨rfl, hP6, hX6⟩; rw [← hq2] at hP6; have K6 := hP6; have KX6 := KX5.trans hX6; clear hP6 hX6 m1)
          | (go_at_call 49; refine (M2.out K6).mono ?_; rintro e w7 ⟨rfl, hP7, hX7⟩; have X7 := Lib.hid (KX6.trans hX7); have ce := FIN.out 0 0 rfl (if_neg e9.out).symm hP7; clear hP7 hX7)
          | (go_at_call 91; refine ce.mono ?_; rintro e w9 ⟨rfl, x, xlo, xhi, c9, f9, END⟩))
        go_end0
        obtain ⟨n9, d9, h9, x9⟩ := END.out
        exact ⟨rfl, n9, d9, h9, X7.out.trans x9⟩
      · go_wp2_with (first
          | (go_at_call 24; refine ci.mono ?_; rintro e w5 ⟨rfl, hb5⟩; obtain ⟨K5, KX5⟩ := PB0.out w5 hb5; have m1 := M1.out w5 hb5)
          | (go_at_call 49; refine (M2.out K5).mono ?_; rintro e w7 ⟨rfl, hP7, hX7⟩; have X7 := Lib.hid (KX5.trans hX7); have ce := FIN.out m _ rfl (if_pos e9.out).symm hP7; clear hP7 hX7)
          | (go_at_call 91; refine ce.mono ?_; rintro e w9 ⟨rfl, x, xlo, xhi, c9, f9, END⟩))
        go_end0
        obtain ⟨n9, d9, h9, x9⟩ := END.out
        exact ⟨rfl, n9, d9, h9, X7.out.trans x9⟩
      · go_wp2_with (first
          | (go_at_call 24; refine ci.mono ?_; rintro e w5 ⟨rfl, hb5⟩; obtain ⟨K5, KX5⟩ := PB0.out w5 hb5; have m1 := M1.out w5 hb5)
          | (go_at_call 49; refine (M2.out K5).mono ?_; rintro e w7 ⟨rfl, hP7, hX7⟩; have X7 := Lib.hid (KX5.trans hX7); have ce := FIN.out 0 0 rfl (if_neg e9.out).symm hP7; clear hP7 hX7)
          | (go_at_call 91; refine ce.mono ?_; rintro e w9 ⟨rfl, x, xlo, xhi, c9, f9, END⟩))
        go_end0
        obtain ⟨n9, d9, h9, x9⟩ := END.out
        exact ⟨rfl, n9, d9, h9, X7.out.trans x9⟩
      · go_wp2_with (first
          | (go_at_call 24; refine ci.mono ?_; rintro e w5 ⟨rfl, hb5⟩; obtain ⟨K5, KX5⟩ := PB0.out w5 hb5; have m1 := M1.out w5 hb5)
          | (go_at_call 49; refine (M2.out K5).mono ?_; rintro e w7 ⟨rfl, hP7, hX7⟩; have X7 := Lib.hid (KX5.trans hX7); have ce := FIN.out m _ rfl (if_pos e9.out).symm hP7; clear hP7 hX7)
          | (go_at_call 91; refine ce.mono ?_; rintro e w9 ⟨rfl, x, xlo, xhi, c9, f9, END⟩))
        go_end0
        obtain ⟨n9, d9, h9, x9⟩ := END.out
        exact ⟨rfl, n9, d9, h9, X7.out.trans x9⟩
      · go_wp2_with (first
          | (go_at_call 24; refine ci.mono ?_; rintro e w5 ⟨rfl, hb5⟩; obtain ⟨K5, KX5⟩ := PB0.out w5 hb5; have m1 := M1.out w5 hb5)
          | (go_at_call 49; refine (M2.out K5).mono ?_; rintro e w7 ⟨rfl, hP7, hX7⟩; have X7 := Lib.hid (KX5.trans hX7); have ce := FIN.out 0 0 rfl (if_neg e9.out).symm hP7; clear hP7 hX7)
          | (go_at_call 91; refine ce.mono ?_; rintro e w9 ⟨rfl, x, xlo, xhi, c9, f9, END⟩))
        go_end0
        obtain ⟨n9, d9, h9, x9⟩ := END.out
        exact ⟨rfl, n9, d9, h9, X7.out.trans x9⟩
      · go_wp2_with (first
          | (go_at_call 24; refine ci.mono ?_; rintro e w5 ⟨rfl, hb5⟩; obtain ⟨K5, KX5⟩ := PB0.out w5 hb5; have m1 := M1.out w5 hb5)
          | (go_at_call 49; refine (M2.out K5).mono ?_; rintro e w7 ⟨rfl, hP7, hX7⟩; have X7 := Lib.hid (KX5.trans hX7); have ce := FIN.out m _ rfl (if_pos e9.out).symm hP7; clear hP7 hX7)
          | (go_at_call 91; refine ce.mono ?_; rintro e w9 ⟨rfl, x, xlo, xhi, c9, f9, END⟩))
        go_end0
        obtain ⟨n9, d9, h9, x9⟩ := END.out
        exact ⟨rfl, n9, d9, h9, X7.out.trans x9⟩
      · go_wp2_with (first
          | (go_at_call 24; refine ci.mono ?_; rintro e w5 ⟨rfl, hb5⟩; obtain ⟨K5, KX5⟩ := PB0.out w5 hb5; have m1 := M1.out w5 hb5)
          | (go_at_call 49; refine (M2.out K5).mono ?_; rintro e w7 ⟨rfl, hP7, hX7⟩; have X7 := Lib.hid (KX5.trans hX7); have ce := FIN.out 0 0 rfl (if_neg e9.out).symm hP7; clear hP7 hX7)
          | (go_at_call 91; refine ce.mono ?_; rintro e w9 ⟨rfl, x, xlo, xhi, c9, f9, END⟩))
        go_end0
        obtain ⟨n9, d9, h9, x9⟩ := END.out
        exact ⟨rfl, n9, d9, h9, X7.out.trans x9⟩
end Go.Proofs.YtbngelinfpaefaaGreatDoor
