/- The walks of the reference: a term, an expression, over a factor of so many levels. -/
import Derived.Test.YtbngelinfpaefaaGreatDoorParEmit
import Derived.Test.YtbngelinfpaefaaGreatDoorParGh
import Derived.Deep.LoopGhost
namespace Go.Proofs.YtbngelinfpaefaaGreatDoor
open Go.RowKit

/-- what a call at an expression's parser does: from the state p to q -/
def XAt_ (w : World) (g B : Nat) (A : Option Addr) (c : Nat) (T : List Tk) (gn gd : Nat) (q : PS) (r : Ending) (w' : World) : Prop :=
  r = .returned (.tuple #[]) ∧ ∃ gn' gd', PSe w' g B A c T q gn' gd' ∧ Xr g gn gd gn' gd' w w'
/-- the reference's factor, where so many levels are left -/
def RF (T : List Tk) (f : Nat) : Prop := ∀ {w : World} {g B : Nat} {A : Option Addr} {c : Nat} {p : PS} {gn gd : Nat}, PSe w g B A c T p gn gd → Fit p → (p.flt ≠ 0 ∨ T.length < p.i + f) → Calls Tryz.prog 123 #[.pointer (some ⟨g, 0, none⟩)] w (XAt_ w g B A c T gn gd (factorF T f p))
theorem rterm_off {T : List Tk} {fac : PS → PS} {f : Nat} {p : PS} (h : p.is T 4 [42] = false) : termLoop T fac f p = p := by
  cases f with
  | zero => rfl
  | succ f => unfold termLoop; rw [if_neg (by rw [h]; decide)]
theorem rterm_on {T : List Tk} {fac : PS → PS} {f : Nat} {p : PS} (h : p.is T 4 [42] = true) : termLoop T fac (f + 1) p = termLoop T fac f ((fac p.next).emit ⟨8, 0, 0, [], (p.tok T).a⟩ 2) := by
  conv => lhs; unfold termLoop
  rw [if_pos h]
theorem rexpr_off {T : List Tk} {fac : PS → PS} {f : Nat} {p : PS} (h : p.is T 4 [43] = false) (h2 : p.is T 4 [45] = false) : exprLoop T fac f p = p := by
  cases f with
  | zero => rfl
  | succ f => unfold exprLoop; rw [if_neg (by rw [h, h2]; decide)]
theorem rexpr_on {T : List Tk} {fac : PS → PS} {f : Nat} {p : PS} (h : p.is T 4 [43] = true ∨ p.is T 4 [45] = true) : exprLoop T fac (f + 1) p = exprLoop T fac f ((termW T fac p.next).emit ⟨if (p.tok T).t = [45] then 7 else 6, 0, 0, [], (p.tok T).a⟩ 2) := by
  conv => lhs; unfold exprLoop
  rw [if_pos (by rcases h with e | e <;> rw [e] <;> simp)]
section
variable {T : List Tk} {f : Nat}
theorem ex_fac (p : PS) (h : p.flt ≠ 0 ∨ T.length < p.i + f) : Ex1 T p (factorF T f p) := ex_factorF f p h
theorem ex_facC (p : PS) (h : Cn (T.length + 1 - f) p) : Ex1 T p (factorF T f p) := ex_factorF f p (h.imp id fun z => by omega)
theorem cn_of {p : PS} (h : p.flt ≠ 0 ∨ T.length < p.i + f) : Cn (T.length + 1 - f) p := h.imp id fun z => by omega
theorem ex_term_ (p : PS) (h : p.flt ≠ 0 ∨ T.length < p.i + f) : Ex1 T p (termW T (factorF T f) p) := ex_termW (m := T.length + 1 - f) (fun q hq => ex_facC q hq) p (cn_of h)
theorem ex_expr_ (p : PS) (h : p.flt ≠ 0 ∨ T.length < p.i + f) : Ex1 T p (exprW T (factorF T f) p) := ex_exprW (m := T.length + 1 - f) (fun q hq => ex_facC q hq) p (cn_of h)
/-- behind a state where nothing is amiss: still so many levels -/
theorem lv_next {p q : PS} (h : p.flt ≠ 0 ∨ T.length < p.i + f) (e : Go_ p q) (h0 : q.flt = 0) : q.next.flt ≠ 0 ∨ T.length < q.next.i + f := by
  rcases h with z | z
  · exact absurd (flt_back e h0) z
  · have := e.1
    refine .inr ?_
    show T.length < q.i + 1 + f
    omega
theorem Fit.next {p : PS} (h : Fit p) : Fit p.next := ⟨Nat.le_succ_of_le h.n, Nat.le_succ_of_le h.d, h.hi, h.lo, h.at_⟩
/-- the operand behind an operator's mark, and the node over both: what is asked and what comes of it -/
theorem rtwo {w : World} {g B : Nat} {A : Option Addr} {c : Nat} {p q : PS} {gn gd : Nat} (hE : Ex1 T p q) (hF : Fit q) (h0 : q.flt = 0) {r : PS} (hR : Ex1 T q.next r) (h : PSe w g B A c T r gn gd) (x : Nd) :
    Calls Tryz.prog 91 #[.pointer (some ⟨g, 0, none⟩), .agg #[.int .i64 (x.op : Nat), .int .i64 (x.n : Nat), .int .u64 (x.num : Nat), .string (str x.t), .int .i64 (x.a : Nat)], .int .i64 2] w (XAt_ w g B A c T gn gd (r.emit x 2)) ∧ Ex1 T p (r.emit x 2) ∧ Fit (r.emit x 2) ∧ q.i + 1 ≤ (r.emit x 2).i := by
  have hr := h.i_lt
  have hFn := hF.next.ex hR
  have hE2 := two_more (x := x) hE h0 hR
  have hi2 : q.i + 1 ≤ r.i := hR.go.1
  refine ⟨?_, hE2, ?_, by rw [emit_i]; exact hi2⟩
  · refine (remit_any h x 2 (fun z => ?_) (by have := hFn.n; omega) (by have := hFn.d; omega)).mono fun e w' h => h
    have a := hR.one z (by omega)
    have b := hE.one h0 (by omega)
    have e : q.next.dps.length = q.dps.length := rfl
    omega
  · have l1 := (hE.ln.trans (ln_next q)).trans (hR.ln.trans (ln_emit r x 2))
    have n1 := hF.next.n
    have d1 := hF.next.d
    have l2 := (ln_next q).trans (hR.ln.trans (ln_emit r x 2))
    have k1 := l2.1
    have k2 := l2.2
    have a := hF.n
    have b := hF.d
    have ho : (r.emit x 2).opn = r.opn := emit_opn r x 2
    refine ⟨by omega, by omega, by rw [ho]; exact hFn.hi, by rw [ho]; exact hFn.lo, fun z => ?_⟩
    rw [ho]
    exact hFn.at_ (emit_ok z).1
end

set_option maxRecDepth 100000 in
set_option maxHeartbeats 4000000 in
theorem rterm_any {T : List Tk} {f : Nat} (F : RF T f) {w : World} {g B : Nat} {A : Option Addr} {c : Nat} {p : PS} {gn gd : Nat} (h : PSe w g B A c T p gn gd) (hf : Fit p) (hc : p.flt ≠ 0 ∨ T.length < p.i + f) :
    Calls Tryz.prog 90 #[.pointer (some ⟨g, 0, none⟩)] w (XAt_ w g B A c T gn gd (termW T (factorF T f) p)) := by
  obtain ⟨R, hR⟩ : ∃ R, termW T (factorF T f) p = R := ⟨_, rfl⟩
  have cf := F h hf hc
  have E0 := ex_fac p hc
  have IN : Hid (∀ {W : World} {q : PS} {n d : Nat}, PSe W g B A c T q n d → Fit q → (q.flt ≠ 0 ∨ T.length < q.i + f) → Calls Tryz.prog 123 #[.pointer (some ⟨g, 0, none⟩)] W (XAt_ W g B A c T n d (factorF T f q))) := fun h1 h2 h3 => F h1 h2 h3
  have HC := Lib.hid hc
  have L0 : Hid (∃ n, ((factorF T f p).flt = 0 → T.length ≤ (factorF T f p).i + n) ∧ termLoop T (factorF T f) n (factorF T f p) = R) := ⟨T.length + 1, fun _ => by omega, hR⟩
  have F0 := hf.ex E0
  unfold XAt_ at cf ⊢
  rw [hR]
  clear hR F h
  go_enter Tryz.func90, Tryz.ntmps90
  go_wp2_with (go_at_call 123; refine cf.mono ?_; rintro e w1 ⟨rfl, n1, d1, hP1, hX1⟩; have S1 := Lib.hid (And.intro hP1 (And.intro hX1 (And.intro E0 F0))); clear hP1 hX1)
  clear cf
  go_loopg [] (T.length) (fun k wr => ∃ (q : PS) (n d : Nat), Hid (PSe wr g B A c T q n d ∧ Xr g gn gd n d w wr ∧ Ex1 T p q ∧ Fit q) ∧ Hid (∃ n, (q.flt = 0 → T.length ≤ q.i + n) ∧ termLoop T (factorF T f) n q = R) ∧ T.length - q.i ≤ k)
  case atStart => exact ⟨_, n1, d1, S1, L0, by omega⟩
  case round =>
    clear S1 L0 E0 F0
    obtain ⟨q, n, d, HQ, HN, hk⟩ := hrel
    have hil := HQ.out.1.i_lt
    obtain ⟨b, hb⟩ : ∃ b, q.is T 4 [42] = b := ⟨_, rfl⟩
    have ci := xis_any HQ.out.1 4 [42]
    rw [hb] at ci
    change Calls _ _ #[_, .int .i64 4, .string ⟨#[42]⟩] _ _ at ci
    cases b with
    | false =>
      have END : Hid (∀ W, Below wr.heap.size wr W → ∃ gn' gd', PSe W g B A c T R gn' gd' ∧ Xr g gn gd gn' gd' w W) := fun W hW => by
        obtain ⟨m, _, hm⟩ := HN.out
        rw [rterm_off hb] at hm
        rw [← hm]
        exact ⟨n, d, HQ.out.1.below hW, HQ.out.2.1.trans (Xr.of hW)⟩
      clear hb
      go_wp2_with (go_at_call 24; refine ci.mono ?_; rintro e w5 ⟨rfl, hb5⟩)
      go_end0
      exact ⟨rfl, END.out _ hb5⟩
    | true =>
      obtain ⟨t, ht⟩ : ∃ t, q.tok T = t := ⟨_, rfl⟩
      have hok := is_ok q hb
      have hk0 : (q.tok T).k ≠ 0 := by rw [hok.2.1]; decide
      -- the mark taken, the operand, the node
      have NX : Hid (∀ w6, Below wr.heap.size wr w6 → (∃ v, (w6.alloc (.cells #[.int .i64 (t.k : Nat), .string (str t.t), .int .u64 (t.n : Nat), .int .i64 (t.a : Nat), .int .i64 (t.e : Nat)] 78)).cell? ⟨g, 1, none⟩ = some v) ∧ (w6.alloc (.cells #[.int .i64 (t.k : Nat), .string (str t.t), .int .u64 (t.n : Nat), .int .i64 (t.a : Nat), .int .i64 (t.e : Nat)] 78)).cell? ⟨g, 1, none⟩ = some (.int .i64 (q.i : Nat)) ∧ (w6.alloc (.cells #[.int .i64 (t.k : Nat), .string (str t.t), .int .u64 (t.n : Nat), .int .i64 (t.a : Nat), .int .i64 (t.e : Nat)] 78)).frozen? ⟨g, 1, none⟩ = false ∧ w6.cell? ⟨g, 1, none⟩ = some (.int .i64 (q.i : Nat)) ∧ w6.frozen? ⟨g, 1, none⟩ = false ∧ g < w6.heap.size ∧
          Hid (PSe ((w6.setCell ⟨g, 1, none⟩ (.int .i64 ((q.i : Int) + 1))).alloc (.cells #[.int .i64 (t.k : Nat), .string (str t.t), .int .u64 (t.n : Nat), .int .i64 (t.a : Nat), .int .i64 (t.e : Nat)] 78)) g B A c T q.next n d ∧ Xr g gn gd n d w ((w6.setCell ⟨g, 1, none⟩ (.int .i64 ((q.i : Int) + 1))).alloc (.cells #[.int .i64 (t.k : Nat), .string (str t.t), .int .u64 (t.n : Nat), .int .i64 (t.a : Nat), .int .i64 (t.e : Nat)] 78)) ∧ CB ((w6.setCell ⟨g, 1, none⟩ (.int .i64 ((q.i : Int) + 1))).alloc (.cells #[.int .i64 (t.k : Nat), .string (str t.t), .int .u64 (t.n : Nat), .int .i64 (t.a : Nat), .int .i64 (t.e : Nat)] 78)) w6.heap.size 78 #[.int .i64 (t.k : Nat), .string (str t.t), .int .u64 (t.n : Nat), .int .i64 (t.a : Nat), .int .i64 (t.e : Nat)])) := fun w6 hb6 => by
        have h6 := HQ.out.1.below hb6
        have hba : Below w6.heap.size w6 (w6.alloc (.cells #[.int .i64 (t.k : Nat), .string (str t.t), .int .u64 (t.n : Nat), .int .i64 (t.a : Nat), .int .i64 (t.e : Nat)] 78)) := (Below.refl _ w6).alloc (Nat.le_refl _) _
        obtain ⟨a1, _, _, a2, _⟩ := h6.cells
        obtain ⟨b1, _, _, b2, _⟩ := (h6.below hba).cells
        obtain ⟨s1, s2⟩ := h6.next hk0
        have hsz : (w6.setCell ⟨g, 1, none⟩ (.int .i64 ((q.i : Int) + 1))).heap.size = w6.heap.size := by simp
        have hbb : Below (w6.setCell ⟨g, 1, none⟩ (.int .i64 ((q.i : Int) + 1))).heap.size (w6.setCell ⟨g, 1, none⟩ (.int .i64 ((q.i : Int) + 1))) ((w6.setCell ⟨g, 1, none⟩ (.int .i64 ((q.i : Int) + 1))).alloc (.cells #[.int .i64 (t.k : Nat), .string (str t.t), .int .u64 (t.n : Nat), .int .i64 (t.a : Nat), .int .i64 (t.e : Nat)] 78)) := (Below.refl _ _).alloc (Nat.le_refl _) _
        refine ⟨⟨_, b1⟩, b1, b2, a1, a2, h6.len, s1.below hbb, ((HQ.out.2.1.trans (Xr.of hb6)).trans s2).trans (Xr.of hbb), ?_⟩
        rw [← hsz]
        exact CB.new _ _ _
      have hc2 := lv_next HC.out HQ.out.2.2.1.go hok.1
      have hFn := HQ.out.2.2.2.next
      have CT := Lib.hid (fun (W : World) (hW : Below wr.heap.size wr W) => xtok_any (HQ.out.1.below hW) ht)
      have STEP : Hid (∀ {w8 : World} {n8 d8 : Nat}, PSe w8 g B A c T (factorF T f q.next) n8 d8 → Xr g gn gd n8 d8 w w8 → Calls Tryz.prog 91 #[.pointer (some ⟨g, 0, none⟩), .agg #[.int .i64 8, .int .i64 0, .int .u64 0, .string ⟨#[]⟩, .int .i64 (t.a : Nat)], .int .i64 2] w8 fun e w9 => e = .returned (.tuple #[]) ∧ ∃ (q' : PS) (n9 d9 : Nat), Hid (PSe w9 g B A c T q' n9 d9 ∧ Xr g gn gd n9 d9 w w9 ∧ Ex1 T p q' ∧ Fit q') ∧ Hid (∃ n, (q'.flt = 0 → T.length ≤ q'.i + n) ∧ termLoop T (factorF T f) n q' = R) ∧ q.i + 1 ≤ q'.i) := fun {w8 n8 d8} h8 x8 => by
        obtain ⟨r1, r2, r3, r4⟩ := rtwo HQ.out.2.2.1 HQ.out.2.2.2 hok.1 (ex_fac q.next hc2) h8 ⟨8, 0, 0, [], t.a⟩
        refine r1.mono ?_
        rintro e w9 ⟨rfl, n9, d9, h9, x9⟩
        refine ⟨rfl, _, n9, d9, ⟨h9, x8.trans x9, r2, r3⟩, ?_, r4⟩
        obtain ⟨m, hm, hm2⟩ := HN.out
        have := hm hok.1
        cases m with
        | zero => omega
        | succ m =>
          rw [rterm_on hb, ht] at hm2
          exact ⟨m, fun _ => by omega, hm2⟩
      have INN : Hid (∀ {w7 : World}, PSe w7 g B A c T q.next n d → Calls Tryz.prog 123 #[.pointer (some ⟨g, 0, none⟩)] w7 (XAt_ w7 g B A c T n d (factorF T f q.next))) := fun h7 => IN.out h7 hFn hc2
      have hROWS : Hid (∀ w6, Below wr.heap.size wr w6 → w6.heap.size ≠ g ∧ w6.heap.size ≠ n ∧ w6.heap.size ≠ d) := fun w6 hb6 => by
        have h6 := HQ.out.1.below hb6
        have := h6.len
        have := h6.rows
        omega
      clear hb hok hk0 hc2 hFn
      go_wp2_with (first
        | (go_at_call 24; refine ci.mono ?_; rintro e w5 ⟨rfl, hb5⟩; have ct := CT.out w5 hb5)
        | (go_at_call 46; refine ct.mono ?_; rintro e w6 ⟨rfl, hb6⟩; obtain ⟨_, k1, k2, k3, k4, k5, K6⟩ := NX.out w6 (Below.both hb5 hb6); have R6 := Lib.hid (hROWS.out w6 (Below.both hb5 hb6)); clear ct)
        | (go_at_call 123; refine (INN.out K6.out.1).mono ?_; rintro e w8 ⟨rfl, n8, d8, hP8, hX8⟩
           have c8 := K6.out.2.2.keep (hX8.block w6.heap.size K6.out.2.2.len R6.out.1 R6.out.2.1 R6.out.2.2)
           have a8 : w8.cell? ⟨w6.heap.size, 3, none⟩ = some (.int .i64 (t.a : Nat)) := c8.at_ 3
           have cs := STEP.out hP8 (K6.out.2.1.trans hX8)
           clear hP8 hX8 c8 k1 k2 k3 k4)
        | (go_at_call 91; refine cs.mono ?_; rintro e w9 ⟨rfl, q9, n9, d9, H9, L9, hq9⟩))
      go_roundg (gk - 1)
      case measure => omega
      case rel => exact ⟨q9, n9, d9, H9, L9, by omega⟩
set_option maxRecDepth 100000 in
set_option maxHeartbeats 4000000 in
theorem rexpr_any {T : List Tk} {f : Nat} (F : RF T f) {w : World} {g B : Nat} {A : Option Addr} {c : Nat} {p : PS} {gn gd : Nat} (h : PSe w g B A c T p gn gd) (hf : Fit p) (hc : p.flt ≠ 0 ∨ T.length < p.i + f) :
    Calls Tryz.prog 53 #[.pointer (some ⟨g, 0, none⟩)] w (XAt_ w g B A c T gn gd (exprW T (factorF T f) p)) := by
  obtain ⟨R, hR⟩ : ∃ R, exprW T (factorF T f) p = R := ⟨_, rfl⟩
  have cf := rterm_any F h hf hc
  have E0 := ex_term_ p hc
  have IN : Hid (∀ {W : World} {q : PS} {n d : Nat}, PSe W g B A c T q n d → Fit q → (q.flt ≠ 0 ∨ T.length < q.i + f) → Calls Tryz.prog 90 #[.pointer (some ⟨g, 0, none⟩)] W (XAt_ W g B A c T n d (termW T (factorF T f) q))) := fun h1 h2 h3 => rterm_any F h1 h2 h3
  have HC := Lib.hid hc
  have L0 : Hid (∃ n, ((termW T (factorF T f) p).flt = 0 → T.length ≤ (termW T (factorF T f) p).i + n) ∧ exprLoop T (factorF T f) n (termW T (factorF T f) p) = R) := ⟨T.length + 1, fun _ => by omega, hR⟩
  have F0 := hf.ex E0
  unfold XAt_ at cf ⊢
  rw [hR]
  clear hR F h
  go_enter Tryz.func53, Tryz.ntmps53
  go_wp2_with (go_at_call 90; refine cf.mono ?_; rintro e w1 ⟨rfl, n1, d1, hP1, hX1⟩; have S1 := Lib.hid (And.intro hP1 (And.intro hX1 (And.intro E0 F0))); clear hP1 hX1)
  clear cf
  go_loopg [] (T.length) (fun k wr => ∃ (q : PS) (n d : Nat), Hid (PSe wr g B A c T q n d ∧ Xr g gn gd n d w wr ∧ Ex1 T p q ∧ Fit q) ∧ Hid (∃ n, (q.flt = 0 → T.length ≤ q.i + n) ∧ exprLoop T (factorF T f) n q = R) ∧ T.length - q.i ≤ k)
  case atStart => exact ⟨_, n1, d1, S1, L0, by omega⟩
  case round =>
    clear S1 L0 E0 F0
    obtain ⟨q, n, d, HQ, HN, hk⟩ := hrel
    have hil := HQ.out.1.i_lt
    obtain ⟨b1, hb1⟩ : ∃ b, q.is T 4 [43] = b := ⟨_, rfl⟩
    obtain ⟨b2, hb2⟩ : ∃ b, q.is T 4 [45] = b := ⟨_, rfl⟩
    have ci := xis_any HQ.out.1 4 [43]
    have CI2 := Lib.hid (fun (W : World) (hW : Below wr.heap.size wr W) => xis_any (HQ.out.1.below hW) 4 [45])
    rw [hb1] at ci
    simp only [hb2] at CI2
    change Calls _ _ #[_, .int .i64 4, .string ⟨#[43]⟩] _ _ at ci
    cases b1 with
    | false =>
      cases b2 with
      | false =>
        have END : Hid (∀ W, Below wr.heap.size wr W → ∃ gn' gd', PSe W g B A c T R gn' gd' ∧ Xr g gn gd gn' gd' w W) := fun W hW => by
          obtain ⟨m, _, hm⟩ := HN.out
          rw [rexpr_off hb1 hb2] at hm
          rw [← hm]
          exact ⟨n, d, HQ.out.1.below hW, HQ.out.2.1.trans (Xr.of hW)⟩
        clear hb1 hb2
        go_wp2_with (first
          | (go_at_call 24; (with_reducible refine ci.mono ?_); rintro e w5 ⟨rfl, hb5⟩; have ci2 : Calls Tryz.prog 24 #[.pointer (some ⟨g, 0, none⟩), .int .i64 4, .string ⟨#[45]⟩] w5 fun r w' => r = .returned (.bool false) ∧ Below w5.heap.size w5 w' := CI2.out w5 hb5)
          | (go_at_call 24; (with_reducible refine ci2.mono ?_); rintro e w5b ⟨rfl, hb5b⟩))
        go_end0
        exact ⟨rfl, END.out _ (Below.both hb5 hb5b)⟩
      | true =>
        obtain ⟨t, ht⟩ : ∃ t, q.tok T = t := ⟨_, rfl⟩
        have hok := is_ok q hb2
        have htt : t.t = [45] := by rw [← ht]; exact hok.2.2
        have z9 : ((str t.t).toList == [45]) = true := by rw [str_lit, htt]; decide
        have hk0 : (q.tok T).k ≠ 0 := by rw [hok.2.1]; decide
        -- the mark taken, the operand, the node
        have NX : Hid (∀ w6, Below wr.heap.size wr w6 → (∃ v, (w6.alloc (.cells #[.int .i64 (t.k : Nat), .string (str t.t), .int .u64 (t.n : Nat), .int .i64 (t.a : Nat), .int .i64 (t.e : Nat)] 78)).cell? ⟨g, 1, none⟩ = some v) ∧ (w6.alloc (.cells #[.int .i64 (t.k : Nat), .string (str t.t), .int .u64 (t.n : Nat), .int .i64 (t.a : Nat), .int .i64 (t.e : Nat)] 78)).cell? ⟨g, 1, none⟩ = some (.int .i64 (q.i : Nat)) ∧ (w6.alloc (.cells #[.int .i64 (t.k : Nat), .string (str t.t), .int .u64 (t.n : Nat), .int .i64 (t.a : Nat), .int .i64 (t.e : Nat)] 78)).frozen? ⟨g, 1, none⟩ = false ∧ w6.cell? ⟨g, 1, none⟩ = some (.int .i64 (q.i : Nat)) ∧ w6.frozen? ⟨g, 1, none⟩ = false ∧ g < w6.heap.size ∧
            Hid (PSe ((w6.setCell ⟨g, 1, none⟩ (.int .i64 ((q.i : Int) + 1))).alloc (.cells #[.int .i64 (t.k : Nat), .string (str t.t), .int .u64 (t.n : Nat), .int .i64 (t.a : Nat), .int .i64 (t.e : Nat)] 78)) g B A c T q.next n d ∧ Xr g gn gd n d w ((w6.setCell ⟨g, 1, none⟩ (.int .i64 ((q.i : Int) + 1))).alloc (.cells #[.int .i64 (t.k : Nat), .string (str t.t), .int .u64 (t.n : Nat), .int .i64 (t.a : Nat), .int .i64 (t.e : Nat)] 78)) ∧ CB ((w6.setCell ⟨g, 1, none⟩ (.int .i64 ((q.i : Int) + 1))).alloc (.cells #[.int .i64 (t.k : Nat), .string (str t.t), .int .u64 (t.n : Nat), .int .i64 (t.a : Nat), .int .i64 (t.e : Nat)] 78)) w6.heap.size 78 #[.int .i64 (t.k : Nat), .string (str t.t), .int .u64 (t.n : Nat), .int .i64 (t.a : Nat), .int .i64 (t.e : Nat)])) := fun w6 hb6 => by
          have h6 := HQ.out.1.below hb6
          have hba : Below w6.heap.size w6 (w6.alloc (.cells #[.int .i64 (t.k : Nat), .string (str t.t), .int .u64 (t.n : Nat), .int .i64 (t.a : Nat), .int .i64 (t.e : Nat)] 78)) := (Below.refl _ w6).alloc (Nat.le_refl _) _
          obtain ⟨a1, _, _, a2, _⟩ := h6.cells
          obtain ⟨b1, _, _, b2, _⟩ := (h6.below hba).cells
          obtain ⟨s1, s2⟩ := h6.next hk0
          have hsz : (w6.setCell ⟨g, 1, none⟩ (.int .i64 ((q.i : Int) + 1))).heap.size = w6.heap.size := by simp
          have hbb : Below (w6.setCell ⟨g, 1, none⟩ (.int .i64 ((q.i : Int) + 1))).heap.size (w6.setCell ⟨g, 1, none⟩ (.int .i64 ((q.i : Int) + 1))) ((w6.setCell ⟨g, 1, none⟩ (.int .i64 ((q.i : Int) + 1))).alloc (.cells #[.int .i64 (t.k : Nat), .string (str t.t), .int .u64 (t.n : Nat), .int .i64 (t.a : Nat), .int .i64 (t.e : Nat)] 78)) := (Below.refl _ _).alloc (Nat.le_refl _) _
          refine ⟨⟨_, b1⟩, b1, b2, a1, a2, h6.len, s1.below hbb, ((HQ.out.2.1.trans (Xr.of hb6)).trans s2).trans (Xr.of hbb), ?_⟩
          rw [← hsz]
          exact CB.new _ _ _
        have hc2 := lv_next HC.out HQ.out.2.2.1.go hok.1
        have hFn := HQ.out.2.2.2.next
        have CT := Lib.hid (fun (W : World) (hW : Below wr.heap.size wr W) => xtok_any (HQ.out.1.below hW) ht)
        have STEP : Hid (∀ {w8 : World} {n8 d8 : Nat}, PSe w8 g B A c T (termW T (factorF T f) q.next) n8 d8 → Xr g gn gd n8 d8 w w8 → Calls Tryz.prog 91 #[.pointer (some ⟨g, 0, none⟩), .agg #[.int .i64 7, .int .i64 0, .int .u64 0, .string ⟨#[]⟩, .int .i64 (t.a : Nat)], .int .i64 2] w8 fun e w9 => e = .returned (.tuple #[]) ∧ ∃ (q' : PS) (n9 d9 : Nat), Hid (PSe w9 g B A c T q' n9 d9 ∧ Xr g gn gd n9 d9 w w9 ∧ Ex1 T p q' ∧ Fit q') ∧ Hid (∃ n, (q'.flt = 0 → T.length ≤ q'.i + n) ∧ exprLoop T (factorF T f) n q' = R) ∧ q.i + 1 ≤ q'.i) := fun {w8 n8 d8} h8 x8 => by
          obtain ⟨r1, r2, r3, r4⟩ := rtwo HQ.out.2.2.1 HQ.out.2.2.2 hok.1 (ex_term_ q.next hc2) h8 ⟨7, 0, 0, [], t.a⟩
          refine r1.mono ?_
          rintro e w9 ⟨rfl, n9, d9, h9, x9⟩
          refine ⟨rfl, _, n9, d9, ⟨h9, x8.trans x9, r2, r3⟩, ?_, r4⟩
          obtain ⟨m, hm, hm2⟩ := HN.out
          have := hm hok.1
          cases m with
          | zero => omega
          | succ m =>
            rw [rexpr_on (.inr hb2), ht, if_pos htt] at hm2
            exact ⟨m, fun _ => by omega, hm2⟩
        have INN : Hid (∀ {w7 : World}, PSe w7 g B A c T q.next n d → Calls Tryz.prog 90 #[.pointer (some ⟨g, 0, none⟩)] w7 (XAt_ w7 g B A c T n d (termW T (factorF T f) q.next))) := fun h7 => IN.out h7 hFn hc2
        have hROWS : Hid (∀ w6, Below wr.heap.size wr w6 → w6.heap.size ≠ g ∧ w6.heap.size ≠ n ∧ w6.heap.size ≠ d) := fun w6 hb6 => by
          have h6 := HQ.out.1.below hb6
          have := h6.len
          have := h6.rows
          omega
        clear hb1 hb2 hok hk0 hc2 hFn htt
        go_wp2_with (first
          | (go_at_call 24; (with_reducible refine ci.mono ?_); rintro e w5a ⟨rfl, hb5a⟩; have ci2 : Calls Tryz.prog 24 #[.pointer (some ⟨g, 0, none⟩), .int .i64 4, .string ⟨#[45]⟩] w5a fun r w' => r = .returned (.bool true) ∧ Below w5a.heap.size w5a w' := CI2.out w5a hb5a)
          | (go_at_call 24; (with_reducible refine ci2.mono ?_); rintro e w5 ⟨rfl, hb5b⟩; have hb5 := Below.both hb5a hb5b; have ct := CT.out w5 hb5)
          | (go_at_call 46; refine ct.mono ?_; rintro e w6 ⟨rfl, hb6⟩; obtain ⟨_, k1, k2, k3, k4, k5, K6⟩ := NX.out w6 (Below.both hb5 hb6); have R6 := Lib.hid (hROWS.out w6 (Below.both hb5 hb6)); clear ct)
          | (go_at_call 90; refine (INN.out K6.out.1).mono ?_; rintro e w8 ⟨rfl, n8, d8, hP8, hX8⟩
             have c8 := K6.out.2.2.keep (hX8.block w6.heap.size K6.out.2.2.len R6.out.1 R6.out.2.1 R6.out.2.2)
             have a81 : w8.cell? ⟨w6.heap.size, 1, none⟩ = some (.string (str t.t)) := c8.at_ 1
             have a8 : w8.cell? ⟨w6.heap.size, 3, none⟩ = some (.int .i64 (t.a : Nat)) := c8.at_ 3
             have cs := STEP.out hP8 (K6.out.2.1.trans hX8)
             clear hP8 hX8 c8 k1 k2 k3 k4)
          | (go_at_call 91; refine cs.mono ?_; rintro e w9 ⟨rfl, q9, n9, d9, H9, L9, hq9⟩))
        go_roundg (gk - 1)
        case measure => omega
        case rel => exact ⟨q9, n9, d9, H9, L9, by omega⟩
    | true =>
      obtain ⟨t, ht⟩ : ∃ t, q.tok T = t := ⟨_, rfl⟩
      have hok := is_ok q hb1
      have htt : t.t = [43] := by rw [← ht]; exact hok.2.2
      have z9 : ((str t.t).toList == [45]) = false := by rw [str_lit, htt]; decide
      have hk0 : (q.tok T).k ≠ 0 := by rw [hok.2.1]; decide
      -- the mark taken, the operand, the node
      have NX : Hid (∀ w6, Below wr.heap.size wr w6 → (∃ v, (w6.alloc (.cells #[.int .i64 (t.k : Nat), .string (str t.t), .int .u64 (t.n : Nat), .int .i64 (t.a : Nat), .int .i64 (t.e : Nat)] 78)).cell? ⟨g, 1, none⟩ = some v) ∧ (w6.alloc (.cells #[.int .i64 (t.k : Nat), .string (str t.t), .int .u64 (t.n : Nat), .int .i64 (t.a : Nat), .int .i64 (t.e : Nat)] 78)).cell? ⟨g, 1, none⟩ = some (.int .i64 (q.i : Nat)) ∧ (w6.alloc (.cells #[.int .i64 (t.k : Nat), .string (str t.t), .int .u64 (t.n : Nat), .int .i64 (t.a : Nat), .int .i64 (t.e : Nat)] 78)).frozen? ⟨g, 1, none⟩ = false ∧ w6.cell? ⟨g, 1, none⟩ = some (.int .i64 (q.i : Nat)) ∧ w6.frozen? ⟨g, 1, none⟩ = false ∧ g < w6.heap.size ∧
          Hid (PSe ((w6.setCell ⟨g, 1, none⟩ (.int .i64 ((q.i : Int) + 1))).alloc (.cells #[.int .i64 (t.k : Nat), .string (str t.t), .int .u64 (t.n : Nat), .int .i64 (t.a : Nat), .int .i64 (t.e : Nat)] 78)) g B A c T q.next n d ∧ Xr g gn gd n d w ((w6.setCell ⟨g, 1, none⟩ (.int .i64 ((q.i : Int) + 1))).alloc (.cells #[.int .i64 (t.k : Nat), .string (str t.t), .int .u64 (t.n : Nat), .int .i64 (t.a : Nat), .int .i64 (t.e : Nat)] 78)) ∧ CB ((w6.setCell ⟨g, 1, none⟩ (.int .i64 ((q.i : Int) + 1))).alloc (.cells #[.int .i64 (t.k : Nat), .string (str t.t), .int .u64 (t.n : Nat), .int .i64 (t.a : Nat), .int .i64 (t.e : Nat)] 78)) w6.heap.size 78 #[.int .i64 (t.k : Nat), .string (str t.t), .int .u64 (t.n : Nat), .int .i64 (t.a : Nat), .int .i64 (t.e : Nat)])) := fun w6 hb6 => by
        have h6 := HQ.out.1.below hb6
        have hba : Below w6.heap.size w6 (w6.alloc (.cells #[.int .i64 (t.k : Nat), .string (str t.t), .int .u64 (t.n : Nat), .int .i64 (t.a : Nat), .int .i64 (t.e : Nat)] 78)) := (Below.refl _ w6).alloc (Nat.le_refl _) _
        obtain ⟨a1, _, _, a2, _⟩ := h6.cells
        obtain ⟨b1, _, _, b2, _⟩ := (h6.below hba).cells
        obtain ⟨s1, s2⟩ := h6.next hk0
        have hsz : (w6.setCell ⟨g, 1, none⟩ (.int .i64 ((q.i : Int) + 1))).heap.size = w6.heap.size := by simp
        have hbb : Below (w6.setCell ⟨g, 1, none⟩ (.int .i64 ((q.i : Int) + 1))).heap.size (w6.setCell ⟨g, 1, none⟩ (.int .i64 ((q.i : Int) + 1))) ((w6.setCell ⟨g, 1, none⟩ (.int .i64 ((q.i : Int) + 1))).alloc (.cells #[.int .i64 (t.k : Nat), .string (str t.t), .int .u64 (t.n : Nat), .int .i64 (t.a : Nat), .int .i64 (t.e : Nat)] 78)) := (Below.refl _ _).alloc (Nat.le_refl _) _
        refine ⟨⟨_, b1⟩, b1, b2, a1, a2, h6.len, s1.below hbb, ((HQ.out.2.1.trans (Xr.of hb6)).trans s2).trans (Xr.of hbb), ?_⟩
        rw [← hsz]
        exact CB.new _ _ _
      have hc2 := lv_next HC.out HQ.out.2.2.1.go hok.1
      have hFn := HQ.out.2.2.2.next
      have CT := Lib.hid (fun (W : World) (hW : Below wr.heap.size wr W) => xtok_any (HQ.out.1.below hW) ht)
      have STEP : Hid (∀ {w8 : World} {n8 d8 : Nat}, PSe w8 g B A c T (termW T (factorF T f) q.next) n8 d8 → Xr g gn gd n8 d8 w w8 → Calls Tryz.prog 91 #[.pointer (some ⟨g, 0, none⟩), .agg #[.int .i64 6, .int .i64 0, .int .u64 0, .string ⟨#[]⟩, .int .i64 (t.a : Nat)], .int .i64 2] w8 fun e w9 => e = .returned (.tuple #[]) ∧ ∃ (q' : PS) (n9 d9 : Nat), Hid (PSe w9 g B A c T q' n9 d9 ∧ Xr g gn gd n9 d9 w w9 ∧ Ex1 T p q' ∧ Fit q') ∧ Hid (∃ n, (q'.flt = 0 → T.length ≤ q'.i + n) ∧ exprLoop T (factorF T f) n q' = R) ∧ q.i + 1 ≤ q'.i) := fun {w8 n8 d8} h8 x8 => by
        obtain ⟨r1, r2, r3, r4⟩ := rtwo HQ.out.2.2.1 HQ.out.2.2.2 hok.1 (ex_term_ q.next hc2) h8 ⟨6, 0, 0, [], t.a⟩
        refine r1.mono ?_
        rintro e w9 ⟨rfl, n9, d9, h9, x9⟩
        refine ⟨rfl, _, n9, d9, ⟨h9, x8.trans x9, r2, r3⟩, ?_, r4⟩
        obtain ⟨m, hm, hm2⟩ := HN.out
        have := hm hok.1
        cases m with
        | zero => omega
        | succ m =>
          rw [rexpr_on (.inl hb1), ht, if_neg (by rw [htt]; decide)] at hm2
          exact ⟨m, fun _ => by omega, hm2⟩
      have INN : Hid (∀ {w7 : World}, PSe w7 g B A c T q.next n d → Calls Tryz.prog 90 #[.pointer (some ⟨g, 0, none⟩)] w7 (XAt_ w7 g B A c T n d (termW T (factorF T f) q.next))) := fun h7 => IN.out h7 hFn hc2
      have hROWS : Hid (∀ w6, Below wr.heap.size wr w6 → w6.heap.size ≠ g ∧ w6.heap.size ≠ n ∧ w6.heap.size ≠ d) := fun w6 hb6 => by
        have h6 := HQ.out.1.below hb6
        have := h6.len
        have := h6.rows
        omega
      clear hb1 hb2 hok hk0 hc2 hFn htt
      go_wp2_with (first
        | (go_at_call 24; (with_reducible refine ci.mono ?_); rintro e w5 ⟨rfl, hb5⟩; have ct := CT.out w5 hb5)
        | (go_at_call 46; refine ct.mono ?_; rintro e w6 ⟨rfl, hb6⟩; obtain ⟨_, k1, k2, k3, k4, k5, K6⟩ := NX.out w6 (Below.both hb5 hb6); have R6 := Lib.hid (hROWS.out w6 (Below.both hb5 hb6)); clear ct)
        | (go_at_call 90; refine (INN.out K6.out.1).mono ?_; rintro e w8 ⟨rfl, n8, d8, hP8, hX8⟩
           have c8 := K6.out.2.2.keep (hX8.block w6.heap.size K6.out.2.2.len R6.out.1 R6.out.2.1 R6.out.2.2)
           have a81 : w8.cell? ⟨w6.heap.size, 1, none⟩ = some (.string (str t.t)) := c8.at_ 1
           have a8 : w8.cell? ⟨w6.heap.size, 3, none⟩ = some (.int .i64 (t.a : Nat)) := c8.at_ 3
           have cs := STEP.out hP8 (K6.out.2.1.trans hX8)
           clear hP8 hX8 c8 k1 k2 k3 k4)
        | (go_at_call 91; refine cs.mono ?_; rintro e w9 ⟨rfl, q9, n9, d9, H9, L9, hq9⟩))
      go_roundg (gk - 1)
      case measure => omega
      case rel => exact ⟨q9, n9, d9, H9, L9, by omega⟩
end Go.Proofs.YtbngelinfpaefaaGreatDoor
