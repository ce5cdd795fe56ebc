/- The walks of the code: a sign, brackets, calls. -/
import Derived.Test.YtipcgmaobiobbaaGreatDoorParGo
namespace Go.Proofs.YtipcgmaobiobbaaGreatDoor
open Go.RowKit

theorem shut_emit (r : PS) (y : Nd) (k : Nat) : (r.shut).emit y k = (r.emit y k).shut := by
  by_cases h : r.flt = 0
  · rw [emit_at h, emit_at (p := r.shut) h]
    show (if 100 < (r.dps.drop (r.dps.length - k)).foldl max 0 + 1 then _ else _) = _
    split
    · have e1 : r.shut.fail y.a 91 = { r.shut with flt := 91, plc := y.a } := if_pos h
      have e2 : r.fail y.a 91 = { r with flt := 91, plc := y.a } := if_pos h
      rw [e1, e2]
      rfl
    · rfl
  · rw [emit_stuck h, emit_stuck (p := r.shut) h]
theorem shut_mark (T : List Tk) (r : PS) (m : UInt8) : (r.shut).mark T m = (r.mark T m).shut := by
  unfold PS.mark PS.want
  have e : (r.shut).is T 4 [m] = r.is T 4 [m] := rfl
  rw [e]
  split
  · rfl
  · show (r.shut).fail (r.tok T).a 90 = _
    unfold PS.fail
    show (if r.flt = 0 then _ else _) = _
    split
    · rfl
    · rfl
theorem mu_level {T : List Tk} {p : PS} (h : p.flt = 0) : (p.level T).mu = p.mu + 1 := by
  unfold PS.mu
  rw [if_pos h]
  by_cases z : (p.level T).flt = 0
  · rw [if_pos z, level_i z]
  · rw [if_neg z]
    have e : (p.level T).i = p.i := by
      unfold PS.level at z ⊢
      rw [if_neg (fun q => q h)] at z ⊢
      split
      · exact (fail_same p _ _).2.2.2
      · rename_i q
        rw [if_neg q] at z
        exact absurd h z
    rw [e]
theorem level_dps {T : List Tk} {p : PS} : (p.level T).dps = p.dps := by
  unfold PS.level
  split
  · rfl
  · split
    · exact (fail_same p _ _).1
    · rfl
section
variable {w w' : World} {x g : Nat} {A : Option Addr} {c : Nat} {T : List Tk} {p q : PS} {B : Nat} {An : Option Addr} {cn : Nat} {l : List Nd} {o : Int}
theorem XS.marked (h : XS w x g A c T p B An cn l o) {m : UInt8} (hr : RS w' g A c T (p.mark T m)) (hg : Gn g w w') : XS w' x g A c T (p.mark T m) B An cn l o := by
  refine h.turn hg hr fun z => ?_
  obtain ⟨q1, q2, q3⟩ := h.ok (flt_back (go_want p 4 [m]) z)
  have ws := want_same T p 4 [m]
  exact ⟨q1.trans ws.2.1.symm, ws.2.2.trans q2, q3⟩
theorem XS.nexted (h : XS w x g A c T p B An cn l o) (h0 : p.flt = 0) (hr : RS w' g A c T p.next) (hg : Gn g w w') : XS w' x g A c T p.next B An cn l o := h.turn hg hr fun _ => h.ok h0
end
theorem mark_dps (T : List Tk) (p : PS) (m : UInt8) : (p.mark T m).dps = p.dps := (want_same T p 4 [m]).1

/-- so many operands were read, none of them put together yet; d is how deep the deepest of them is -/
def XArg (x g : Nat) (A : Option Addr) (c : Nat) (T : List Tk) (p q : PS) (B : Nat) (An : Option Addr) (l : List Nd) (o : Int) (w w' : World) (d : Int) (n : Nat) : Prop :=
  ∃ An' cn' l', XS w' x g A c T q B An' cn' l' (o + 1) ∧ Fx g x An w w' An' ∧ l'.length + p.mu + 1 ≤ l.length + q.mu ∧ (q.flt = 0 → ∃ ks : List Nat, ks.length = n ∧ q.dps = p.dps ++ ks ∧ (∀ a ∈ ks, a ≤ 100) ∧ d = (ks.foldl max 0 : Nat))
section
variable {x g : Nat} {A : Option Addr} {c : Nat} {T : List Tk} {p q q' r : PS} {B : Nat} {An : Option Addr} {l : List Nd} {o : Int} {w w1 w2 w3 : World} {d d2 : Int} {n : Nat}
theorem XArg.first {w0 : World} {cn : Nat} (h : XS w0 x g A c T q B An cn l (o + 1)) (hf : Fx g x An w w0 An) (hm : p.mu + 1 ≤ q.mu) (hd : q.flt = 0 → q.dps = p.dps) (G : Go_ q r) (hx : XIn x g A c T q r B An l (o + 1) w0 w1 d) : XArg x g A c T p r B An l o w w1 d 1 := by
  obtain ⟨A', c', l', h1, h2, h3, h4⟩ := hx
  have := h.Bw
  refine ⟨A', c', l', h1, hf.trans h2, by omega, fun z => ?_⟩
  obtain ⟨dn, e1, e2, e3⟩ := h4 z
  exact ⟨[dn], rfl, by rw [e3, hd (flt_back G z)], fun a ha => by rw [List.mem_singleton] at ha; omega, by rw [e1]; simp [List.foldl]⟩
theorem XArg.more {A' : Option Addr} {l' : List Nd} (hF : Fx g x An w w2 A') (hL : l'.length + p.mu + 1 ≤ l.length + q'.mu) (hD : q'.flt = 0 → ∃ ks : List Nat, ks.length = n ∧ q'.dps = p.dps ++ ks ∧ (∀ a ∈ ks, a ≤ 100) ∧ d = (ks.foldl max 0 : Nat))
    (G : Go_ q' r) (hx : XIn x g A c T q' r B A' l' (o + 1) w2 w3 d2) {m : Int} (hm : (if d2 > d then d2 else d) = m) : XArg x g A c T p r B An l o w w3 m (n + 1) := by
  obtain ⟨A2, c2, l2, h1, h2, h3, h4⟩ := hx
  refine ⟨A2, c2, l2, h1, hF.trans h2, by omega, fun z => ?_⟩
  obtain ⟨b, e1, e2, e3⟩ := h4 z
  obtain ⟨ks, e4, e5, e6, e7⟩ := hD (flt_back G z)
  refine ⟨ks ++ [b], by rw [List.length_append, e4]; rfl, by rw [e3, e5, List.append_assoc], fun a ha => ?_, ?_⟩
  · rcases List.mem_append.1 ha with z | z
    · exact e6 a z
    · rw [List.mem_singleton] at z
      omega
  · rw [← hm, e1, e7, List.foldl_append]
    simp only [List.foldl]
    split <;> omega
/-- behind the last operand: the bracket, the level shut, the node put -/
theorem closing (h : XArg x g A c T p q B An l o w w1 d n) (hl : l.length ≤ p.mu) (ho : 0 ≤ o) (y : Nd) (hr : RS w2 g A c T (q.mark T 41)) (hg : Gn g w1 w2) :
    Calls Tryz.prog 124 #[.pointer (some ⟨x, 0, none⟩)] w2 fun e w3 => e = .returned (.tuple #[]) ∧
      Calls Tryz.prog 73 #[.pointer (some ⟨x, 0, none⟩), .agg #[.int .i64 (y.op : Nat), .int .i64 (y.n : Nat), .int .u64 (y.num : Nat), .string (str y.t), .int .i64 (y.a : Nat)], .int .i64 d] w3 (XAt x g A c T p (((q.mark T 41).emit y n).shut) B An l o w) := by
  obtain ⟨A', c', l', h1, h2, h3, h4⟩ := h
  have hX2 := h1.marked hr hg
  refine (cleave_any hX2 ho).mono ?_
  rintro e w3 ⟨rfl, hX3, hF3⟩
  refine ⟨rfl, ?_⟩
  have hmu : q.mu ≤ (q.mark T 41).shut.mu := mu_go (go_want (T := T) q 4 [41])
  have hmT : (q.mark T 41).shut.mu ≤ T.length := mu_in (p := (q.mark T 41).shut) hr.inn
  have hfew := hr.few
  have hD : (q.mark T 41).shut.flt = 0 → ∃ ks : List Nat, ks.length = n ∧ (q.mark T 41).shut.dps = p.dps ++ ks ∧ (∀ a ∈ ks, a ≤ 100) ∧ d = (ks.foldl max 0 : Nat) := fun z => by
    obtain ⟨ks, e1, e2, e3, e4⟩ := h4 (flt_back (go_want (T := T) q 4 [41]) z)
    exact ⟨ks, e1, (mark_dps T q 41).trans e2, e3, e4⟩
  refine (cput_any hX3 y n d (fun z => ?_) (by omega)).mono ?_
  · obtain ⟨ks, e1, e2, e3, e4⟩ := hD z
    exact ⟨ks.foldl max 0, e4, fold_max ks 0 (by omega) e3, by rw [e2, last_two p.dps ks n e1]⟩
  · rintro e w4 ⟨d7, A7, c7, rfl, hX7, hF7, hd7⟩
    refine ⟨d7, rfl, ?_⟩
    have hF : Fx g x An w w3 A' := (h2.trans (Fx.gn hg)).trans hF3
    rw [← shut_emit]
    by_cases z : (q.mark T 41).shut.flt = 0
    · obtain ⟨ks, e1, e2, e3, e4⟩ := hD z
      exact XIn.put (ks := ks) hX7 hF hF7 hd7 (by omega) (fun _ => e2) e1
    · rw [emit_stuck z] at hX7 hd7 ⊢
      exact ⟨A7, c7, _, hX7, hF.trans hF7, by rw [List.length_append]; show l'.length + 1 + p.mu ≤ _; omega, fun q => absurd q z⟩
end

set_option maxRecDepth 100000 in
set_option maxHeartbeats 2000000 in
theorem cnegative_any {T : List Tk} {m : Nat} {fac : PS → PS} (F : FacC T m fac) {w : World} {x g : Nat} {A : Option Addr} {c : Nat} {p : PS} {B : Nat} {An : Option Addr} {cn : Nat} {l : List Nd} {o : Int}
    (h : XS w x g A c T p B An cn l o) (h0 : p.flt = 0) (hk : (p.tok T).k ≠ 0) (hm : m ≤ p.i + 1) (hl : l.length ≤ p.mu) :
    Calls Tryz.prog 106 #[.pointer (some ⟨x, 0, none⟩)] w (XAt x g A c T p (((fac (p.level T)).emit ⟨5, 0, 0, [], (p.tok T).a⟩ 1).shut) B An l o w) := by
  obtain ⟨t, ht⟩ : ∃ t, p.tok T = t := ⟨_, rfl⟩
  have ce := center_any h h0 hk
  rw [ht] at ce ⊢
  have ho := h.o0.1
  have hml := mu_level (T := T) h0
  have FAC : Hid (∀ w2, XS w2 x g A c T (p.level T) B An cn l (o + 1) → Fx g x An w w2 An → Calls Tryz.prog 92 #[.pointer (some ⟨x, 0, none⟩)] w2 fun e w3 => ∃ d, e = .returned (.int .i64 d) ∧
      Calls Tryz.prog 124 #[.pointer (some ⟨x, 0, none⟩)] w3 fun e w4 => e = .returned (.tuple #[]) ∧
        Calls Tryz.prog 73 #[.pointer (some ⟨x, 0, none⟩), .agg #[.int .i64 5, .int .i64 0, .int .u64 0, .string ⟨#[]⟩, .int .i64 (t.a : Nat)], .int .i64 d] w4 (XAt x g A c T p (((fac (p.level T)).emit ⟨5, 0, 0, [], t.a⟩ 1).shut) B An l o w)) := by
    intro w2 hX2 hF2
    have hcn : (p.level T).flt ≠ 0 ∨ m ≤ (p.level T).i := by
      by_cases z : (p.level T).flt = 0
      · exact .inr (by rw [level_i z]; exact hm)
      · exact .inl z
    refine (F hX2 hcn (by omega)).mono ?_
    rintro e w3 ⟨d, rfl, A3, c3, l3, hX3, hF3, hL3, hD3⟩
    refine ⟨d, rfl, (cleave_any hX3 ho).mono ?_⟩
    rintro e w4 ⟨rfl, hX4, hF4⟩
    refine ⟨rfl, ?_⟩
    have hmT : (fac (p.level T)).mu ≤ T.length := mu_in hX3.rs.inn
    have hfew := hX3.rs.few
    have hms : (fac (p.level T)).shut.mu = (fac (p.level T)).mu := rfl
    have hD : (fac (p.level T)).shut.flt = 0 → ∃ dn : Nat, d = dn ∧ dn ≤ 100 ∧ (fac (p.level T)).shut.dps = p.dps ++ [dn] := fun z => by
      obtain ⟨dn, e1, e2, e3⟩ := hD3 z
      exact ⟨dn, e1, e2, e3.trans (by rw [level_dps])⟩
    refine (cput_any hX4 ⟨5, 0, 0, [], t.a⟩ 1 d (fun z => ?_) (by omega)).mono ?_
    · obtain ⟨dn, e1, e2, e3⟩ := hD z
      exact ⟨dn, e1, e2, by rw [e3, last_two p.dps [dn] 1 rfl]; simp [List.foldl]⟩
    · rintro e w5 ⟨d7, A7, c7, rfl, hX7, hF7, hd7⟩
      refine ⟨d7, rfl, ?_⟩
      rw [← shut_emit]
      by_cases z : (fac (p.level T)).shut.flt = 0
      · obtain ⟨dn, e1, e2, e3⟩ := hD z
        exact XIn.put (ks := [dn]) hX7 ((hF2.trans hF3).trans hF4) hF7 hd7 (by omega) (fun _ => e3) rfl
      · rw [emit_stuck z] at hX7 hd7 ⊢
        exact ⟨A7, c7, _, hX7, ((hF2.trans hF3).trans hF4).trans hF7, by rw [List.length_append]; show l3.length + 1 + p.mu ≤ _; omega, fun q => absurd q z⟩
  clear h h0 hk hm hl ht hml
  go_enter Tryz.func106, Tryz.ntmps106
  go_wp2_with (first
    | (go_at_call 123; refine ce.mono ?_; rintro e w2 ⟨rfl, hX2, hF2⟩; have cf2 := FAC.out w2 hX2 hF2; clear hX2 hF2)
    | (go_at_call 92; refine cf2.mono ?_; rintro e w3 ⟨d, rfl, cl3⟩)
    | (go_at_call 124; refine cl3.mono ?_; rintro e w4 ⟨rfl, cp4⟩)
    | (go_at_call 73; refine cp4.mono ?_; rintro e w5 ⟨d7, rfl, h7⟩; have H7 := Lib.hid h7; clear h7))
  go_ret
  exact ⟨d7, rfl, H7.out⟩

set_option maxRecDepth 100000 in
set_option maxHeartbeats 2000000 in
theorem cbrackets_any {T : List Tk} {m : Nat} {fac : PS → PS} (F : SumC T m (exprW T fac)) {w : World} {x g : Nat} {A : Option Addr} {c : Nat} {p : PS} {B : Nat} {An : Option Addr} {cn : Nat} {l : List Nd} {o : Int}
    (h : XS w x g A c T p B An cn l o) (h0 : p.flt = 0) (hk : (p.tok T).k ≠ 0) (hm : m ≤ p.i + 1) (hl : l.length ≤ p.mu) :
    Calls Tryz.prog 107 #[.pointer (some ⟨x, 0, none⟩)] w (XAt x g A c T p (((exprW T fac (p.level T)).mark T 41).shut) B An l o w) := by
  have ce := center_any h h0 hk
  have ho := h.o0.1
  have hml := mu_level (T := T) h0
  have FAC : Hid (∀ w2, XS w2 x g A c T (p.level T) B An cn l (o + 1) → Fx g x An w w2 An → Calls Tryz.prog 40 #[.pointer (some ⟨x, 0, none⟩)] w2 fun e w3 => ∃ d, e = .returned (.int .i64 d) ∧ w3.cell? ⟨x, 0, none⟩ = some (.pointer (some ⟨g, 0, none⟩)) ∧
      Calls Tryz.prog 65 #[.pointer (some ⟨g, 0, none⟩), .string ⟨#[41]⟩] w3 fun e w4 => e = .returned (.tuple #[]) ∧
        Calls Tryz.prog 124 #[.pointer (some ⟨x, 0, none⟩)] w4 fun e w5 => e = .returned (.tuple #[]) ∧ Hid (XIn x g A c T p (((exprW T fac (p.level T)).mark T 41).shut) B An l o w w5 d)) := by
    intro w2 hX2 hF2
    have hcn : (p.level T).flt ≠ 0 ∨ m ≤ (p.level T).i := by
      by_cases z : (p.level T).flt = 0
      · exact .inr (by rw [level_i z]; exact hm)
      · exact .inl z
    refine (F hX2 hcn (by omega)).mono ?_
    rintro e w3 ⟨d, rfl, A3, c3, l3, hX3, hF3, hL3, hD3⟩
    refine ⟨d, rfl, hX3.blk.cells.1, (mk_any hX3.rs 41).mono ?_⟩
    rintro e w4 ⟨rfl, hr4, hg4⟩
    have hX4 := hX3.marked hr4 hg4
    refine ⟨rfl, (cleave_any hX4 ho).mono ?_⟩
    rintro e w5 ⟨rfl, hX5, hF5⟩
    have hmu : (exprW T fac (p.level T)).mu ≤ ((exprW T fac (p.level T)).mark T 41).shut.mu := mu_go (go_want (T := T) _ 4 [41])
    refine ⟨rfl, A3, c3, l3, hX5, ((hF2.trans hF3).trans (Fx.gn hg4)).trans hF5, by omega, fun z => ?_⟩
    obtain ⟨dn, e1, e2, e3⟩ := hD3 (flt_back (go_want (T := T) (exprW T fac (p.level T)) 4 [41]) z)
    exact ⟨dn, e1, e2, (mark_dps T _ 41).trans (e3.trans (by rw [level_dps]))⟩
  clear h h0 hk hm hl hml
  go_enter Tryz.func107, Tryz.ntmps107
  go_wp2_with (first
    | (go_at_call 123; refine ce.mono ?_; rintro e w2 ⟨rfl, hX2, hF2⟩; have cf2 := FAC.out w2 hX2 hF2; clear hX2 hF2)
    | (go_at_call 40; refine cf2.mono ?_; rintro e w3 ⟨d, rfl, u0, cm3⟩)
    | (go_at_call 65; refine cm3.mono ?_; rintro e w4 ⟨rfl, cl4⟩)
    | (go_at_call 124; refine cl4.mono ?_; rintro e w5 ⟨rfl, h5⟩))
  go_ret
  exact ⟨d, rfl, h5⟩
end Go.Proofs.YtipcgmaobiobbaaGreatDoor
/- The walks of the code: calls of some operands. -/
namespace Go.Proofs.YtipcgmaobiobbaaGreatDoor
open Go.RowKit

theorem XArg.below {x g : Nat} {A : Option Addr} {c : Nat} {T : List Tk} {p q : PS} {B : Nat} {An : Option Addr} {l : List Nd} {o : Int} {w w1 w2 : World} {d : Int} {n : Nat} (h : XArg x g A c T p q B An l o w w1 d n) (hb : Below w1.heap.size w1 w2) : XArg x g A c T p q B An l o w w2 d n := by
  obtain ⟨A', c', l', h1, h2, h3, h4⟩ := h
  exact ⟨A', c', l', h1.below hb, h2.trans (Fx.of hb), h3, h4⟩
/-- an opened call: its bracket, its first operand -/
theorem opening {T : List Tk} {m : Nat} {fac : PS → PS} (F : SumC T m (exprW T fac)) (G : ∀ p, Go_ p (fac p)) {w w2 w3 : World} {x g : Nat} {A : Option Addr} {c : Nat} {p : PS} {B : Nat} {An : Option Addr} {cn : Nat} {l : List Nd} {o : Int}
    (h0 : p.flt = 0) (hm : m ≤ p.i + 1) (hl : l.length ≤ p.mu) (hX2 : XS w2 x g A c T (p.level T) B An cn l (o + 1)) (hF2 : Fx g x An w w2 An) (hr : RS w3 g A c T ((p.level T).mark T 40)) (hg : Gn g w2 w3) :
    Calls Tryz.prog 40 #[.pointer (some ⟨x, 0, none⟩)] w3 fun e w4 => ∃ d, e = .returned (.int .i64 d) ∧ Hid (XArg x g A c T p (exprW T fac ((p.level T).mark T 40)) B An l o w w4 d 1) := by
  have hml := mu_level (T := T) h0
  have hgm := go_want (T := T) (p.level T) 4 [40]
  have hX3 := hX2.marked hr hg
  have hmu : (p.level T).mu ≤ ((p.level T).mark T 40).mu := mu_go hgm
  have hcn : ((p.level T).mark T 40).flt ≠ 0 ∨ m ≤ ((p.level T).mark T 40).i := by
    by_cases z : ((p.level T).mark T 40).flt = 0
    · have z1 := flt_back hgm z
      have : (p.level T).i ≤ ((p.level T).mark T 40).i := hgm.1
      have := level_i z1
      exact .inr (by omega)
    · exact .inl z
  refine (F hX3 hcn (by omega)).mono ?_
  rintro e w4 ⟨d, rfl, hx⟩
  exact ⟨d, rfl, XArg.first hX3 (hF2.trans (Fx.gn hg)) (by omega) (fun _ => (mark_dps T _ 40).trans level_dps) (go_exprW G _) hx⟩

set_option maxRecDepth 100000 in
set_option maxHeartbeats 4000000 in
theorem ccat_any {T : List Tk} {m : Nat} {fac : PS → PS} (F : SumC T m (exprW T fac)) (G : ∀ p, Go_ p (fac p)) {w : World} {x g : Nat} {A : Option Addr} {c : Nat} {p : PS} {B : Nat} {An : Option Addr} {cn : Nat} {l : List Nd} {o : Int}
    (h : XS w x g A c T p B An cn l o) (h0 : p.flt = 0) (hk : (p.tok T).k ≠ 0) (hm : m ≤ p.i + 1) (hl : l.length ≤ p.mu) :
    Calls Tryz.prog 108 #[.pointer (some ⟨x, 0, none⟩)] w (XAt x g A c T p (callW T fac 9 0 p) B An l o w) := by
  obtain ⟨t, ht⟩ : ∃ t, p.tok T = t := ⟨_, rfl⟩
  have ce := center_any h h0 hk
  rw [ht] at ce
  have ho := h.o0.1
  have hfew := h.rs.few
  obtain ⟨r0, hr0⟩ : ∃ r0, exprW T fac ((p.level T).mark T 40) = r0 := ⟨_, rfl⟩
  obtain ⟨R, hR⟩ : ∃ R, argsLoop T fac 0 (T.length + 1) r0 1 = R := ⟨_, rfl⟩
  have hW : callW T fac 9 0 p = ((R.1.mark T 41).emit ⟨9, R.2, 0, [], t.a⟩ R.2).shut := by
    unfold callW
    dsimp only
    rw [hr0, hR, ht, if_neg (fun q => q.1 rfl), if_pos rfl]
  rw [hW]
  have OPEN : Hid (∀ w2, XS w2 x g A c T (p.level T) B An cn l (o + 1) → Fx g x An w w2 An → w2.cell? ⟨x, 0, none⟩ = some (.pointer (some ⟨g, 0, none⟩)) ∧ Calls Tryz.prog 65 #[.pointer (some ⟨g, 0, none⟩), .string ⟨#[40]⟩] w2 fun e w3 => e = .returned (.tuple #[]) ∧
      Calls Tryz.prog 40 #[.pointer (some ⟨x, 0, none⟩)] w3 fun e w4 => ∃ d, e = .returned (.int .i64 d) ∧ Hid (XArg x g A c T p r0 B An l o w w4 d 1)) := by
    intro w2 hX2 hF2
    refine ⟨hX2.blk.cells.1, (mk_any hX2.rs 40).mono ?_⟩
    rintro e w3 ⟨rfl, hr3, hg3⟩
    have := opening F G h0 hm hl hX2 hF2 hr3 hg3
    rw [hr0] at this
    exact ⟨rfl, this⟩
  have hgr : Go_ (p.level T) r0 := by rw [← hr0]; exact (go_want (T := T) (p.level T) 4 [40]).trans (go_exprW G _)
  have START : Hid ((∃ f, argsLoop T fac 0 f r0 1 = R ∧ (r0.flt = 0 → T.length ≤ r0.i + f)) ∧ (r0.flt ≠ 0 ∨ m ≤ r0.i)) := by
    refine ⟨⟨T.length + 1, hR, fun _ => by omega⟩, ?_⟩
    by_cases z : r0.flt = 0
    · have := level_i (flt_back hgr z)
      have := hgr.1
      exact .inr (by omega)
    · exact .inl z
  have HL := Lib.hid hl
  clear h h0 hk hm hl ht hR hr0 hW hgr
  go_enter Tryz.func108, Tryz.ntmps108
  go_wp2_with (first
    | (go_at_call 123; refine ce.mono ?_; rintro e w2 ⟨rfl, hX2, hF2⟩; obtain ⟨u0, cm2⟩ := OPEN.out w2 hX2 hF2; clear hX2 hF2)
    | (go_at_call 65; refine cm2.mono ?_; rintro e w3 ⟨rfl, cs3⟩)
    | (go_at_call 40; refine cs3.mono ?_; rintro e w4 ⟨d0, rfl, H4⟩))
  go_loopg [4, 5] (T.length) (fun k v4 v5 wr => ∃ (q : PS) (d : Int) (n : Nat), v4 = .int .i64 d ∧ v5 = .int .i64 (n : Nat) ∧ Hid (XArg x g A c T p q B An l o w wr d n) ∧ Hid ((∃ f, argsLoop T fac 0 f q n = R ∧ (q.flt = 0 → T.length ≤ q.i + f)) ∧ (q.flt ≠ 0 ∨ m ≤ q.i)) ∧ T.length - q.i ≤ k ∧ n ≤ q.i + 1)
  case atStart => exact ⟨r0, d0, 1, rfl, rfl, H4, START, by omega, by omega⟩
  case round =>
    obtain ⟨q, d, n, rfl, rfl, HI, HS, hk, hn⟩ := hrel
    obtain ⟨Aq, cq, lq, hX, hF, hL, hD⟩ := HI.out
    obtain ⟨e0, _, _⟩ := hX.blk.cells
    have cm := atm_any hX.rs 44
    obtain ⟨b, hb⟩ : ∃ b, q.is T 4 [44] = b := ⟨_, rfl⟩
    rw [hb] at cm
    have hin : q.i < T.length := hX.rs.inn
    have hbg : ∀ w3, Below wr.heap.size wr w3 → EB w3 x g Aq lq.length cq (o + 1) := fun w3 hb3 => hX.blk.keep (hb3.block x hX.blk.len)
    cases b with
    | false =>
      have END : Hid (∀ w', Below wr.heap.size wr w' → Calls Tryz.prog 65 #[.pointer (some ⟨g, 0, none⟩), .string ⟨#[41]⟩] w' fun e w2 => e = .returned (.tuple #[]) ∧ Calls Tryz.prog 124 #[.pointer (some ⟨x, 0, none⟩)] w2 fun e w3 => e = .returned (.tuple #[]) ∧
          Calls Tryz.prog 73 #[.pointer (some ⟨x, 0, none⟩), .agg #[.int .i64 9, .int .i64 (n : Nat), .int .u64 0, .string ⟨#[]⟩, .int .i64 (t.a : Nat)], .int .i64 d] w3 (XAt x g A c T p (((R.1.mark T 41).emit ⟨9, R.2, 0, [], t.a⟩ R.2).shut) B An l o w)) := by
        intro w' hb'
        obtain ⟨⟨f, hf, _⟩, _⟩ := HS.out
        have e : argsLoop T fac 0 f q n = (q, n) := by
          cases f with
          | zero => rfl
          | succ f => unfold argsLoop; rw [hb, Bool.false_and, if_neg (by decide)]
        rw [← hf, e]
        refine (mk_any (hX.rs.below hb') 41).mono ?_
        rintro e w2 ⟨rfl, hr2, hg2⟩
        exact ⟨rfl, closing (HI.out.below hb') HL.out ho ⟨9, n, 0, [], t.a⟩ hr2 hg2⟩
      clear hX hF hL hD hb
      go_wp2_with (first
        | (go_at_call 71; refine cm.mono ?_; rintro e w3 ⟨rfl, hb3⟩; obtain ⟨u0, _, _⟩ := (hbg w3 hb3).cells; have cm3 := END.out w3 hb3)
        | (go_at_call 65; refine cm3.mono ?_; rintro e w4 ⟨rfl, cl4⟩)
        | (go_at_call 124; refine cl4.mono ?_; rintro e w5 ⟨rfl, cp5⟩)
        | (go_at_call 73; refine cp5.mono ?_; rintro e w6 ⟨d7, rfl, h7⟩; have H7 := Lib.hid h7; clear h7))
      go_ret
      exact ⟨d7, rfl, H7.out⟩
    | true =>
      obtain ⟨h0, hk4, ht4⟩ := is_ok q hb
      have hkn : (q.tok T).k ≠ 0 := by rw [hk4]; decide
      have CT := Lib.hid (fun (w3 : World) (hb3 : Below wr.heap.size wr w3) => ctake_any (hX.rs.below hb3) h0 hkn)
      have FA : Hid (∀ w2, RS w2 g A c T q.next → Gn g wr w2 → Calls Tryz.prog 40 #[.pointer (some ⟨x, 0, none⟩)] w2 fun e w3 => ∃ d2, e = .returned (.int .i64 d2) ∧ ∀ m, (if d2 > d then d2 else d) = m → Hid (XArg x g A c T p (exprW T fac q.next) B An l o w w3 m (n + 1))) := by
        intro w2 hr hg
        have hX2 := hX.nexted h0 hr hg
        have hmn := mu_next h0
        have hl := HL.out
        refine (F hX2 (.inr (by rcases HS.out.2 with z | z; exact absurd h0 z; show m ≤ q.i + 1; omega)) (by omega)).mono ?_
        rintro e w3 ⟨d2, rfl, hx⟩
        exact ⟨d2, rfl, fun m hm => XArg.more (q' := q.next) (hF.trans (Fx.gn hg)) (by omega) (fun _ => hD h0) (go_exprW G _) hx hm⟩
      have NXT : Hid (((∃ f, argsLoop T fac 0 f (exprW T fac q.next) (n + 1) = R ∧ ((exprW T fac q.next).flt = 0 → T.length ≤ (exprW T fac q.next).i + f)) ∧ ((exprW T fac q.next).flt ≠ 0 ∨ m ≤ (exprW T fac q.next).i)) ∧ q.i + 1 ≤ (exprW T fac q.next).i) := by
        obtain ⟨⟨f, hf, hfl⟩, hm⟩ := HS.out
        have hfl := hfl h0
        have hge : q.i + 1 ≤ (exprW T fac q.next).i := (go_exprW (T := T) G q.next).1
        have hmq := hm.resolve_left fun z => z h0
        refine ⟨⟨?_, .inr (by omega)⟩, hge⟩
        cases f with
        | zero => omega
        | succ f =>
          refine ⟨f, ?_, fun _ => by omega⟩
          unfold argsLoop at hf
          rw [hb, if_pos (show (true && ((0 : Nat) == 0 || decide (n < 0))) = true from rfl)] at hf
          exact hf
      have hi2 : q.i < 2000000 := by omega
      clear hD hb hk4 ht4 h0 hF hL hX
      go_wp2_with (first
        | (go_at_call 71; refine cm.mono ?_; rintro e w3 ⟨rfl, hb3⟩; obtain ⟨u0, _, _⟩ := (hbg w3 hb3).cells)
        | (go_at_call 72; refine (CT.out w3 hb3).mono ?_; rintro e w4 ⟨rfl, hr4, hg4⟩; have cf4 := FA.out w4 hr4 ((Gn.of hb3).trans hg4); clear hr4)
        | (go_at_call 40; refine cf4.mono ?_; rintro e w6 ⟨d2, rfl, hx6⟩; obtain ⟨mm, hmm⟩ : ∃ mm, (if d2 > d then d2 else d) = mm := ⟨_, rfl⟩; have H6 := hx6 mm hmm; have HMM := Lib.hid hmm; clear hx6 hmm)
        | (refine wpList_max rfl (.tmp 25) (.tmp 27) 3 rfl rfl mm rfl rfl HMM.out ?_))
      go_roundg (gk - 1)
      case measure => omega
      case rel =>
        have hn2 := NXT.out
        exact ⟨_, mm, n + 1, rfl, by go_num, H6, hn2.1, by omega, by omega⟩
/-- the states of a call of so many operands -/
def seqS (T : List Tk) (fac : PS → PS) (q0 : PS) : Nat → PS
  | 0 => q0
  | i + 1 => exprW T fac ((seqS T fac q0 i).mark T 44)
theorem call_seq (T : List Tk) {fac : PS → PS} (hf : ∀ p, p.flt ≠ 0 → fac p = p) (op K : Nat) (hK : K = 1 ∨ K = 2) (ho : op ≠ 9) (p : PS) : callW T fac op K p = (((seqS T fac (exprW T fac ((p.level T).mark T 40)) (K - 1)).mark T 41).emit ⟨op, 0, 0, [], (p.tok T).a⟩ K).shut := by
  unfold callW
  dsimp only
  generalize exprW T fac ((p.level T).mark T 40) = q0
  rcases hK with rfl | rfl
  · have e : argsLoop T fac 1 (T.length + 1) q0 1 = (q0, 1) := by
      unfold argsLoop
      rw [if_neg (by simp)]
    rw [e, if_neg ho]
    rfl
  · have e : argsLoop T fac 2 (T.length + 1) q0 1 = if q0.is T 4 [44] then (exprW T fac q0.next, 2) else (q0, 1) := by
      unfold argsLoop
      by_cases h : q0.is T 4 [44] = true
      · rw [h, if_pos (by simp), if_pos rfl]
        cases T.length with
        | zero => rfl
        | succ f =>
          unfold argsLoop
          rw [if_neg (by simp)]
      · rw [if_neg (by simp [h]), if_neg h]
    rw [e, if_neg ho]
    by_cases h : q0.is T 4 [44] = true
    · rw [if_pos h]
      dsimp only
      have em : q0.mark T 44 = q0.next := by unfold PS.mark PS.want; rw [if_pos h]
      show _ = (((exprW T fac (q0.mark T 44)).mark T 41).emit _ 2).shut
      rw [if_neg (by decide), em]
    · rw [if_neg h]
      dsimp only
      rw [if_pos (by decide)]
      show _ = (((exprW T fac (q0.mark T 44)).mark T 41).emit _ 2).shut
      have hz : (q0.mark T 44).flt ≠ 0 := by
        unfold PS.mark PS.want
        rw [if_neg h]
        exact fail_flt (by decide)
      rw [exprW_stuck (hf _ hz) hz, mark_stuck hz, emit_stuck hz, emit_stuck hz]

set_option maxRecDepth 100000 in
set_option maxHeartbeats 4000000 in
theorem ccall_any {T : List Tk} {m : Nat} {fac : PS → PS} (F : SumC T m (exprW T fac)) (G : ∀ p, Go_ p (fac p)) (hf : ∀ p, p.flt ≠ 0 → fac p = p) {w : World} {x g : Nat} {A : Option Addr} {c : Nat} {p : PS} {B : Nat} {An : Option Addr} {cn : Nat} {l : List Nd} {o : Int}
    (h : XS w x g A c T p B An cn l o) (h0 : p.flt = 0) (hk : (p.tok T).k ≠ 0) (hm : m ≤ p.i + 1) (hl : l.length ≤ p.mu) (op K : Nat) (hK : K = 1 ∨ K = 2) (hop : op ≠ 9) :
    Calls Tryz.prog 109 #[.pointer (some ⟨x, 0, none⟩), .int .i64 (op : Nat), .int .i64 (K : Nat)] w (XAt x g A c T p (callW T fac op K p) B An l o w) := by
  rw [call_seq T hf op K hK hop]
  obtain ⟨t, ht⟩ : ∃ t, p.tok T = t := ⟨_, rfl⟩
  have ce := center_any h h0 hk
  rw [ht] at ce ⊢
  have ho := h.o0.1
  obtain ⟨r0, hr0⟩ : ∃ r0, exprW T fac ((p.level T).mark T 40) = r0 := ⟨_, rfl⟩
  rw [hr0]
  have OPEN : Hid (∀ w2, XS w2 x g A c T (p.level T) B An cn l (o + 1) → Fx g x An w w2 An → w2.cell? ⟨x, 0, none⟩ = some (.pointer (some ⟨g, 0, none⟩)) ∧ Calls Tryz.prog 65 #[.pointer (some ⟨g, 0, none⟩), .string ⟨#[40]⟩] w2 fun e w3 => e = .returned (.tuple #[]) ∧
      Calls Tryz.prog 40 #[.pointer (some ⟨x, 0, none⟩)] w3 fun e w4 => ∃ d, e = .returned (.int .i64 d) ∧ Hid (XArg x g A c T p r0 B An l o w w4 d 1)) := by
    intro w2 hX2 hF2
    refine ⟨hX2.blk.cells.1, (mk_any hX2.rs 40).mono ?_⟩
    rintro e w3 ⟨rfl, hr3, hg3⟩
    have := opening F G h0 hm hl hX2 hF2 hr3 hg3
    rw [hr0] at this
    exact ⟨rfl, this⟩
  have hgr : Go_ (p.level T) r0 := by rw [← hr0]; exact (go_want (T := T) (p.level T) 4 [40]).trans (go_exprW G _)
  have START : Hid (r0.flt ≠ 0 ∨ m ≤ r0.i) := by
    by_cases z : r0.flt = 0
    · have := level_i (flt_back hgr z)
      have := hgr.1
      exact .inr (by omega)
    · exact .inl z
  have HL := Lib.hid hl
  have hK2 : 1 ≤ K ∧ K ≤ 2 := by omega
  clear h h0 hk hm hl ht hr0 hgr hK
  go_enter Tryz.func109, Tryz.ntmps109
  go_wp2_with (first
    | (go_at_call 123; refine ce.mono ?_; rintro e w2 ⟨rfl, hX2, hF2⟩; obtain ⟨u0, cm2⟩ := OPEN.out w2 hX2 hF2; clear hX2 hF2)
    | (go_at_call 65; refine cm2.mono ?_; rintro e w3 ⟨rfl, cs3⟩)
    | (go_at_call 40; refine cs3.mono ?_; rintro e w4 ⟨d0, rfl, H4⟩))
  go_loopg [8, 20] K (fun k v4 v5 wr => ∃ (i : Nat) (d : Int), v4 = .int .i64 d ∧ v5 = .int .i64 (i : Nat) ∧ i + 1 ≤ K ∧ Hid (XArg x g A c T p (seqS T fac r0 i) B An l o w wr d (i + 1)) ∧ Hid ((seqS T fac r0 i).flt ≠ 0 ∨ m ≤ (seqS T fac r0 i).i) ∧ K - i ≤ k)
  case atStart => exact ⟨0, d0, rfl, rfl, by omega, H4, START, by omega⟩
  case round =>
    obtain ⟨i, d, rfl, rfl, hi, HI, HS, hk⟩ := hrel
    obtain ⟨q, hq⟩ : ∃ q, seqS T fac r0 i = q := ⟨_, rfl⟩
    rw [hq] at HI HS
    obtain ⟨Aq, cq, lq, hX, hF, hL, hD⟩ := HI.out
    obtain ⟨e0, _, _⟩ := hX.blk.cells
    have hi0 : (0 : Int) ≤ (i : Int) := by omega
    by_cases hlt : i + 1 < K
    · have hltz : (i : Int) < (K : Int) - 1 := by omega
      have CM := Lib.hid (mk_any hX.rs 44)
      have FA : Hid (∀ w2, RS w2 g A c T (q.mark T 44) → Gn g wr w2 → w2.cell? ⟨x, 0, none⟩ = some (.pointer (some ⟨g, 0, none⟩)) ∧ Calls Tryz.prog 40 #[.pointer (some ⟨x, 0, none⟩)] w2 fun e w3 => ∃ d2, e = .returned (.int .i64 d2) ∧ ∀ m, (if d2 > d then d2 else d) = m → Hid (XArg x g A c T p (seqS T fac r0 (i + 1)) B An l o w w3 m (i + 1 + 1))) := by
        intro w2 hr hg
        have hX2 := hX.marked hr hg
        have gm := go_want (T := T) q 4 [44]
        have hmn : q.mu ≤ (q.mark T 44).mu := mu_go gm
        have hl := HL.out
        have hcn : (q.mark T 44).flt ≠ 0 ∨ m ≤ (q.mark T 44).i := by
          by_cases z : (q.mark T 44).flt = 0
          · have := HS.out.resolve_left fun k => k (flt_back gm z)
            exact .inr (Nat.le_trans this gm.1)
          · exact .inl z
        refine ⟨hX2.blk.cells.1, (F hX2 hcn (by omega)).mono ?_⟩
        rintro e w3 ⟨d2, rfl, hx⟩
        have es : seqS T fac r0 (i + 1) = exprW T fac (q.mark T 44) := by rw [← hq]; rfl
        rw [es]
        refine ⟨d2, rfl, fun m hm => XArg.more (q' := q.mark T 44) (hF.trans (Fx.gn hg)) (by omega) (fun z => ?_) (go_exprW G _) hx hm⟩
        obtain ⟨ks, e1, e2, e3, e4⟩ := hD (flt_back gm z)
        exact ⟨ks, e1, (mark_dps T q 44).trans e2, e3, e4⟩
      have NXT : Hid ((seqS T fac r0 (i + 1)).flt ≠ 0 ∨ m ≤ (seqS T fac r0 (i + 1)).i) := by
        have es : seqS T fac r0 (i + 1) = exprW T fac (q.mark T 44) := by rw [← hq]; rfl
        rw [es]
        have gg : Go_ q (exprW T fac (q.mark T 44)) := (go_want (T := T) q 4 [44]).trans (go_exprW G _)
        by_cases z : (exprW T fac (q.mark T 44)).flt = 0
        · have := HS.out.resolve_left fun k => k (flt_back gg z)
          exact .inr (Nat.le_trans this gg.1)
        · exact .inl z
      clear hD hF hL hX hq
      go_wp2_with (first
        | (go_at_call 65; refine CM.out.mono ?_; rintro e w4 ⟨rfl, hr4, hg4⟩; obtain ⟨u0, cf4⟩ := FA.out w4 hr4 hg4; clear hr4)
        | (go_at_call 40; refine cf4.mono ?_; rintro e w6 ⟨d2, rfl, hx6⟩; obtain ⟨mm, hmm⟩ : ∃ mm, (if d2 > d then d2 else d) = mm := ⟨_, rfl⟩; have H6 := hx6 mm hmm; have HMM := Lib.hid hmm; clear hx6 hmm)
        | (refine wpList_max rfl (.tmp 27) (.tmp 29) 3 rfl rfl mm rfl rfl HMM.out ?_))
      go_roundg (gk - 1)
      case measure => omega
      case rel => exact ⟨i + 1, mm, rfl, by go_num, by omega, H6, NXT, by omega⟩
    · have hiK : i + 1 = K := by omega
      have hltz : ¬ (i : Int) < (K : Int) - 1 := by omega
      have HE : Hid (seqS T fac r0 (K - 1) = q) := by unfold Hid; rw [← hq, ← hiK]; rfl
      have END : Hid (Calls Tryz.prog 65 #[.pointer (some ⟨g, 0, none⟩), .string ⟨#[41]⟩] wr fun e w2 => e = .returned (.tuple #[]) ∧ Calls Tryz.prog 124 #[.pointer (some ⟨x, 0, none⟩)] w2 fun e w3 => e = .returned (.tuple #[]) ∧
          Calls Tryz.prog 73 #[.pointer (some ⟨x, 0, none⟩), .agg #[.int .i64 (op : Nat), .int .i64 0, .int .u64 0, .string ⟨#[]⟩, .int .i64 (t.a : Nat)], .int .i64 d] w3 (XAt x g A c T p (((q.mark T 41).emit ⟨op, 0, 0, [], t.a⟩ K).shut) B An l o w)) := by
        refine (mk_any hX.rs 41).mono ?_
        rintro e w2 ⟨rfl, hr2, hg2⟩
        rw [← hiK]
        exact ⟨rfl, closing HI.out HL.out ho ⟨op, 0, 0, [], t.a⟩ hr2 hg2⟩
      clear hX hF hL hD hq
      go_wp2_with (first
        | (go_at_call 65; refine END.out.mono ?_; rintro e w4 ⟨rfl, cl4⟩)
        | (go_at_call 124; refine cl4.mono ?_; rintro e w5 ⟨rfl, cp5⟩)
        | (go_at_call 73; refine cp5.mono ?_; rintro e w6 ⟨d7, rfl, h7⟩; have H7 := Lib.hid h7; clear h7))
      go_ret
      have h7 := H7.out
      rw [← HE.out] at h7
      exact ⟨d7, rfl, h7⟩
end Go.Proofs.YtipcgmaobiobbaaGreatDoor
