/- Two rows of tokens that are alike: steps, versions, events. No walk here. -/
import Derived.Test.YtbngelinfpaefaaGreatDoorParGa
import Derived.Test.YtbngelinfpaefaaGreatDoorParGj
namespace Go.Proofs.YtbngelinfpaefaaGreatDoor
open Go.RowKit

structure StR (R : Nat → Nat → Prop) (x y : St) : Prop where
  k : y.k = x.k
  a : y.a = x.a
  b : y.b = x.b
  c : y.c = x.c
  sep : y.sep = x.sep
  ty : y.ty = x.ty
  v : Rel2 (Nr R) x.v y.v
  at_ : R x.at_ y.at_
structure VeR (R : Nat → Nat → Prop) (x y : Ve) : Prop where
  num : y.num = x.num
  st : Rel2 (StR R) x.st y.st
  at_ : R x.at_ y.at_
structure EvR (R : Nat → Nat → Prop) (x y : Ev) : Prop where
  name : y.name = x.name
  vs : Rel2 (VeR R) x.vs y.vs
  at_ : R x.at_ y.at_
def OutV (S : Sim) {α β : Type} (r : α → β → Prop) (P : PS × α) (P' : PS × β) : Prop := (Co S False P.1 P'.1 ∧ r P.2 P'.2) ∨ S.Bad P.1 P'.1

/-- the six steps, in other words -/
def step1 (T : List Tk) (p : PS) : PS × St :=
  if (((p.next.name T).1.mark T 58).name T).1.is T 4 [61] then
    (((((p.next.name T).1.mark T 58).name T).1.next.value T).mark T 59, ⟨1, (p.next.name T).2, [], [], [], (((p.next.name T).1.mark T 58).name T).2, ((((p.next.name T).1.mark T 58).name T).1.next.value T).nds, (p.tok T).a⟩)
  else ((((p.next.name T).1.mark T 58).name T).1.mark T 59, ⟨1, (p.next.name T).2, [], [], [], (((p.next.name T).1.mark T 58).name T).2, [], (p.tok T).a⟩)
def step2 (T : List Tk) (p : PS) : PS × St :=
  ((((p.next.name T).1.word T (ls "to".toUTF8)).name T).1.mark T 59, ⟨2, (p.next.name T).2, (((p.next.name T).1.word T (ls "to".toUTF8)).name T).2, [], [], [], [], (p.tok T).a⟩)
def s3B (T : List Tk) (p : PS) : PS × List UInt8 := ((p.next.name T).1.word T (ls "at".toUTF8)).text T
def s3C (T : List Tk) (p : PS) : PS × List UInt8 := ((s3B T p).1.word T (ls "into".toUTF8)).name T
def s3D (T : List Tk) (p : PS) : PS × List UInt8 := ((s3C T p).1.mark T 44).name T
def step3 (T : List Tk) (p : PS) : PS × St := ((s3D T p).1.mark T 59, ⟨3, (p.next.name T).2, (s3C T p).2, (s3D T p).2, (s3B T p).2, [], [], (p.tok T).a⟩)
def s4B (T : List Tk) (p : PS) : PS × List UInt8 := ((p.next.name T).1.mark T 44).name T
def s4C (T : List Tk) (p : PS) : PS × List UInt8 := ((s4B T p).1.word T (ls "with".toUTF8)).text T
def s4D (T : List Tk) (p : PS) : PS × List UInt8 := ((s4C T p).1.word T (ls "into".toUTF8)).name T
def step4 (T : List Tk) (p : PS) : PS × St := ((s4D T p).1.mark T 59, ⟨4, (p.next.name T).2, (s4B T p).2, (s4D T p).2, (s4C T p).2, [], [], (p.tok T).a⟩)
def step5 (T : List Tk) (p : PS) : PS × St :=
  ((((p.next.name T).1.word T (ls "to".toUTF8)).name T).1.mark T 59, ⟨5, (p.next.name T).2, [], [], [], (((p.next.name T).1.word T (ls "to".toUTF8)).name T).2, [], (p.tok T).a⟩)
def step6 (T : List Tk) (p : PS) : PS × St := ((p.next.name T).1.mark T 59, ⟨6, (p.next.name T).2, [], [], [], [], [], (p.tok T).a⟩)
theorem step_eq0 {T : List Tk} {p : PS} (h : stepK T p = 0) : p.step T = (p.fail (p.tok T).a 90, ⟨0, [], [], [], [], [], [], (p.tok T).a⟩) := by
  unfold PS.step
  dsimp only
  rw [if_pos h]
theorem step_eq {T : List Tk} {p : PS} (h : stepK T p ≠ 0) : p.step T = if stepK T p = 1 then step1 T p else if stepK T p = 2 then step2 T p else if stepK T p = 3 then step3 T p else if stepK T p = 4 then step4 T p else if stepK T p = 5 then step5 T p else step6 T p := by
  unfold PS.step step1 step2 step3 step4 step5 step6 s3D s3C s3B s4D s4C s4B
  dsimp only
  generalize stepK T p = k at h
  rw [if_neg h]
theorem gm {T : List Tk} {p q : PS} {m : UInt8} (h : Go_ p q) : Go_ p (q.mark T m) := h.trans (go_mark T q m)
theorem gw {T : List Tk} {p q : PS} {s : List UInt8} (h : Go_ p q) : Go_ p (q.word T s) := h.trans (go_word T q s)
theorem gn {T : List Tk} {p q : PS} (h : Go_ p q) : Go_ p (q.name T).1 := h.trans (go_name q)
theorem gt {T : List Tk} {p q : PS} (h : Go_ p q) : Go_ p (q.text T).1 := h.trans (go_text q)

section
variable {S : Sim} (H : S.Ok) {p p' : PS}
include H
theorem co_tok {X : Prop} (h : Co S X p p') : (Tr S.R (p.tok S.T) (p'.tok S.T') ∧ ∀ k s, p'.is S.T' k s = p.is S.T k s) ∨ ((p.tok S.T).k = 0 ∧ (∀ k s, k ≠ 0 → p.is S.T k s = false) ∧ ∀ q', S.Bad (p.fail (p.tok S.T).a 90) q') := by
  rcases H.tk h with g | ⟨g1, _, g3⟩
  · exact .inl ⟨g, fun k s => by unfold PS.is; rw [h.f, h.f', g.k, g.t]⟩
  · refine .inr ⟨g1, fun k s hk => ?_, fun q' => g3 _ _ q' (by decide)⟩
    cases q : p.is S.T k s with
    | false => rfl
    | true => exact absurd ((is_ok p q).2.1.symm.trans g1) hk
theorem OutV.on {α β γ δ : Type} {r : α → β → Prop} {r2 : γ → δ → Prop} {P : PS × α} {P' : PS × β} {Q : PS × γ} {Q' : PS × δ} (h : OutV S r P P') (g : Go_ P.1 Q.1) (g' : Go_ P'.1 Q'.1) (k : Co S False P.1 P'.1 → r P.2 P'.2 → OutV S r2 Q Q') : OutV S r2 Q Q' :=
  h.elim (fun z => k z.1 z.2) (fun z => .inr (H.go z g g'))
omit H in
theorem bad2 {α β : Type} {r : α → β → Prop} {u u' : PS} {x : α} {y : β} (h : S.Bad u u') : OutV S r (u, x) (u', y) := .inr h
omit H in
theorem ov_of {α β : Type} {r : α → β → Prop} {u u' : PS} {x : α} {y : β} (h : Out S False u u') (e : r x y) : OutV S r (u, x) (u', y) := h.imp (fun z => ⟨z, e⟩) id
theorem OutV.on2 {α β γ δ : Type} {r : α → β → Prop} {r2 : γ → δ → Prop} {P : PS × α} {P' : PS × β} {u u' : PS} {x : γ} {y : δ} (h : OutV S r P P') (g : Go_ P.1 u) (g' : Go_ P'.1 u') (k : Co S False P.1 P'.1 → r P.2 P'.2 → OutV S r2 (u, x) (u', y)) : OutV S r2 (u, x) (u', y) := h.on H g g' k
theorem ov_name (h : Out S False p p') : OutV S Eq (p.name S.T) (p'.name S.T') := by
  rcases h with h | h
  · have e0 : ∀ {T : List Tk} {p : PS}, p.flt = 0 → p.name T = if (p.tok T).k ≠ 1 ∨ (p.tok T).t ∈ words then (p.fail (p.tok T).a 90, []) else (p.next, (p.tok T).t) := fun {T p} z => by
      unfold PS.name
      by_cases q : (p.tok T).k ≠ 1 ∨ (p.tok T).t ∈ words
      · rw [if_pos q, if_pos (.inr q)]
      · rw [if_neg q, if_neg (fun y => y.elim (fun y => y z) q)]
    rw [e0 h.f, e0 h.f']
    rcases co_tok H h with ⟨g, _⟩ | ⟨g1, _, g3⟩
    · rw [g.k, g.t]
      by_cases q : (p.tok S.T).k ≠ 1 ∨ (p.tok S.T).t ∈ words
      · rw [if_pos q, if_pos q]
        exact .inr (H.bad h _ _ _ g.a (by decide))
      · rw [if_neg q, if_neg q]
        exact .inl ⟨co_next H h (by have : (p.tok S.T).k = 1 := Decidable.byContradiction fun z => q (.inl z); rw [this]; decide), rfl⟩
    · rw [if_pos (.inl (by rw [g1]; decide))]
      exact .inr (g3 _)
  · exact .inr (H.go h (go_name p) (go_name p'))
theorem ov_text (h : Out S False p p') : OutV S Eq (p.text S.T) (p'.text S.T') := by
  rcases h with h | h
  · have e0 : ∀ {T : List Tk} {p : PS}, p.flt = 0 → p.text T = if (p.tok T).k ≠ 3 then (p.fail (p.tok T).a 90, []) else (p.next, (p.tok T).t) := fun {T p} z => by
      unfold PS.text
      by_cases q : (p.tok T).k ≠ 3
      · rw [if_pos q, if_pos (.inr q)]
      · rw [if_neg q, if_neg (fun y => y.elim (fun y => y z) q)]
    rw [e0 h.f, e0 h.f']
    rcases co_tok H h with ⟨g, _⟩ | ⟨g1, _, g3⟩
    · rw [g.k, g.t]
      by_cases q : (p.tok S.T).k ≠ 3
      · rw [if_pos q, if_pos q]
        exact .inr (H.bad h _ _ _ g.a (by decide))
      · rw [if_neg q, if_neg q]
        exact .inl ⟨co_next H h (by have : (p.tok S.T).k = 3 := Decidable.byContradiction fun z => q z; rw [this]; decide), rfl⟩
    · rw [if_pos (by rw [g1]; decide)]
      exact .inr (g3 _)
  · exact .inr (H.go h (go_text p) (go_text p'))
theorem ov_number (h : Out S False p p') : OutV S Eq (p.number S.T) (p'.number S.T') := by
  rcases h with h | h
  · have e0 : ∀ {T : List Tk} {p : PS}, p.flt = 0 → p.number T = if (p.tok T).k = 2 then (p.next, (p.tok T).n) else (p.fail (p.tok T).a 90, 0) := fun {T p} z => by
      unfold PS.number
      by_cases q : (p.tok T).k = 2
      · rw [if_pos q, if_pos ⟨z, q⟩]
      · rw [if_neg q, if_neg (fun y => q y.2)]
    rw [e0 h.f, e0 h.f']
    rcases co_tok H h with ⟨g, _⟩ | ⟨g1, _, g3⟩
    · rw [g.k, g.n]
      by_cases q : (p.tok S.T).k = 2
      · rw [if_pos q, if_pos q]
        exact .inl ⟨co_next H h (by rw [q]; decide), rfl⟩
      · rw [if_neg q, if_neg q]
        exact .inr (H.bad h _ _ _ g.a (by decide))
    · rw [if_neg (by rw [g1]; decide)]
      exact .inr (g3 _)
  · exact .inr (H.go h (go_number _ p) (go_number _ p'))
theorem out_mark (h : Out S False p p') (m : UInt8) : Out S False (p.mark S.T m) (p'.mark S.T' m) := out_want2 H h (by decide) [m]
theorem out_word (h : Out S False p p') (s : List UInt8) : Out S False (p.word S.T s) (p'.word S.T' s) := out_want2 H h (by decide) s
theorem ov_shut {x : St} {y : St} (h : Co S False p p') (hx : StR S.R x y) (m : UInt8) : OutV S (StR S.R) (p.mark S.T m, x) (p'.mark S.T' m, y) := (out_mark H (.inl h) m).imp (fun z => ⟨z, hx⟩) id
theorem ov_step (hom : S.om = 0) (h : Co S False p p') : OutV S (StR S.R) (p.step S.T) (p'.step S.T') := by
  rcases co_tok H h with ⟨g, e⟩ | ⟨g1, g2, g3⟩
  · have ek : stepK S.T' p' = stepK S.T p := by unfold stepK; rw [e, e, e, e, e, e]
    by_cases k0 : stepK S.T p = 0
    · rw [step_eq0 k0, step_eq0 (ek.trans k0)]
      exact .inr (H.bad h _ _ _ g.a (by decide))
    have nx : Co S False p.next p'.next := co_next H h (by rw [(stepK_tok k0).2]; decide)
    have hA := ov_name H (.inl nx)
    rw [step_eq k0, step_eq (fun z => k0 (ek.symm.trans z)), ek]
    generalize stepK S.T p = k
    by_cases k1 : k = 1
    · rw [if_pos k1, if_pos k1]
      unfold step1
      have hB := ov_name H (out_mark H (hA.imp (fun z => z.1) id) 58)
      have v1 : ∀ {T : List Tk} {p : PS}, Go_ (p.next.name T).1 (step1 T p).1 := fun {T p} => by
        unfold step1
        have b : Go_ (p.next.name T).1 (((p.next.name T).1.mark T 58).name T).1 := gn (gm (Go_.refl _))
        by_cases hb : (((p.next.name T).1.mark T 58).name T).1.is T 4 [61] = true
        · rw [if_pos hb]
          exact (b.trans (go_next _ (is_ok _ hb).1)).trans ((go_value T _).trans (go_mark T _ 59))
        · rw [if_neg hb]
          exact b.trans (go_mark T _ 59)
      have v2 : ∀ {T : List Tk} {p : PS}, Go_ (((p.next.name T).1.mark T 58).name T).1 (step1 T p).1 := fun {T p} => by
        unfold step1
        by_cases hb : (((p.next.name T).1.mark T 58).name T).1.is T 4 [61] = true
        · rw [if_pos hb]
          exact (go_next _ (is_ok _ hb).1).trans ((go_value T _).trans (go_mark T _ 59))
        · rw [if_neg hb]
          exact go_mark T _ 59
      refine hA.on H v1 v1 fun c1 n1 => ?_
      refine hB.on H v2 v2 fun c2 n2 => ?_
      clear v1 v2 hA hB
      rw [n1, n2]
      generalize (((p.next.name S.T).1.mark S.T 58).name S.T).1 = q at c2 ⊢
      generalize (((p'.next.name S.T').1.mark S.T' 58).name S.T').1 = q' at c2 ⊢
      rcases co_tok H c2 with ⟨gq, eq⟩ | ⟨gq1, gq2, gq3⟩
      · rw [eq]
        by_cases hb : q.is S.T 4 [61] = true
        · rw [if_pos hb, if_pos hb]
          have hv := sm_value H hom (co_next H c2 (by rw [(is_ok q hb).2.1]; decide))
          rcases hv with hv | hv
          · refine ov_shut H hv.weak ?_ 59
            exact ⟨rfl, rfl, rfl, rfl, rfl, rfl, hv.n trivial, g.a⟩
          · exact .inr (H.go hv (go_mark _ _ _) (go_mark _ _ _))
        · rw [if_neg hb, if_neg hb]
          refine ov_shut H c2 ?_ 59
          exact ⟨rfl, rfl, rfl, rfl, rfl, rfl, .nil, g.a⟩
      · rw [gq2 4 [61] (by decide), if_neg (by decide)]
        have em : q.mark S.T 59 = q.fail (q.tok S.T).a 90 := by unfold PS.mark PS.want; rw [gq2 4 [59] (by decide), if_neg (by decide)]
        rw [em]
        exact .inr (gq3 _)
    rw [if_neg k1, if_neg k1]
    by_cases k2 : k = 2
    · rw [if_pos k2, if_pos k2]
      have hB := ov_name H (out_word H (hA.imp (fun z => z.1) id) (ls "to".toUTF8))
      unfold step2
      refine hA.on2 H (gm (gn (gw (Go_.refl _)))) (gm (gn (gw (Go_.refl _)))) fun c1 n1 => ?_
      refine hB.on2 H (gm (Go_.refl _)) (gm (Go_.refl _)) fun c2 n2 => ?_
      rw [n1, n2]
      refine ov_shut H c2 ?_ 59
      exact ⟨rfl, rfl, rfl, rfl, rfl, rfl, .nil, g.a⟩
    rw [if_neg k2, if_neg k2]
    by_cases k3 : k = 3
    · rw [if_pos k3, if_pos k3]
      have hB := ov_text H (out_word H (hA.imp (fun z => z.1) id) (ls "at".toUTF8))
      have hC := ov_name H (out_word H (hB.imp (fun z => z.1) id) (ls "into".toUTF8))
      have hD := ov_name H (out_mark H (hC.imp (fun z => z.1) id) 44)
      unfold step3 s3D s3C s3B
      refine hA.on2 H (gm (gn (gm (gn (gw (gt (gw (Go_.refl _)))))))) (gm (gn (gm (gn (gw (gt (gw (Go_.refl _)))))))) fun c1 n1 => ?_
      refine hB.on2 H (gm (gn (gm (gn (gw (Go_.refl _)))))) (gm (gn (gm (gn (gw (Go_.refl _)))))) fun c2 n2 => ?_
      refine hC.on2 H (gm (gn (gm (Go_.refl _)))) (gm (gn (gm (Go_.refl _)))) fun c3 n3 => ?_
      refine hD.on2 H (gm (Go_.refl _)) (gm (Go_.refl _)) fun c4 n4 => ?_
      rw [n1, n2, n3, n4]
      refine ov_shut H c4 ?_ 59
      exact ⟨rfl, rfl, rfl, rfl, rfl, rfl, .nil, g.a⟩
    rw [if_neg k3, if_neg k3]
    by_cases k4 : k = 4
    · rw [if_pos k4, if_pos k4]
      have hB := ov_name H (out_mark H (hA.imp (fun z => z.1) id) 44)
      have hC := ov_text H (out_word H (hB.imp (fun z => z.1) id) (ls "with".toUTF8))
      have hD := ov_name H (out_word H (hC.imp (fun z => z.1) id) (ls "into".toUTF8))
      unfold step4 s4D s4C s4B
      refine hA.on2 H (gm (gn (gw (gt (gw (gn (gm (Go_.refl _)))))))) (gm (gn (gw (gt (gw (gn (gm (Go_.refl _)))))))) fun c1 n1 => ?_
      refine hB.on2 H (gm (gn (gw (gt (gw (Go_.refl _)))))) (gm (gn (gw (gt (gw (Go_.refl _)))))) fun c2 n2 => ?_
      refine hC.on2 H (gm (gn (gw (Go_.refl _)))) (gm (gn (gw (Go_.refl _)))) fun c3 n3 => ?_
      refine hD.on2 H (gm (Go_.refl _)) (gm (Go_.refl _)) fun c4 n4 => ?_
      rw [n1, n2, n3, n4]
      refine ov_shut H c4 ?_ 59
      exact ⟨rfl, rfl, rfl, rfl, rfl, rfl, .nil, g.a⟩
    rw [if_neg k4, if_neg k4]
    by_cases k5 : k = 5
    · rw [if_pos k5, if_pos k5]
      have hB := ov_name H (out_word H (hA.imp (fun z => z.1) id) (ls "to".toUTF8))
      unfold step5
      refine hA.on2 H (gm (gn (gw (Go_.refl _)))) (gm (gn (gw (Go_.refl _)))) fun c1 n1 => ?_
      refine hB.on2 H (gm (Go_.refl _)) (gm (Go_.refl _)) fun c2 n2 => ?_
      rw [n1, n2]
      refine ov_shut H c2 ?_ 59
      exact ⟨rfl, rfl, rfl, rfl, rfl, rfl, .nil, g.a⟩
    rw [if_neg k5, if_neg k5]
    unfold step6
    refine hA.on2 H (gm (Go_.refl _)) (gm (Go_.refl _)) fun c1 n1 => ?_
    rw [n1]
    refine ov_shut H c1 ?_ 59
    exact ⟨rfl, rfl, rfl, rfl, rfl, rfl, .nil, g.a⟩
  · have k0 : stepK S.T p = 0 := Decidable.byContradiction fun z => by have := (stepK_tok z).2; rw [g1] at this; cases this
    rw [step_eq0 k0]
    exact .inr (g3 _)
/-- the steps of a version -/
theorem ov_steps (hom : S.om = 0) : ∀ (f k : Nat) (p p' : PS), Out S False p p' → (p.flt = 0 → S.T.length ≤ p.i + f) → OutV S (Rel2 (StR S.R)) (stepsL S.T f p) (stepsL S.T' (f + k) p')
  | f, k, p, p', .inr h, _ => .inr (H.go h (go_steps f p) (go_steps (f + k) p'))
  | 0, _, p, p', .inl h, hf => by
    have := hf h.f
    have : p.i < S.T.length := h.inn
    omega
  | f + 1, k, p, p', .inl h, hf => by
    rw [show f + 1 + k = f + k + 1 by omega]
    have hm : (p.step S.T).1.flt = 0 → S.T.length ≤ (p.step S.T).1.i + f := fun z => by
      by_cases k0 : stepK S.T p = 0
      · rw [step_eq0 k0] at z
        exact absurd z (fail_flt (by decide))
      · have := (go_step k0).1
        have := hf h.f
        omega
    have hs := ov_step H hom h
    unfold stepsL
    rcases co_tok H h with ⟨g, e⟩ | ⟨g1, g2, g3⟩
    · rw [e]
      by_cases hb : p.is S.T 4 [125] = false
      · rw [if_pos ⟨h.f, hb⟩, if_pos ⟨h.f', hb⟩]
        show OutV S _ ((stepsL S.T f (p.step S.T).1).1, (p.step S.T).2 :: (stepsL S.T f (p.step S.T).1).2) ((stepsL S.T' (f + k) (p'.step S.T').1).1, (p'.step S.T').2 :: (stepsL S.T' (f + k) (p'.step S.T').1).2)
        refine hs.on2 H (go_steps _ _) (go_steps _ _) fun c1 n1 => ?_
        exact (ov_steps hom f k _ _ (.inl c1) hm).imp (fun z => ⟨z.1, .cons n1 z.2⟩) id
      · rw [if_neg (fun z => hb z.2), if_neg (fun z => hb z.2)]
        exact .inl ⟨h, .nil⟩
    · rw [if_pos ⟨h.f, g2 4 [125] (by decide)⟩]
      have k0 : stepK S.T p = 0 := Decidable.byContradiction fun z => by have := (stepK_tok z).2; rw [g1] at this; cases this
      refine .inr ?_
      show S.Bad (stepsL S.T f (p.step S.T).1).1 _
      rw [step_eq0 k0, steps_stuck (fail_flt (by decide))]
      exact g3 _
theorem ov_version (hom : S.om = 0) (h : Co S False p p') : OutV S (VeR S.R) (p.version S.T) (p'.version S.T') := by
  rcases co_tok H h with ⟨g, e⟩ | ⟨g1, g2, g3⟩
  · rw [version_eq, version_eq]
    have hA := ov_number H (out_word H (.inl h) [118, 101, 114, 115, 105, 111, 110])
    refine hA.on2 H (gm ((gm (Go_.refl _)).trans (go_steps _ _))) (gm ((gm (Go_.refl _)).trans (go_steps _ _))) fun c1 n1 => ?_
    have hl := ov_steps H hom (S.T.length + 1) (S.T'.length - S.T.length) _ _ (out_mark H (.inl c1) 123) fun _ => by omega
    rw [show S.T.length + 1 + (S.T'.length - S.T.length) = S.T'.length + 1 by have := H.len; omega] at hl
    refine hl.on2 H (gm (Go_.refl _)) (gm (Go_.refl _)) fun c2 n2 => ?_
    refine ov_of (out_mark H (.inl c2) 125) ?_
    exact VeR.mk n1.symm n2 g.a
  · refine .inr ?_
    rw [version_bad (g2 1 _ (by decide))]
    exact g3 _
theorem ov_vers (hom : S.om = 0) : ∀ (f k : Nat) (p p' : PS), Out S False p p' → (p.flt = 0 → S.T.length ≤ p.i + f) → OutV S (Rel2 (VeR S.R)) (versL S.T f p) (versL S.T' (f + k) p')
  | f, k, p, p', .inr h, _ => .inr (H.go h (go_vers f p) (go_vers (f + k) p'))
  | 0, _, p, p', .inl h, hf => by
    have := hf h.f
    have : p.i < S.T.length := h.inn
    omega
  | f + 1, k, p, p', .inl h, hf => by
    rw [show f + 1 + k = f + k + 1 by omega]
    have hm : (p.version S.T).1.flt = 0 → S.T.length ≤ (p.version S.T).1.i + f := fun z => by
      cases k0 : p.is S.T 1 [118, 101, 114, 115, 105, 111, 110] with
      | false =>
        rw [version_bad k0] at z
        exact absurd z (fail_flt (by decide))
      | true =>
        have := go_version_on k0
        have := hf h.f
        omega
    have hs := ov_version H hom h
    unfold versL
    rcases co_tok H h with ⟨g, e⟩ | ⟨g1, g2, g3⟩
    · rw [e]
      by_cases hb : p.is S.T 4 [125] = false
      · rw [if_pos ⟨h.f, hb⟩, if_pos ⟨h.f', hb⟩]
        show OutV S _ ((versL S.T f (p.version S.T).1).1, (p.version S.T).2 :: (versL S.T f (p.version S.T).1).2) ((versL S.T' (f + k) (p'.version S.T').1).1, (p'.version S.T').2 :: (versL S.T' (f + k) (p'.version S.T').1).2)
        refine hs.on2 H (go_vers _ _) (go_vers _ _) fun c1 n1 => ?_
        exact (ov_vers hom f k _ _ (.inl c1) hm).imp (fun z => ⟨z.1, .cons n1 z.2⟩) id
      · rw [if_neg (fun z => hb z.2), if_neg (fun z => hb z.2)]
        exact .inl ⟨h, .nil⟩
    · rw [if_pos ⟨h.f, g2 4 [125] (by decide)⟩]
      refine .inr ?_
      show S.Bad (versL S.T f (p.version S.T).1).1 _
      rw [version_bad (g2 1 _ (by decide)), vers_stuck (fail_flt (by decide))]
      exact g3 _
theorem ov_event (hom : S.om = 0) (h : Co S False p p') (he : p.is S.T 1 [101, 118, 101, 110, 116] = true) : OutV S (EvR S.R) (p.event S.T) (p'.event S.T') := by
  rcases co_tok H h with ⟨g, e⟩ | ⟨g1, g2, g3⟩
  · rw [event_eq, event_eq]
    have hA := ov_name H (out_word H (.inl h) [101, 118, 101, 110, 116])
    refine hA.on2 H (gm (((gm (Go_.refl _)).trans (go_version_any _ _)).trans (go_vers _ _))) (gm (((gm (Go_.refl _)).trans (go_version_any _ _)).trans (go_vers _ _))) fun c1 n1 => ?_
    rcases out_mark H (.inl c1) 123 with c2 | z
    · refine (ov_version H hom c2).on2 H (gm (go_vers _ _)) (gm (go_vers _ _)) fun c3 n3 => ?_
      have hl := ov_vers H hom (S.T.length + 1) (S.T'.length - S.T.length) _ _ (.inl c3) fun _ => by omega
      rw [show S.T.length + 1 + (S.T'.length - S.T.length) = S.T'.length + 1 by have := H.len; omega] at hl
      refine hl.on2 H (gm (Go_.refl _)) (gm (Go_.refl _)) fun c4 n4 => ?_
      have n34 := Rel2.cons n3 n4
      refine ov_of (out_mark H (.inl c4) 125) ?_
      refine EvR.mk ?_ ?_ ?_
      · dsimp only
        with_reducible exact n1.symm
      · dsimp only
        with_reducible exact n34
      · dsimp only
        with_reducible exact g.a
    · refine bad2 ?_
      exact H.go z (gm ((go_version_any _ _).trans (go_vers _ _))) (gm ((go_version_any _ _).trans (go_vers _ _)))
  · rw [g2 1 _ (by decide)] at he
    cases he
/-- the events up to the first row's end, and what stands behind in the second -/
theorem ov_events (hom : S.om = 0) : ∀ (f k : Nat) (p p' : PS), Co S False p p' → S.T.length ≤ p.i + f →
    (∃ j q' l', Co S False (eventsL S.T f p).1 q' ∧ (eventsL S.T f p).1.is S.T 1 [101, 118, 101, 110, 116] = false ∧ Rel2 (EvR S.R) (eventsL S.T f p).2 l' ∧ eventsL S.T' (f + k) p' = ((eventsL S.T' j q').1, l' ++ (eventsL S.T' j q').2) ∧ p'.i + (f + k) ≤ q'.i + j) ∨ S.Bad (eventsL S.T f p).1 (eventsL S.T' (f + k) p').1
  | 0, _, p, p', h, hf => by
    have : p.i < S.T.length := h.inn
    omega
  | f + 1, k, p, p', h, hf => by
    by_cases he : p.is S.T 1 [101, 118, 101, 110, 116] = true
    · rw [events_on he]
      rcases co_tok H h with ⟨g, e⟩ | ⟨g1, g2, g3⟩
      · have he' : p'.is S.T' 1 [101, 118, 101, 110, 116] = true := (e _ _).trans he
        have b1 := (go_event_on he).1
        have b2 := (go_event_on he').1
        rw [show f + 1 + k = f + k + 1 by omega, events_on he']
        rcases ov_event H hom h he with ⟨c1, n1⟩ | z
        · rcases ov_events hom f k _ _ c1 (by omega) with ⟨j, q', l', d1, d2, d3, d4, d5⟩ | z
          · refine .inl ⟨j, q', (p'.event S.T').2 :: l', d1, d2, .cons n1 d3, ?_, by omega⟩
            rw [d4]
            rfl
          · exact .inr z
        · exact .inr (H.go z (go_events _ _) (go_events _ _))
      · rw [g2 1 _ (by decide)] at he
        cases he
    · have he0 : p.is S.T 1 [101, 118, 101, 110, 116] = false := by simpa using he
      rw [events_end he0]
      exact .inl ⟨f + 1 + k, p', [], h, he0, .nil, rfl, Nat.le_refl _⟩
end
end Go.Proofs.YtbngelinfpaefaaGreatDoor
/- Texts put together: their tokens. No walk here. -/
namespace Go.Proofs.YtbngelinfpaefaaGreatDoor
open Go.RowKit

theorem end_append {b : List UInt8} : ∀ {m : Bool} {a : List UInt8}, skipS m a = a.length → endS m (a ++ b) = endS (endS m a) b := by
  intro m a
  induction a generalizing m with
  | nil =>
    intro _
    cases m <;> cases b with
    | nil => rfl
    | cons c r => first | rfl | (rw [List.nil_append, end_cons, end_cons]; rfl)
  | cons c r ih =>
    intro h
    rw [skip_cons] at h
    rw [List.cons_append, end_cons, end_cons]
    rw [List.length_cons] at h
    by_cases q1 : m = true ∧ c.toNat ≠ 10
    · rw [if_pos q1] at h
      rw [if_pos q1, if_pos q1]
      exact ih (by omega)
    rw [if_neg q1] at h
    rw [if_neg q1, if_neg q1]
    by_cases q2 : isBl c = true
    · rw [if_pos q2] at h
      rw [if_pos q2, if_pos q2]
      exact ih (by omega)
    rw [if_neg q2] at h
    rw [if_neg q2, if_neg q2]
    by_cases q3 : c.toNat = 35
    · rw [if_pos q3] at h
      rw [if_pos q3, if_pos q3]
      exact ih (by omega)
    · rw [if_neg q3] at h
      omega
theorem skip_nl (m : Bool) : skipS m [10] = 1 ∧ endS m [10] = false := by cases m <;> decide
/-- a text, and a line behind it -/
theorem lex_line (m : List UInt8) (N : Nat) : ∀ (l : List UInt8) (off : Nat) {ts : List Tk}, l.length ≤ N → lexL l off = .ok ts → ∃ ts0, ts = ts0 ++ [endTk (off + l.length)] ∧ lexL (l ++ 10 :: m) off = (lexL m (off + l.length + 1)).pre ts0 := by
  have base : ∀ (l : List UInt8) (off : Nat) {ts : List Tk}, skipS false l = l.length → lexL l off = .ok ts → ∃ ts0, ts = ts0 ++ [endTk (off + l.length)] ∧ lexL (l ++ 10 :: m) off = (lexL m (off + l.length + 1)).pre ts0 := by
    intro l off ts h1 hl
    rw [lexL_done h1] at hl
    refine ⟨[], by cases hl; rfl, ?_⟩
    have e : l ++ 10 :: m = (l ++ [10]) ++ m := by rw [List.append_assoc]; rfl
    rw [e, lex_gap (by rw [skip_append _ h1, (skip_nl _).1, List.length_append]; rfl) (by rw [end_append h1]; exact (skip_nl _).2), LR.pre_nil, List.length_append]
    rfl
  induction N with
  | zero =>
    intro l off ts h hl
    obtain rfl := List.eq_nil_of_length_eq_zero (by omega : l.length = 0)
    exact base _ _ rfl hl
  | succ N ih =>
    intro l off ts h hl
    rcases lex_cases l off with ⟨h1, h2⟩ | ⟨s, o, e', h1, h2, h3, h4⟩ | ⟨s, k, t, n', len, h1, h2, h3, h4, h5⟩
    · exact base _ _ h1 hl
    · rw [h4] at hl; cases hl
    · rw [h5] at hl
      obtain ⟨ts', g1, rfl⟩ := LR.push_ok hl
      obtain ⟨ts0, g2, g3⟩ := ih (l.drop (s + len)) _ (by rw [List.length_drop]; omega) g1
      have hrest := tok_rest h4
      rw [List.drop_drop] at hrest
      have bn : Bd isW (10 :: m) := Bd.cons m (nl_word rfl)
      have e : l ++ 10 :: m = l.take (s + len) ++ (l.drop (s + len) ++ 10 :: m) := by rw [← List.append_assoc, List.take_append_drop]
      have el : off + s + len + (l.drop (s + len)).length = off + l.length := by rw [List.length_drop]; omega
      rw [el] at g2 g3
      refine ⟨⟨k, t, n', off + s, off + s + len⟩ :: ts0, by rw [g2]; rfl, ?_⟩
      rw [e, lex_first h1 h2 h3 h4 (fun q => (hrest.1 q).app bn) (fun q => (hrest.2 q).app bn.digit), g3]
      cases lexL m (off + l.length + 1) <;> rfl
/-- a token, and what is read, so much further on -/
def mvT (d : Nat) (x : Tk) : Tk := ⟨x.k, x.t, x.n, x.a + d, x.e + d⟩
def LR.mv (d : Nat) : LR → LR
  | .ok l => .ok (l.map (mvT d))
  | .bad a e => .bad (a + d) e
theorem LR.mv_push (d : Nat) (x : Tk) (r : LR) : (r.push x).mv d = (r.mv d).push (mvT d x) := by cases r <;> rfl
theorem lex_move (d N : Nat) : ∀ (l : List UInt8) (off : Nat), l.length ≤ N → lexL l (off + d) = (lexL l off).mv d := by
  have base : ∀ (l : List UInt8) (off : Nat), skipS false l = l.length → lexL l (off + d) = (lexL l off).mv d := by
    intro l off h
    rw [lexL_done h, lexL_done h]
    simp only [LR.mv, List.map, endTk, mvT, LR.ok.injEq, List.cons.injEq, Tk.mk.injEq, and_true, true_and]
    omega
  induction N with
  | zero =>
    intro l off h
    obtain rfl := List.eq_nil_of_length_eq_zero (by omega : l.length = 0)
    exact base _ _ rfl
  | succ N ih =>
    intro l off h
    rcases lex_cases l off with ⟨h1, h2⟩ | ⟨s, o, e, h1, h2, h3, h4⟩ | ⟨s, k, t, n, len, h1, h2, h3, h4, h5⟩
    · exact base _ _ h1
    · rw [h4, lexL_bad (o := o) (e := e) (by omega) (by rw [h1]; exact h3), h1]
      simp only [LR.mv, LR.bad.injEq, and_true]
      omega
    · rw [h5, lexL_tok (off := off + d) (k := k) (t := t) (n := n) (len := len) (by omega) (by rw [h1]; exact h4), h1, LR.mv_push,
        show off + d + s + len = off + s + len + d by omega, ih (l.drop (s + len)) (off + s + len) (by rw [List.length_drop]; omega),
        show off + d + s = off + s + d by omega]
      rfl
end Go.Proofs.YtbngelinfpaefaaGreatDoor
/- Schemas and expressions of alike rows of tokens; a fault's place; a text behind another, something behind a text. No walk here. -/
namespace Go.Proofs.YtbngelinfpaefaaGreatDoor
open Go.RowKit

theorem co_zero {S : Sim} (hT : 0 < S.T.length) {p' : PS} (h : p'.flt = 0) (hi : p'.i = S.δ) : Co S False PS.zero p' := ⟨rfl, h, by rw [hi]; show S.δ = 0 + S.δ; omega, hT, nofun, nofun, nofun, nofun⟩
section
variable {S : Sim} (H : S.Ok)
include H
theorem out_end {X : Prop} {p p' : PS} (h : Co S X p p') (g : Tr S.R (p.tok S.T) (p'.tok S.T')) : Out S X (p.end_ S.T) (p'.end_ S.T') := by
  unfold PS.end_
  rw [h.f, h.f', g.k]
  by_cases q : (p.tok S.T).k = 0
  · rw [if_neg (fun z => z.2 q), if_neg (fun z => z.2 q)]
    exact .inl h
  · rw [if_pos ⟨rfl, q⟩, if_pos ⟨rfl, q⟩]
    exact .inr (H.bad h _ _ _ g.a (by decide))
theorem sch_all (hom : S.om = 0) (hT : 0 < S.T.length) (hδ : S.δ = 0) (htr : ∀ {p p'}, Co S False p p' → Tr S.R (p.tok S.T) (p'.tok S.T')) :
    OutV S (Rel2 (EvR S.R)) ((eventsL S.T (S.T.length + 1) PS.zero).1.end_ S.T, (eventsL S.T (S.T.length + 1) PS.zero).2) ((eventsL S.T' (S.T'.length + 1) PS.zero).1.end_ S.T', (eventsL S.T' (S.T'.length + 1) PS.zero).2) := by
  have hl := H.len
  have h := ov_events H hom (S.T.length + 1) (S.T'.length - S.T.length) PS.zero PS.zero (co_zero hT rfl hδ.symm) (by show _ ≤ 0 + _; omega)
  rw [show S.T.length + 1 + (S.T'.length - S.T.length) = S.T'.length + 1 by omega] at h
  rcases h with ⟨j, q', l', h1, h2, h3, h4, _⟩ | z
  · have g := htr h1
    have he : q'.is S.T' 1 [101, 118, 101, 110, 116] = false := by
      rw [← h2]
      unfold PS.is
      rw [h1.f, h1.f', g.k, g.t]
    rw [h4, events_end he]
    dsimp only
    rw [List.append_nil]
    exact ov_of (out_end H h1 g) h3
  · exact bad2 (H.go z (go_end _ _) (go_end _ _))
theorem val_all (hom : S.om = 0) (hT : 0 < S.T.length) (hδ : S.δ = 0) (htr : ∀ {p p'}, Co S True p p' → Tr S.R (p.tok S.T) (p'.tok S.T')) :
    (Co S True (PS.zero.value S.T) (PS.zero.value S.T') ∧ Out S True ((PS.zero.value S.T).end_ S.T) ((PS.zero.value S.T').end_ S.T')) ∨ S.Bad ((PS.zero.value S.T).end_ S.T) ((PS.zero.value S.T').end_ S.T') := by
  rcases sm_value H hom (co_zero hT (p' := PS.zero) rfl hδ.symm) with h | z
  · exact .inl ⟨h, out_end H h (htr h)⟩
  · exact .inr (H.go z (go_end _ _) (go_end _ _))
end

/-! ### a fault's place -/
def placeSim (T : List Tk) (N : Nat) : Sim := ⟨T, T, 0, 0, fun a a' => a' = a ∧ a ≤ N, fun p _ => p.flt ≠ 0 ∧ p.plc ≤ N⟩
theorem place_ok {T : List Tk} {N : Nat} (hE : TkEnds T) (hN : ∀ x ∈ T, x.a ≤ N) : (placeSim T N).Ok := by
  have tk : ∀ {X p p'}, Co (placeSim T N) X p p' → Tr (placeSim T N).R (p.tok T) (p'.tok T) := fun {X p p'} h => by
    have e : p'.tok T = p.tok T := by unfold PS.tok; rw [h.i]; rfl
    rw [e]
    exact ⟨rfl, rfl, rfl, rfl, hN _ (List.mem_of_getElem? (tok_at (T := T) (p := p) h.inn))⟩
  refine ⟨Nat.le_refl _, hE, fun {p p' q q'} z g g' => ?_, fun {X p p'} h a a' e r he => ?_, fun {X p p'} h => .inl (tk h), .inl rfl, fun {p p'} h _ q q' => ?_⟩
  · obtain ⟨e1, e2, _⟩ := g.2 z.1
    exact ⟨by rw [e1]; exact z.1, by rw [e2]; exact z.2⟩
  · refine ⟨fail_flt he, ?_⟩
    unfold PS.fail
    rw [if_pos h.f]
    exact r.2
  · have := h.o trivial
    rw [q'] at this
    exact absurd (by rw [this]; show p.opn = p.opn + 0; omega) (fun z : p.opn = 100 => q z)
theorem sch_place (s : ByteArray) : (schS s).plc ≤ s.size := by
  have hs : (ls s).length = s.size := ls_size s
  unfold schS lexS
  by_cases hb : 1048576 < s.size
  · rw [if_pos hb]
    exact Nat.zero_le _
  rw [if_neg hb]
  cases hL : lexL (ls s) 0 with
  | bad a e =>
    have := lex_err _ _ _ (Nat.le_refl _) hL
    show a ≤ _
    omega
  | ok T =>
    have hE := lex_ends _ _ _ (Nat.le_refl _) hL
    have hN : ∀ x ∈ T, x.a ≤ s.size := fun x hx => by
      have := lex_order _ _ _ (Nat.le_refl _) hL x hx
      omega
    have hT : 0 < T.length := by
      obtain ⟨t, rfl⟩ := lex_last _ _ _ (Nat.le_refl _) hL
      simp
    have h := sch_all (place_ok hE hN) rfl hT rfl fun {p p'} h => by
      have e : p'.tok T = p.tok T := by unfold PS.tok; rw [h.i]; rfl
      show Tr _ (p.tok T) (p'.tok T)
      rw [e]
      exact ⟨rfl, rfl, rfl, rfl, hN _ (List.mem_of_getElem? (tok_at (T := T) (p := p) h.inn))⟩
    dsimp only
    split
    · rename_i q
      rcases h with ⟨h, _⟩ | z
      · exact absurd h.f q
      · exact z.2
    · exact Nat.zero_le _

/-! ### a text, and something behind it -/
theorem sch_ok {s : ByteArray} (h : (schS s).err = 0) : ∃ T, lexL (ls s) 0 = .ok T ∧ s.size ≤ 1048576 ∧ ((eventsL T (T.length + 1) PS.zero).1.end_ T).flt = 0 ∧ (schS s).evs = (eventsL T (T.length + 1) PS.zero).2 ∧ (schS s).plc = 0 := by
  unfold schS lexS at h ⊢
  by_cases hb : 1048576 < s.size
  · rw [if_pos hb] at h
    cases h
  rw [if_neg hb] at h ⊢
  cases hL : lexL (ls s) 0 with
  | bad a e =>
    rw [hL] at h
    have := lex_err _ _ _ (Nat.le_refl _) hL
    exact absurd h this.1
  | ok T =>
    rw [hL] at h
    refine ⟨T, rfl, by omega, ?_⟩
    dsimp only at h ⊢
    by_cases q : ((eventsL T (T.length + 1) PS.zero).1.end_ T).flt ≠ 0
    · rw [if_pos q] at h
      exact absurd h q
    · rw [if_neg q]
      exact ⟨Decidable.byContradiction q, rfl, rfl⟩
/-- the row's front is another row's -/
def frontSim (T T' : List Tk) : Sim := ⟨T, T', 0, 0, fun a a' => a' = a, fun p _ => p.flt ≠ 0⟩
theorem end_ok {T : List Tk} {p : PS} (h : (p.end_ T).flt = 0) : p.flt = 0 ∧ (p.tok T).k = 0 := by
  unfold PS.end_ at h
  by_cases q : p.flt = 0 ∧ (p.tok T).k ≠ 0
  · rw [if_pos q] at h
    exact absurd h (fail_flt (by decide))
  · rw [if_neg q] at h
    exact ⟨h, Decidable.byContradiction fun z => q ⟨h, z⟩⟩
theorem front_ok {ts r : List Tk} {e x : Tk} (hE : TkEnds (ts ++ [e])) (hx : Neut x) : (frontSim (ts ++ [e]) (ts ++ x :: r)).Ok := by
  refine ⟨by simp [frontSim], hE, fun {p p' q q'} z g g' => ?_, fun {X p p'} h a a' e r he => fail_flt he, fun {X p p'} h => ?_, .inl rfl, fun {p p'} h _ q q' => ?_⟩
  · show q.flt ≠ 0
    rw [(g.2 z).1]
    exact z
  · have hi : p'.i = p.i := h.i
    have hin : p.i < (ts ++ [e]).length := h.inn
    rw [List.length_append, List.length_singleton] at hin
    rcases Nat.lt_or_ge p.i ts.length with g | g
    · refine .inl ?_
      have e1 : p'.tok (ts ++ x :: r) = p.tok (ts ++ [e]) := by
        unfold PS.tok
        rw [hi, List.getElem?_append_left g, List.getElem?_append_left g]
      show Tr _ (p.tok (ts ++ [e])) (p'.tok (ts ++ x :: r))
      rw [e1]
      exact ⟨rfl, rfl, rfl, rfl⟩
    · have ei : p.i = ts.length := by omega
      refine .inr ⟨?_, ?_, fun a e q' he => fail_flt he⟩
      · exact (hE p.i _ (tok_at (T := ts ++ [e]) (p := p) h.inn)).2 (by rw [List.length_append, List.length_singleton]; omega)
      · have e1 : p'.tok (ts ++ x :: r) = x := by
          unfold PS.tok
          rw [hi, ei, List.getElem?_append_right (Nat.le_refl _), Nat.sub_self]
          rfl
        show Neut (p'.tok (ts ++ x :: r))
        rw [e1]
        exact hx
  · have := h.o trivial
    rw [q'] at this
    exact absurd (by rw [this]; show p.opn = p.opn + 0; omega) (fun z : p.opn = 100 => q z)
theorem nr_eq {x y : List Nd} (h : Rel2 (Nr fun a a' => a' = a) x y) : y = x := by
  induction h with
  | nil => rfl
  | @cons a b l m h1 _ ih =>
    obtain ⟨o, n, u, t, p⟩ := a
    obtain ⟨o', n', u', t', p'⟩ := b
    obtain ⟨h1, h2, h3, h4, h5⟩ := h1
    dsimp only at h1 h2 h3 h4 h5
    rw [h1, h2, h3, h4, h5, ih]
theorem st_eq {x y : List St} (h : Rel2 (StR fun a a' => a' = a) x y) : y = x := by
  induction h with
  | nil => rfl
  | @cons a b l m h1 _ ih =>
    obtain ⟨k, xa, xb, xc, s, t, v, p⟩ := a
    obtain ⟨k', ya, yb, yc, s', t', v', p'⟩ := b
    obtain ⟨h1, h2, h3, h4, h5, h6, h7, h8⟩ := h1
    dsimp only at h1 h2 h3 h4 h5 h6 h7 h8
    rw [h1, h2, h3, h4, h5, h6, nr_eq h7, h8, ih]
theorem ve_eq {x y : List Ve} (h : Rel2 (VeR fun a a' => a' = a) x y) : y = x := by
  induction h with
  | nil => rfl
  | @cons a b l m h1 _ ih =>
    obtain ⟨k, v, p⟩ := a
    obtain ⟨k', v', p'⟩ := b
    obtain ⟨h1, h2, h3⟩ := h1
    dsimp only at h1 h2 h3
    rw [h1, st_eq h2, h3, ih]
theorem ev_eq {x y : List Ev} (h : Rel2 (EvR fun a a' => a' = a) x y) : y = x := by
  induction h with
  | nil => rfl
  | @cons a b l m h1 _ ih =>
    obtain ⟨k, v, p⟩ := a
    obtain ⟨k', v', p'⟩ := b
    obtain ⟨h1, h2, h3⟩ := h1
    dsimp only at h1 h2 h3
    rw [h1, ve_eq h2, h3, ih]
/-- what is read of a text that is taken, where more stands behind it -/
theorem front_run {ts r : List Tk} {e x : Tk} (hE : TkEnds (ts ++ [e])) (hx : Neut x) (h0 : ((eventsL (ts ++ [e]) ((ts ++ [e]).length + 1) PS.zero).1.end_ (ts ++ [e])).flt = 0) :
    ∃ j q', q'.flt = 0 ∧ q'.i = ts.length ∧ (ts ++ x :: r).length + 1 ≤ q'.i + j ∧ eventsL (ts ++ x :: r) ((ts ++ x :: r).length + 1) PS.zero = ((eventsL (ts ++ x :: r) j q').1, (eventsL (ts ++ [e]) ((ts ++ [e]).length + 1) PS.zero).2 ++ (eventsL (ts ++ x :: r) j q').2) := by
  have H := front_ok (r := r) hE hx
  have hl : (ts ++ [e]).length ≤ (ts ++ x :: r).length := H.len
  have h := ov_events H rfl ((ts ++ [e]).length + 1) ((ts ++ x :: r).length - (ts ++ [e]).length) PS.zero PS.zero (co_zero (by simp [frontSim]) rfl rfl) (by show (ts ++ [e]).length ≤ 0 + _; omega)
  rw [show (ts ++ [e]).length + 1 + ((ts ++ x :: r).length - (ts ++ [e]).length) = (ts ++ x :: r).length + 1 by omega] at h
  obtain ⟨f1, f2⟩ := end_ok h0
  rcases h with ⟨j, q', l', h1, h2, h3, h4, h5⟩ | z
  · refine ⟨j, q', h1.f', ?_, by rw [show PS.zero.i = 0 from rfl] at h5; omega, ?_⟩
    · have z := (hE _ _ (tok_at (T := ts ++ [e]) h1.inn)).1 f2
      have hi : q'.i = (eventsL (ts ++ [e]) ((ts ++ [e]).length + 1) PS.zero).1.i + 0 := h1.i
      rw [List.length_append, List.length_singleton] at z
      rw [hi]
      have z2 : (eventsL (ts ++ [e]) ((ts ++ [e]).length + 1) PS.zero).1.i + 1 = ts.length + 1 := by
        rw [List.length_append, List.length_singleton]
        exact z
      omega
    · have e := ev_eq h3
      rw [e] at h4
      exact h4
  · exact absurd f1 z
/-- a text that is taken, with something behind it that begins no event -/
theorem sch_behind {s r : ByteArray} {w : List UInt8} (h : (schS s).err = 0) (hr : ls r = ls s ++ 10 :: w) (hz : r.size ≤ 1048576) {k n len : Nat} {t : List UInt8} (hw : lexL w 0 = .ok [⟨k, t, n, 0, len⟩, endTk w.length]) (hk : k ≠ 0) (ht : Neut ⟨k, t, n, s.size + 1, len + (s.size + 1)⟩) (he : (k == 1 && t == [101, 118, 101, 110, 116]) = false) :
    schS r = .bad (s.size + 1) 90 := by
  obtain ⟨T, hL, _, h0, _, _⟩ := sch_ok h
  have hs : (ls s).length = s.size := ls_size s
  obtain ⟨ts, e1, e2⟩ := lex_line w _ _ _ (Nat.le_refl _) hL
  have e3 := lex_move (s.size + 1) _ w 0 (Nat.le_refl _)
  rw [hw] at e3
  rw [show 0 + (ls s).length + 1 = 0 + (s.size + 1) by omega, e3, ← hr] at e2
  have e4 : lexL (ls r) 0 = .ok (ts ++ (⟨k, t, n, s.size + 1, len + (s.size + 1)⟩ : Tk) :: [mvT (s.size + 1) (endTk w.length)]) := by
    rw [e2]
    show LR.ok (ts ++ [mvT (s.size + 1) ⟨k, t, n, 0, len⟩, mvT (s.size + 1) (endTk w.length)]) = _
    congr 3
    show (⟨k, t, n, 0 + (s.size + 1), len + (s.size + 1)⟩ : Tk) = _
    rw [Nat.zero_add]
  have hE := lex_ends _ _ _ (Nat.le_refl _) hL
  subst e1
  obtain ⟨j, q', g1, g2, _, g4⟩ := front_run (r := [mvT (s.size + 1) (endTk w.length)]) hE ht h0
  have htk : q'.tok (ts ++ (⟨k, t, n, s.size + 1, len + (s.size + 1)⟩ : Tk) :: [mvT (s.size + 1) (endTk w.length)]) = ⟨k, t, n, s.size + 1, len + (s.size + 1)⟩ := by
    unfold PS.tok
    rw [g2, List.getElem?_append_right (Nat.le_refl _), Nat.sub_self]
    rfl
  have hev : q'.is (ts ++ (⟨k, t, n, s.size + 1, len + (s.size + 1)⟩ : Tk) :: [mvT (s.size + 1) (endTk w.length)]) 1 [101, 118, 101, 110, 116] = false := by
    unfold PS.is
    rw [htk, Bool.and_assoc]
    show (_ && (k == 1 && t == _)) = false
    rw [he, Bool.and_false]
  rw [events_end hev] at g4
  dsimp only at g4
  unfold schS lexS
  rw [if_neg (by omega), e4]
  dsimp only
  rw [g4]
  dsimp only
  have hend : q'.end_ (ts ++ (⟨k, t, n, s.size + 1, len + (s.size + 1)⟩ : Tk) :: [mvT (s.size + 1) (endTk w.length)]) = q'.fail (s.size + 1) 90 := by
    unfold PS.end_
    rw [htk, if_pos ⟨g1, hk⟩]
  have hf : q'.fail (s.size + 1) 90 = { q' with flt := 90, plc := s.size + 1 } := by
    unfold PS.fail
    rw [if_pos g1]
  rw [hend, hf, if_pos (by show (90 : Nat) ≠ 0; decide)]

/-- the row's back is another row, so much further on -/
def backSim (T T' : List Tk) (δ d : Nat) : Sim := ⟨T, T', δ, 0, fun a a' => a' = a + d, fun p _ => p.flt ≠ 0⟩
theorem back_tr {T ts : List Tk} {d : Nat} {X : Prop} {p p' : PS} (h : Co (backSim T (ts ++ T.map (mvT d)) ts.length d) X p p') : Tr (fun a a' => a' = a + d) (p.tok T) (p'.tok (ts ++ T.map (mvT d))) := by
  have hi : p'.i = p.i + ts.length := h.i
  have hin : p.i < T.length := h.inn
  have e1 : p'.tok (ts ++ T.map (mvT d)) = mvT d (p.tok T) := by
    unfold PS.tok
    rw [hi, List.getElem?_append_right (by omega), Nat.add_sub_cancel, List.getElem?_map, List.getElem?_eq_getElem hin]
    rfl
  rw [e1]
  exact ⟨rfl, rfl, rfl, rfl⟩
theorem back_ok {T ts : List Tk} {d : Nat} (hE : TkEnds T) : (backSim T (ts ++ T.map (mvT d)) ts.length d).Ok := by
  refine ⟨by simp [backSim], hE, fun {p p' q q'} z g g' => ?_, fun {X p p'} h a a' e r he => fail_flt he, fun {X p p'} h => .inl (back_tr h), .inl rfl, fun {p p'} h _ q q' => ?_⟩
  · show q.flt ≠ 0
    rw [(g.2 z).1]
    exact z
  · have := h.o trivial
    rw [q'] at this
    exact absurd (by rw [this]; show p.opn = p.opn + 0; omega) (fun z : p.opn = 100 => q z)
/-- two texts that are taken, one behind the other -/
theorem sch_join {s t r : ByteArray} (h : (schS s).err = 0) (ht : (schS t).err = 0) (hr : ls r = ls s ++ 10 :: ls t) (hz : r.size ≤ 1048576) :
    ∃ l, schS r = .ok ((schS s).evs ++ l) ∧ Rel2 (EvR fun a a' => a' = a + (s.size + 1)) (schS t).evs l := by
  obtain ⟨T, hL, _, h0, hv, _⟩ := sch_ok h
  obtain ⟨U, hM, _, u0, uv, _⟩ := sch_ok ht
  have hs : (ls s).length = s.size := ls_size s
  obtain ⟨ts, e1, e2⟩ := lex_line (ls t) _ _ _ (Nat.le_refl _) hL
  have e3 := lex_move (s.size + 1) _ (ls t) 0 (Nat.le_refl _)
  rw [hM] at e3
  rw [show 0 + (ls s).length + 1 = 0 + (s.size + 1) by omega, e3, ← hr] at e2
  have e4 : lexL (ls r) 0 = .ok (ts ++ U.map (mvT (s.size + 1))) := e2
  have hE := lex_ends _ _ _ (Nat.le_refl _) hL
  have hE' := lex_ends _ _ _ (Nat.le_refl _) hM
  obtain ⟨x, V, rfl⟩ : ∃ x V, U = x :: V := by
    obtain ⟨t, rfl⟩ := lex_last _ _ _ (Nat.le_refl _) hM
    cases t with
    | nil => exact ⟨_, _, rfl⟩
    | cons a b => exact ⟨_, _, rfl⟩
  have hx : Neut (mvT (s.size + 1) x) := by
    intro (hk : x.k = 4)
    have hnf : PS.zero.is (x :: V) 1 [101, 118, 101, 110, 116] = false := by
      unfold PS.is
      show ((0 : Nat) == 0 && x.k == 1 && _) = false
      rw [hk]
      rfl
    rw [events_end hnf] at u0
    have := (end_ok u0).2
    rw [show PS.zero.tok (x :: V) = x from rfl, hk] at this
    cases this
  subst e1
  obtain ⟨j, q', g1, g2, g3, g4⟩ := front_run (r := V.map (mvT (s.size + 1))) hE hx h0
  have H := back_ok (ts := ts) (d := s.size + 1) hE'
  have gl : (ts ++ (x :: V).map (mvT (s.size + 1))).length + 1 ≤ q'.i + j := g3
  have gl2 : (x :: V).length + 1 ≤ j := by
    rw [List.length_append, List.length_map, g2] at gl
    omega
  have k := ov_events H rfl ((x :: V).length + 1) (j - ((x :: V).length + 1)) PS.zero q' (co_zero (by simp [backSim]) g1 g2) (by show (x :: V).length ≤ 0 + _; omega)
  rw [show (x :: V).length + 1 + (j - ((x :: V).length + 1)) = j by omega] at k
  obtain ⟨f1, f2⟩ := end_ok u0
  rcases k with ⟨j', p', l', k1, k2, k3, k4, _⟩ | z
  · have g := back_tr k1
    have k0 : (p'.tok (ts ++ (x :: V).map (mvT (s.size + 1)))).k = 0 := g.k.trans f2
    have hev : p'.is (ts ++ (x :: V).map (mvT (s.size + 1))) 1 [101, 118, 101, 110, 116] = false := by
      unfold PS.is
      rw [k0, Bool.and_assoc]
      show (_ && (false && _)) = false
      rw [Bool.false_and, Bool.and_false]
    have k5 : eventsL (ts ++ (x :: V).map (mvT (s.size + 1))) j q' = (p', l') := by
      refine k4.trans ?_
      show ((eventsL (ts ++ (x :: V).map (mvT (s.size + 1))) j' p').1, l' ++ (eventsL (ts ++ (x :: V).map (mvT (s.size + 1))) j' p').2) = _
      rw [events_end hev, List.append_nil]
    refine ⟨l', ?_, by rw [uv]; exact k3⟩
    have g5 : eventsL (ts ++ (x :: V).map (mvT (s.size + 1))) ((ts ++ (x :: V).map (mvT (s.size + 1))).length + 1) PS.zero = (p', (schS s).evs ++ l') := by
      refine g4.trans ?_
      show ((eventsL (ts ++ (x :: V).map (mvT (s.size + 1))) j q').1, _ ++ (eventsL (ts ++ (x :: V).map (mvT (s.size + 1))) j q').2) = _
      rw [k5, hv]
    conv => lhs; unfold schS lexS
    rw [if_neg (by omega), e4]
    dsimp only
    rw [g5]
    dsimp only
    have hend : p'.end_ (ts ++ (x :: V).map (mvT (s.size + 1))) = p' := by
      unfold PS.end_
      rw [if_neg (fun z => z.2 k0)]
    rw [hend, if_neg (fun z => z k1.f')]
  · exact absurd f1 z
end Go.Proofs.YtbngelinfpaefaaGreatDoor
/- The same tokens with other blanks between them. No walk here. -/
namespace Go.Proofs.YtbngelinfpaefaaGreatDoor
open Go.RowKit

/-- each token's own bytes -/
theorem lex_own (N : Nat) : ∀ (l : List UInt8) (off : Nat) {ts : List Tk}, l.length ≤ N → lexL l off = .ok ts → ∀ x ∈ ts, off ≤ x.a ∧ x.a ≤ x.e ∧ (x.k ≠ 0 → tokL (l.drop (x.a - off)) = .tok x.k x.t x.n (x.e - x.a)) ∧ (x.k = 0 → x = endTk (off + l.length)) := by
  have base : ∀ (l : List UInt8) (off : Nat) {ts : List Tk}, skipS false l = l.length → lexL l off = .ok ts → ∀ x ∈ ts, off ≤ x.a ∧ x.a ≤ x.e ∧ (x.k ≠ 0 → tokL (l.drop (x.a - off)) = .tok x.k x.t x.n (x.e - x.a)) ∧ (x.k = 0 → x = endTk (off + l.length)) := by
    intro l off ts h hl x hx
    rw [lexL_done h] at hl
    cases hl
    obtain rfl := List.mem_singleton.1 hx
    exact ⟨Nat.le_add_right _ _, Nat.le_refl _, fun z => absurd rfl z, fun _ => rfl⟩
  induction N with
  | zero =>
    intro l off ts h hl
    obtain rfl := List.eq_nil_of_length_eq_zero (by omega : l.length = 0)
    exact base _ _ rfl hl
  | succ N ih =>
    intro l off ts h hl
    rcases lex_cases l off with ⟨h1, h2⟩ | ⟨s, o, e, h1, h2, h3, h4⟩ | ⟨s, k, t, n, len, h1, h2, h3, h4, h5⟩
    · exact base _ _ h1 hl
    · rw [h4] at hl
      cases hl
    · rw [h5] at hl
      obtain ⟨ts', g1, rfl⟩ := LR.push_ok hl
      intro x hx
      rcases List.mem_cons.1 hx with rfl | hx
      · refine ⟨Nat.le_add_right _ _, Nat.le_add_right _ _, fun _ => ?_, fun z => absurd z (tok_skip h4).2⟩
        show tokL (l.drop (off + s - off)) = .tok k t n (off + s + len - (off + s))
        rw [Nat.add_sub_cancel_left, Nat.add_sub_cancel_left]
        exact h4
      · obtain ⟨a1, a2, a3, a4⟩ := ih _ _ (by rw [List.length_drop]; omega) g1 x hx
        refine ⟨by omega, a2, fun z => ?_, fun z => ?_⟩
        · have := a3 z
          rw [List.drop_drop, show s + len + (x.a - (off + s + len)) = x.a - off by omega] at this
          exact this
        · rw [a4 z, List.length_drop]
          congr 1
          omega

/-- a gap -/
structure Gap (g : List UInt8) : Prop where
  all : skipS false g = g.length
  fin : endS false g = false
  sep : Sep g
  few : g.length ≤ 5
def spL (l : List UInt8) : List (Tk × List UInt8) → List UInt8
  | [] => []
  | (x, g) :: r => (g ++ (l.drop x.a).take (x.e - x.a)) ++ spL l r
def spT : Nat → List (Tk × List UInt8) → List Tk
  | _, [] => []
  | o, (x, g) :: r => ⟨x.k, x.t, x.n, o + g.length, o + g.length + (x.e - x.a)⟩ :: spT (o + g.length + (x.e - x.a)) r
theorem spT_len (o : Nat) (L : List (Tk × List UInt8)) : (spT o L).length = L.length := by
  induction L generalizing o with
  | nil => rfl
  | cons y r ih => obtain ⟨x, g⟩ := y; unfold spT; rw [List.length_cons, List.length_cons, ih]
theorem spT_at {o i : Nat} {L : List (Tk × List UInt8)} {x : Tk} {g : List UInt8} (h : L[i]? = some (x, g)) : ∃ y, (spT o L)[i]? = some y ∧ y.k = x.k ∧ y.t = x.t ∧ y.n = x.n := by
  induction L generalizing o i with
  | nil => cases h
  | cons y r ih =>
    obtain ⟨x', g'⟩ := y
    cases i with
    | zero =>
      cases h
      exact ⟨_, rfl, rfl, rfl, rfl⟩
    | succ i =>
      unfold spT
      rw [List.getElem?_cons_succ] at h ⊢
      exact ih h
theorem lex_spaced {l : List UInt8} : ∀ (L : List (Tk × List UInt8)) (o : Nat), L ≠ [] → (∀ y ∈ L, Gap y.2) → TkEnds (L.map (·.1)) → (∀ y ∈ L, y.1.k ≠ 0 → tokL (l.drop y.1.a) = .tok y.1.k y.1.t y.1.n (y.1.e - y.1.a)) → (∀ y ∈ L, y.1.k = 0 → y.1 = endTk l.length) → lexL (spL l L) o = .ok (spT o L)
  | [], _, h, _, _, _, _ => absurd rfl h
  | (x, g) :: r, o, _, hg, hE, ht, he => by
    have G := hg (x, g) (List.mem_cons_self ..)
    have z0 := hE 0 x rfl
    unfold spL spT
    rw [List.append_assoc, lex_gap G.all G.fin]
    rw [List.map_cons, List.length_cons, List.length_map] at z0
    by_cases hk : x.k = 0
    · obtain rfl := List.eq_nil_of_length_eq_zero (show r.length = 0 by have := z0.1 hk; omega)
      have hx : x = endTk l.length := he (x, g) (List.mem_cons_self ..) hk
      subst hx
      have e : (l.drop (endTk l.length).a).take ((endTk l.length).e - (endTk l.length).a) ++ spL l [] = [] := by
        show (l.drop l.length).take (l.length - l.length) ++ [] = []
        rw [Nat.sub_self]
        rfl
      rw [e, lexL_done rfl]
      show LR.ok [endTk (o + g.length + 0)] = LR.ok [⟨0, [], 0, o + g.length, o + g.length + (l.length - l.length)⟩]
      rw [Nat.sub_self]
      rfl
    · have hr : r ≠ [] := fun z => hk (z0.2 (by rw [z]; rfl))
      have T := ht (x, g) (List.mem_cons_self ..) hk
      dsimp only at T
      have hs := (tok_skip T).1
      have hl := tokL_len T
      have hb : Bd isW (spL l r) := by
        cases r with
        | nil => exact absurd rfl hr
        | cons y r' =>
          obtain ⟨x', g'⟩ := y
          unfold spL
          rw [List.append_assoc]
          exact (hg (x', g') (List.mem_cons_of_mem _ (List.mem_cons_self ..))).sep.bd _
      have hE' : TkEnds (r.map (·.1)) := fun i y hy => by
        have := hE (i + 1) y hy
        rw [List.map_cons, List.length_cons] at this
        exact ⟨fun q => by have := this.1 q; omega, fun q => this.2 (by omega)⟩
      have ih := lex_spaced r (o + g.length + (x.e - x.a)) hr (fun y hy => hg y (List.mem_cons_of_mem _ hy)) hE' (fun y hy => ht y (List.mem_cons_of_mem _ hy)) (fun y hy => he y (List.mem_cons_of_mem _ hy))
      have f := lex_first (l := l.drop x.a) (s := 0) (len := x.e - x.a) hs (by omega) hl.1 T (y := spL l r) (fun _ => hb) (fun _ => hb.digit) (o + g.length)
      rw [Nat.zero_add, Nat.add_zero] at f
      rw [f, ih]
      rfl

/-- a token stands at the one place, and now at the other -/
def PlR (L : List (Tk × List UInt8)) (a a' : Nat) : Prop := ∃ (i : Nat) (x y : Tk), (L.map (·.1))[i]? = some x ∧ (spT 0 L)[i]? = some y ∧ x.a = a ∧ y.a = a'
def spSim (L : List (Tk × List UInt8)) : Sim := ⟨L.map (·.1), spT 0 L, 0, 0, PlR L, fun p p' => p.flt ≠ 0 ∧ p'.flt = p.flt ∧ PlR L p.plc p'.plc⟩
theorem sp_tr {L : List (Tk × List UInt8)} {X : Prop} {p p' : PS} (h : Co (spSim L) X p p') : Tr (spSim L).R (p.tok (spSim L).T) (p'.tok (spSim L).T') := by
  have hi : p'.i = p.i := h.i
  have hin : p.i < (L.map (·.1)).length := h.inn
  rw [List.length_map] at hin
  obtain ⟨⟨x, g⟩, hx⟩ : ∃ y, L[p.i]? = some y := ⟨_, List.getElem?_eq_getElem hin⟩
  obtain ⟨y, h1, h2, h3, h4⟩ := spT_at (o := 0) hx
  have hx' : (L.map (·.1))[p.i]? = some x := by rw [List.getElem?_map, hx]; rfl
  have e1 : p.tok (L.map (·.1)) = x := by unfold PS.tok; rw [hx']; rfl
  have e2 : p'.tok (spT 0 L) = y := by unfold PS.tok; rw [hi, h1]; rfl
  show Tr (PlR L) (p.tok (L.map (·.1))) (p'.tok (spT 0 L))
  rw [e1, e2]
  exact ⟨h2, h3, h4, p.i, x, y, hx', h1, rfl, rfl⟩
theorem sp_ok {L : List (Tk × List UInt8)} (hE : TkEnds (L.map (·.1))) : (spSim L).Ok := by
  refine ⟨by simp [spSim, spT_len], hE, fun {p p' q q'} z g g' => ?_, fun {X p p'} h a a' e r he => ?_, fun {X p p'} h => .inl (sp_tr h), .inl rfl, fun {p p'} h _ q q' => ?_⟩
  · obtain ⟨z1, z2, z3⟩ := z
    obtain ⟨e1, e2, _⟩ := g.2 z1
    obtain ⟨e3, e4, _⟩ := g'.2 (by rw [z2]; exact z1)
    refine ⟨by rw [e1]; exact z1, by rw [e3, e1]; exact z2, ?_⟩
    rw [e2, e4]
    exact z3
  · have f1 : p.fail a e = { p with flt := e, plc := a } := by unfold PS.fail; rw [if_pos h.f]
    have f2 : p'.fail a' e = { p' with flt := e, plc := a' } := by unfold PS.fail; rw [if_pos h.f']
    rw [f1, f2]
    exact ⟨he, rfl, r⟩
  · have := h.o trivial
    rw [q'] at this
    exact absurd (by rw [this]; show p.opn = p.opn + 0; omega) (fun z : p.opn = 100 => q z)
section
variable {s r : ByteArray} {L : List (Tk × List UInt8)} (hL : lexL (ls s) 0 = .ok (L.map (·.1))) (hg : ∀ y ∈ L, Gap y.2) (hs : s.size ≤ 1048576) (hr : ls r = spL (ls s) L) (hz : r.size ≤ 1048576)
include hL hg hr
theorem lex_sp : lexL (ls r) 0 = .ok (spT 0 L) ∧ TkEnds (L.map (·.1)) ∧ 0 < (L.map (·.1)).length := by
  have hE := lex_ends _ _ _ (Nat.le_refl _) hL
  have hO := lex_own _ _ _ (Nat.le_refl _) hL
  have hT : 0 < (L.map (·.1)).length := by
    obtain ⟨t, e⟩ := lex_last _ _ _ (Nat.le_refl _) hL
    rw [e]
    simp
  refine ⟨?_, hE, hT⟩
  rw [hr]
  refine lex_spaced L 0 (fun z => by rw [z] at hT; exact absurd hT (by decide)) hg hE (fun y hy hk => ?_) (fun y hy hk => ?_)
  · exact (hO y.1 (List.mem_map_of_mem hy)).2.2.1 hk
  · have := (hO y.1 (List.mem_map_of_mem hy)).2.2.2 hk
    rw [Nat.zero_add] at this
    exact this
include hs hz
theorem sch_spaced : (schS r).err = (schS s).err ∧ Rel2 (EvR (PlR L)) (schS s).evs (schS r).evs ∧ ((schS s).err = 0 ∨ PlR L (schS s).plc (schS r).plc) := by
  obtain ⟨h1, hE, hT⟩ := lex_sp hL hg hr
  have h := sch_all (sp_ok hE) rfl hT rfl sp_tr
  unfold schS lexS
  rw [if_neg (by omega), if_neg (by omega), hL, h1]
  dsimp only
  rcases h with ⟨h, e⟩ | ⟨z1, z2, z3⟩
  · rw [if_neg (fun z => z h.f'), if_neg (fun z => z h.f)]
    exact ⟨rfl, e, .inl rfl⟩
  · have w1 : (((eventsL (L.map (·.1)) ((L.map (·.1)).length + 1) PS.zero).1).end_ (L.map (·.1))).flt ≠ 0 := z1
    have w2 : (((eventsL (spT 0 L) ((spT 0 L).length + 1) PS.zero).1).end_ (spT 0 L)).flt ≠ 0 := fun q => z1 (z2.symm.trans q)
    rw [if_pos w2, if_pos w1]
    exact ⟨z2, .nil, .inr z3⟩
theorem val_spaced : (valS r).err = (valS s).err ∧ Rel2 (Nr (PlR L)) (valS s).nds (valS r).nds ∧ ((valS s).err = 0 ∨ PlR L (valS s).plc (valS r).plc) := by
  obtain ⟨h1, hE, hT⟩ := lex_sp hL hg hr
  have h := val_all (sp_ok hE) rfl hT rfl sp_tr
  unfold valS lexS
  rw [if_neg (by omega), if_neg (by omega), hL, h1]
  dsimp only
  have bad : ∀ {p p' : PS} {l l' : List Nd}, (spSim L).Bad p p' → ((if p'.flt ≠ 0 then VR.bad p'.plc p'.flt else VR.ok l').err = (if p.flt ≠ 0 then VR.bad p.plc p.flt else VR.ok l).err ∧ Rel2 (Nr (PlR L)) (if p.flt ≠ 0 then VR.bad p.plc p.flt else VR.ok l).nds (if p'.flt ≠ 0 then VR.bad p'.plc p'.flt else VR.ok l').nds ∧ ((if p.flt ≠ 0 then VR.bad p.plc p.flt else VR.ok l).err = 0 ∨ PlR L (if p.flt ≠ 0 then VR.bad p.plc p.flt else VR.ok l).plc (if p'.flt ≠ 0 then VR.bad p'.plc p'.flt else VR.ok l').plc)) := fun {p p' l l'} ⟨z1, z2, z3⟩ => by
    rw [if_pos (by rw [z2]; exact z1), if_pos z1]
    exact ⟨z2, .nil, .inr z3⟩
  rcases h with ⟨h, h2 | z⟩ | z
  · rw [if_neg (fun z => z h2.f'), if_neg (fun z => z h2.f)]
    exact ⟨rfl, h.n trivial, .inl rfl⟩
  · exact bad z
  · exact bad z
end
end Go.Proofs.YtbngelinfpaefaaGreatDoor
/- An expression in brackets, and added to. No walk here. -/
namespace Go.Proofs.YtbngelinfpaefaaGreatDoor
open Go.RowKit

theorem val_ok {s : ByteArray} (h : (valS s).err = 0) : ∃ T, lexL (ls s) 0 = .ok T ∧ s.size ≤ 1048576 ∧ ((PS.zero.value T).end_ T).flt = 0 ∧ (valS s).nds = (PS.zero.value T).nds := by
  unfold valS lexS at h ⊢
  by_cases hb : 1048576 < s.size
  · rw [if_pos hb] at h
    cases h
  rw [if_neg hb] at h ⊢
  cases hL : lexL (ls s) 0 with
  | bad a e =>
    rw [hL] at h
    have := lex_err _ _ _ (Nat.le_refl _) hL
    exact absurd h this.1
  | ok T =>
    rw [hL] at h
    refine ⟨T, rfl, by omega, ?_⟩
    dsimp only at h ⊢
    by_cases q : ((PS.zero.value T).end_ T).flt ≠ 0
    · rw [if_pos q] at h
      exact absurd h q
    · rw [if_neg q]
      exact ⟨Decidable.byContradiction q, rfl⟩
def lpT : Tk := ⟨4, [40], 0, 0, 1⟩
def brT (ts : List Tk) (n : Nat) (R : List Tk) : List Tk := lpT :: (ts.map (mvT 1) ++ (⟨4, [41], 0, n, n + 1⟩ : Tk) :: R)
def brSim (ts : List Tk) (e : Tk) (n : Nat) (R : List Tk) : Sim := ⟨ts ++ [e], brT ts n R, 1, 1, fun a a' => a' = a + 1, fun p p' => p.flt ≠ 0 ∨ (p'.flt = 91 ∧ 99 ≤ cnt (ts ++ [e]) (ts ++ [e]).length)⟩
theorem br_at {ts : List Tk} {e : Tk} {n : Nat} {R : List Tk} {X : Prop} {p p' : PS} (h : Co (brSim ts e n R) X p p') (hE : TkEnds (ts ++ [e])) :
    (p.i < ts.length ∧ p'.tok (brT ts n R) = mvT 1 (p.tok (ts ++ [e]))) ∨ (p.i = ts.length ∧ (p.tok (ts ++ [e])).k = 0 ∧ p'.tok (brT ts n R) = ⟨4, [41], 0, n, n + 1⟩) := by
  have hi : p'.i = p.i + 1 := h.i
  have hin : p.i < (ts ++ [e]).length := h.inn
  rw [List.length_append, List.length_singleton] at hin
  rcases Nat.lt_or_ge p.i ts.length with g | g
  · refine .inl ⟨g, ?_⟩
    unfold PS.tok brT
    rw [hi, List.getElem?_cons_succ, List.getElem?_append_left (by rw [List.length_map]; exact g), List.getElem?_append_left g, List.getElem?_map, List.getElem?_eq_getElem g]
    rfl
  · have ei : p.i = ts.length := by omega
    refine .inr ⟨ei, ?_, ?_⟩
    · exact (hE p.i _ (tok_at (T := ts ++ [e]) (p := p) h.inn)).2 (by rw [List.length_append, List.length_singleton]; omega)
    · unfold PS.tok brT
      rw [hi, List.getElem?_cons_succ, ei, List.getElem?_append_right (by rw [List.length_map]; exact Nat.le_refl _), List.length_map, Nat.sub_self]
      rfl
theorem br_ok {ts : List Tk} {e : Tk} {n : Nat} {R : List Tk} (hE : TkEnds (ts ++ [e])) : (brSim ts e n R).Ok := by
  refine ⟨?_, hE, fun {p p' q q'} z g g' => ?_, fun {X p p'} h a a' e r he => .inl (fail_flt he), fun {X p p'} h => ?_, .inr fun p q' z => .inl z, fun {p p'} h ho q q' => ?_⟩
  · simp [brSim, brT]
  · rcases z with z | ⟨z1, z2⟩
    · left
      rw [(g.2 z).1]
      exact z
    · right
      rw [(g'.2 (by rw [z1]; decide)).1]
      exact ⟨z1, z2⟩
  · rcases br_at h hE with ⟨_, e1⟩ | ⟨_, e1, e2⟩
    · refine .inl ?_
      show Tr _ (p.tok (ts ++ [e])) (p'.tok (brT ts n R))
      rw [e1]
      exact ⟨rfl, rfl, rfl, rfl⟩
    · refine .inr ⟨e1, ?_, fun a e q' he => .inl (fail_flt he)⟩
      show Neut (p'.tok (brT ts n R))
      rw [e2]
      exact fun _ => by
        show ([41] : List UInt8) ≠ [42] ∧ ([41] : List UInt8) ≠ [43] ∧ ([41] : List UInt8) ≠ [45] ∧ ([41] : List UInt8) ≠ [44]
        decide
  · right
    have hc := h.c trivial
    have ho' := h.o trivial
    have h1 : p.opn ≤ (cnt (ts ++ [e]) p.i : Nat) := hc
    have h2 : p'.opn = p.opn + 1 := ho'
    have h3 := cnt_all (ts ++ [e]) p.i
    refine ⟨?_, by omega⟩
    have e1 : p'.level (brT ts n R) = p'.fail (p'.tok (brT ts n R)).a 91 := by
      unfold PS.level
      rw [if_neg (fun z => z h.f'), if_pos q']
    show (p'.level (brT ts n R)).flt = 91
    rw [e1]
    unfold PS.fail
    rw [if_pos h.f']
/-- what stands behind the bracket that ends it -/
theorem br_run {ts : List Tk} {e : Tk} {n : Nat} {R : List Tk} (hE : TkEnds (ts ++ [e])) (h0 : ((PS.zero.value (ts ++ [e])).end_ (ts ++ [e])).flt = 0) :
    ∃ u, PS.zero.value (brT ts n R) = exprLoop (brT ts n R) (factorF (brT ts n R) ((brT ts n R).length + 1)) ((brT ts n R).length + 1) (termLoop (brT ts n R) (factorF (brT ts n R) ((brT ts n R).length + 1)) ((brT ts n R).length + 1) u) ∧
      ((u.flt = 0 ∧ u.i = ts.length + 2 ∧ Rel2 (Nr fun a a' => a' = a + 1) (PS.zero.value (ts ++ [e])).nds u.nds) ∨ (u.flt = 91 ∧ 99 ≤ cnt (ts ++ [e]) (ts ++ [e]).length)) := by
  have hlT : (brT ts n R).length = ts.length + 2 + R.length := by simp [brT]; omega
  obtain ⟨pz, hpz⟩ : ∃ p, ({ PS.zero with nds := [], dps := [], opn := 0 } : PS) = p := ⟨_, rfl⟩
  have hpz2 : pz = ⟨0, 0, 0, [], [], 0⟩ := hpz.symm
  refine ⟨factorF (brT ts n R) ((brT ts n R).length + 1) pz, by rw [← hpz]; rfl, ?_⟩
  have htk : pz.tok (brT ts n R) = lpT := by rw [hpz2]; rfl
  have hf : factorF (brT ts n R) ((brT ts n R).length + 1) pz = ((exprW (brT ts n R) (factorF (brT ts n R) (brT ts n R).length) (pz.level (brT ts n R))).mark (brT ts n R) 41).shut := by
    have is_ : ∀ k s, pz.is (brT ts n R) k s = (((0 : Nat) == 0 && (4 : Nat) == k) && ([40] : List UInt8) == s) := fun k s => by
      unfold PS.is
      rw [htk, hpz2]
      rfl
    show factorW (brT ts n R) (factorF (brT ts n R) (brT ts n R).length) pz = _
    unfold factorW
    dsimp only
    rw [if_neg (show ¬ pz.flt ≠ 0 by rw [hpz2]; decide), htk, if_neg (by decide), if_neg (by decide), is_, is_, is_, is_, if_neg (by simp), if_neg (by simp), if_neg (by decide), if_pos (by decide)]
  rw [hf]
  have hlv : pz.level (brT ts n R) = ⟨1, 0, 0, [], [], 1⟩ := by rw [hpz2]; rfl
  have H := br_ok (n := n) (R := R) hE
  have hco : Co (brSim ts e n R) True pz (pz.level (brT ts n R)) := by
    rw [hlv, hpz2]
    exact ⟨rfl, rfl, rfl, by simp [In_, brSim], fun _ => rfl, fun _ => rfl, fun _ => .nil, fun _ => by show (0 : Int) ≤ _; omega⟩
  have hlS : (ts ++ [e]).length = ts.length + 1 := by simp
  have hx := sm_exprW H (m := 0) (fac := factorF (ts ++ [e]) ((ts ++ [e]).length + 1)) (fac' := factorF (brT ts n R) (brT ts n R).length)
    (fun p p' h _ => by
      have := sm_factorF H ((ts ++ [e]).length + 1) ((brT ts n R).length - ((ts ++ [e]).length + 1)) p p' h (by show (ts ++ [e]).length + 1 - _ ≤ _; omega)
      rw [show (ts ++ [e]).length + 1 + ((brT ts n R).length - ((ts ++ [e]).length + 1)) = (brT ts n R).length by omega] at this
      exact this) (go_factorF _) (go_factorF _) pz _ hco (Nat.zero_le _)
  have hv : exprW (ts ++ [e]) (factorF (ts ++ [e]) ((ts ++ [e]).length + 1)) pz = PS.zero.value (ts ++ [e]) := by rw [← hpz]; rfl
  obtain ⟨f1, f2⟩ := end_ok h0
  replace hx : Out (brSim ts e n R) True (exprW (ts ++ [e]) (factorF (ts ++ [e]) ((ts ++ [e]).length + 1)) pz) (exprW (brT ts n R) (factorF (brT ts n R) (brT ts n R).length) (pz.level (brT ts n R))) := hx
  rw [hv] at hx
  generalize PS.zero.value (ts ++ [e]) = q at hx f1 f2 ⊢
  generalize exprW (brT ts n R) (factorF (brT ts n R) (brT ts n R).length) (pz.level (brT ts n R)) = q' at hx ⊢
  rcases hx with c | z | ⟨z1, z2⟩
  · left
    have hi : q'.i = q.i + 1 := c.i
    rcases br_at c hE with ⟨g, _⟩ | ⟨g, _, g3⟩
    · have := (hE _ _ (tok_at (T := ts ++ [e]) (p := q) c.inn)).1 f2
      omega
    · have em : q'.mark (brT ts n R) 41 = q'.next := by
        unfold PS.mark PS.want
        rw [if_pos]
        unfold PS.is
        rw [g3, c.f']
        rfl
      rw [em]
      exact ⟨c.f', by show q'.i + 1 = _; omega, c.n trivial⟩
  · exact absurd f1 z
  · right
    have hm : q'.mark (brT ts n R) 41 = q' := mark_stuck (by rw [z1]; decide) 41
    rw [hm]
    exact ⟨z1, z2⟩
theorem lex_br {s : ByteArray} {T : List Tk} (hL : lexL (ls s) 0 = .ok T) {w : List UInt8} {R : List Tk} (hw : lexL (41 :: w) 0 = .ok ((⟨4, [41], 0, 0, 1⟩ : Tk) :: R)) :
    ∃ ts, T = ts ++ [endTk s.size] ∧ lexL (40 :: (ls s ++ 10 :: 41 :: w)) 0 = .ok (brT ts (s.size + 2) (R.map (mvT (s.size + 2)))) := by
  have hs : (ls s).length = s.size := ls_size s
  obtain ⟨ts, e0⟩ := lex_last _ _ _ (Nat.le_refl _) hL
  rw [hs, Nat.zero_add] at e0
  refine ⟨ts, e0, ?_⟩
  have hm := lex_move 1 _ (ls s) 0 (Nat.le_refl _)
  rw [hL] at hm
  replace hm : lexL (ls s) 1 = .ok (T.map (mvT 1)) := hm
  obtain ⟨t1, e1, e2⟩ := lex_line (41 :: w) _ _ _ (Nat.le_refl _) hm
  have e3 := lex_move (s.size + 2) _ (41 :: w) 0 (Nat.le_refl _)
  rw [hw] at e3
  rw [show 1 + (ls s).length + 1 = 0 + (s.size + 2) by omega, e3] at e2
  have et : t1 = ts.map (mvT 1) := by
    rw [e0, List.map_append] at e1
    exact (List.append_inj' e1 rfl).1.symm
  have hk : tokL (40 :: (ls s ++ 10 :: 41 :: w)) = .tok 4 [40] 0 1 := by
    generalize ls s ++ 10 :: 41 :: w = z
    unfold tokL
    dsimp only
    rw [if_neg (by decide), if_neg (by decide), if_neg (by decide), if_pos (by decide)]
  have hsk : skipS false (40 :: (ls s ++ 10 :: 41 :: w)) = 0 := (tok_skip hk).1
  rw [lexL_tok (k := 4) (t := [40]) (n := 0) (len := 1) (by rw [hsk]; exact fun z => by cases z) (by rw [hsk]; exact hk), hsk]
  show (lexL (ls s ++ 10 :: 41 :: w) 1).push _ = _
  rw [e2, et]
  show LR.ok (_ :: (ts.map (mvT 1) ++ (mvT (s.size + 2) ⟨4, [41], 0, 0, 1⟩ :: R.map (mvT (s.size + 2))))) = LR.ok (brT ts (s.size + 2) (R.map (mvT (s.size + 2))))
  have e5 : mvT (s.size + 2) ⟨4, [41], 0, 0, 1⟩ = (⟨4, [41], 0, s.size + 2, s.size + 2 + 1⟩ : Tk) := by
    unfold mvT
    simp only [Nat.zero_add, Tk.mk.injEq, true_and]
    omega
  rw [e5]
  rfl
theorem term_off {T : List Tk} {fac : PS → PS} {f : Nat} {p : PS} (h : p.is T 4 [42] = false) : termLoop T fac f p = p := by
  cases f with
  | zero => rfl
  | succ f => unfold termLoop; rw [h, if_neg (by decide)]
theorem expr_off {T : List Tk} {fac : PS → PS} {f : Nat} {p : PS} (h : p.is T 4 [43] = false) (h2 : p.is T 4 [45] = false) : exprLoop T fac f p = p := by
  cases f with
  | zero => rfl
  | succ f => unfold exprLoop; rw [h, h2, if_neg (by decide)]
theorem is_off {T : List Tk} {p : PS} {k : Nat} {s : List UInt8} (h : ((p.tok T).k == k && (p.tok T).t == s) = false) : p.is T k s = false := by unfold PS.is; rw [Bool.and_assoc, h, Bool.and_false]
/-- in brackets -/
theorem val_br {s r : ByteArray} (h : (valS s).err = 0) (hr : ls r = 40 :: (ls s ++ [10, 41])) (hz : r.size ≤ 1048576) :
    ((valS r).err = 0 ∧ Rel2 (Nr fun a a' => a' = a + 1) (valS s).nds (valS r).nds) ∨ ((valS r).err = 91 ∧ (valS r).nds = [] ∧ ∃ T, lexL (ls s) 0 = .ok T ∧ 99 ≤ cnt T T.length) := by
  obtain ⟨T, hL, _, h0, hv⟩ := val_ok h
  obtain ⟨ts, e1, e2⟩ := lex_br hL (w := []) (R := [endTk 1]) (by decide +kernel)
  rw [← hr] at e2
  have hE := lex_ends _ _ _ (Nat.le_refl _) hL
  subst e1
  obtain ⟨u, g1, g2⟩ := br_run (n := s.size + 2) (R := [endTk 1].map (mvT (s.size + 2))) hE h0
  have hV : valS r = if ((PS.zero.value (brT ts (s.size + 2) ([endTk 1].map (mvT (s.size + 2))))).end_ (brT ts (s.size + 2) ([endTk 1].map (mvT (s.size + 2))))).flt ≠ 0 then .bad ((PS.zero.value (brT ts (s.size + 2) ([endTk 1].map (mvT (s.size + 2))))).end_ (brT ts (s.size + 2) ([endTk 1].map (mvT (s.size + 2))))).plc ((PS.zero.value (brT ts (s.size + 2) ([endTk 1].map (mvT (s.size + 2))))).end_ (brT ts (s.size + 2) ([endTk 1].map (mvT (s.size + 2))))).flt else .ok (PS.zero.value (brT ts (s.size + 2) ([endTk 1].map (mvT (s.size + 2))))).nds := by
    conv => lhs; unfold valS lexS
    rw [if_neg (by omega), e2]
  obtain ⟨B, hB⟩ : ∃ B, brT ts (s.size + 2) ([endTk 1].map (mvT (s.size + 2))) = B := ⟨_, rfl⟩
  rcases g2 with ⟨u1, u2, u3⟩ | ⟨u1, u2⟩
  · left
    have ht : (u.tok B).k = 0 := by
      unfold PS.tok
      rw [← hB, u2]
      unfold brT
      rw [List.getElem?_cons_succ, List.getElem?_append_right (by rw [List.length_map]; omega), List.length_map, show ts.length + 1 - ts.length = 1 by omega]
      rfl
    rw [hB] at g1 hV
    have io : ∀ c, u.is B 4 [c] = false := fun c => is_off (by rw [ht]; rfl)
    rw [term_off (io _), expr_off (io _) (io _)] at g1
    have hen : u.end_ B = u := by unfold PS.end_; rw [if_neg (fun z => z.2 ht)]
    rw [g1, hen, if_neg (fun z => z u1)] at hV
    rw [hV, hv]
    exact ⟨rfl, u3⟩
  · right
    rw [hB] at g1 hV
    have un : u.flt ≠ 0 := by rw [u1]; decide
    rw [termLoop_stuck un, exprLoop_stuck un] at g1
    have hen : u.end_ B = u := by unfold PS.end_; rw [if_neg (fun z => un z.1)]
    rw [g1, hen, if_pos un] at hV
    rw [hV]
    exact ⟨u1, rfl, _, hL, u2⟩
def plusR (n : Nat) : List Tk := [⟨4, [43], 0, 1 + n, 2 + n⟩, ⟨2, [], 1, 2 + n, 3 + n⟩, endTk (3 + n)]
/-- in brackets, and added to -/
theorem val_br1 {s r : ByteArray} (h : (valS s).err = 0) (hr : ls r = 40 :: (ls s ++ [10, 41, 43, 49])) (hz : r.size ≤ 1048576) :
    ((valS r).err = 0 ∧ ∃ m, Rel2 (Nr fun a a' => a' = a + 1) (valS s).nds m ∧ (valS r).nds = m ++ [⟨1, 0, 1, [], s.size + 4⟩, ⟨6, 0, 0, [], s.size + 3⟩]) ∨ ((valS r).err = 91 ∧ (valS r).nds = []) := by
  obtain ⟨T, hL, _, h0, hv⟩ := val_ok h
  obtain ⟨ts, e1, e2⟩ := lex_br hL (w := [43, 49]) (R := [⟨4, [43], 0, 1, 2⟩, ⟨2, [], 1, 2, 3⟩, endTk 3]) (by decide +kernel)
  rw [← hr] at e2
  have hE := lex_ends _ _ _ (Nat.le_refl _) hL
  subst e1
  obtain ⟨R, hR⟩ : ∃ R : List Tk, ([⟨4, [43], 0, 1, 2⟩, ⟨2, [], 1, 2, 3⟩, endTk 3] : List Tk).map (mvT (s.size + 2)) = R := ⟨_, rfl⟩
  rw [hR] at e2
  replace hR : R = plusR (s.size + 2) := by
    rw [← hR]
    unfold plusR endTk mvT
    rfl
  obtain ⟨u, g1, g2⟩ := br_run (n := s.size + 2) (R := R) hE h0
  obtain ⟨B, hB⟩ : ∃ B, brT ts (s.size + 2) R = B := ⟨_, rfl⟩
  rw [hB] at e2 g1
  have hV : valS r = if ((PS.zero.value B).end_ B).flt ≠ 0 then .bad ((PS.zero.value B).end_ B).plc ((PS.zero.value B).end_ B).flt else .ok (PS.zero.value B).nds := by
    conv => lhs; unfold valS lexS
    rw [if_neg (by omega), e2]
  have stuck : ∀ {u : PS} {f f' : Nat}, PS.zero.value B = exprLoop B (factorF B (B.length + 1)) f (termLoop B (factorF B (B.length + 1)) f' u) → u.flt = 91 → (valS r).err = 91 ∧ (valS r).nds = [] := fun {u f f'} g1 u1 => by
    have un : u.flt ≠ 0 := by rw [u1]; decide
    rw [termLoop_stuck un, exprLoop_stuck un] at g1
    have hen : u.end_ B = u := by unfold PS.end_; rw [if_neg (fun z => un z.1)]
    rw [g1, hen, if_pos un] at hV
    rw [hV]
    exact ⟨u1, rfl⟩
  rcases g2 with ⟨u1, u2, u3⟩ | ⟨u1, _⟩
  · have hat : ∀ (p : PS) (i : Nat) (x : Tk), p.i = ts.length + 2 + i → R[i]? = some x → p.tok B = x := fun p i x hi hx => by
      unfold PS.tok
      rw [← hB, hi]
      unfold brT
      rw [show ts.length + 2 + i = ts.length + 1 + i + 1 by omega, List.getElem?_cons_succ, List.getElem?_append_right (by rw [List.length_map]; omega), List.length_map, show ts.length + 1 + i - ts.length = i + 1 by omega, List.getElem?_cons_succ, hx]
      rfl
    have t0 : u.tok B = ⟨4, [43], 0, 1 + (s.size + 2), 2 + (s.size + 2)⟩ := hat u 0 _ u2 (by rw [hR]; rfl)
    have t1 : u.next.tok B = ⟨2, [], 1, 2 + (s.size + 2), 3 + (s.size + 2)⟩ := hat u.next 1 _ (by show u.i + 1 = _; omega) (by rw [hR]; rfl)
    have i0 : u.is B 4 [42] = false := is_off (by rw [t0]; rfl)
    have i1 : u.is B 4 [43] = true := by unfold PS.is; rw [t0, u1]; rfl
    rw [term_off i0] at g1
    have hf : factorF B (B.length + 1) u.next = { u.next.next with dps := u.dps ++ [1], nds := u.nds ++ [⟨1, 0, 1, [], 2 + (s.size + 2)⟩] } := by
      show factorW B (factorF B B.length) u.next = _
      unfold factorW
      dsimp only
      rw [if_neg (show ¬ u.next.flt ≠ 0 from fun z => z u1), t1, if_pos rfl, emit_at (show u.next.next.flt = 0 from u1)]
      show (if 100 < (u.dps.drop (u.dps.length - 0)).foldl max 0 + 1 then _ else _) = _
      rw [Nat.sub_zero, List.drop_length, if_neg (by decide)]
      show ({ u.next.next with dps := u.dps.take (u.dps.length - 0) ++ [(u.dps.drop (u.dps.length - 0)).foldl max 0 + 1], nds := u.nds ++ [⟨1, 0, 1, [], 2 + (s.size + 2)⟩] } : PS) = _
      rw [Nat.sub_zero, List.drop_length, List.take_length]
      rfl
    obtain ⟨v, hv1⟩ : ∃ v : PS, ({ u.next.next with dps := u.dps ++ [1], nds := u.nds ++ [⟨1, 0, 1, [], 2 + (s.size + 2)⟩] } : PS) = v := ⟨_, rfl⟩
    rw [hv1] at hf
    have v1 : v.flt = 0 := by rw [← hv1]; exact u1
    have v2 : v.i = ts.length + 2 + 2 := by rw [← hv1]; show u.i + 1 + 1 = _; omega
    have v3 : v.nds = u.nds ++ [⟨1, 0, 1, [], 2 + (s.size + 2)⟩] := by rw [← hv1]
    have tv : ∀ p : PS, p.i = v.i → (p.tok B).k = 0 := fun p hp => by
      rw [hat p 2 _ (hp.trans v2) (by rw [hR]; rfl)]
      rfl
    have iv : ∀ p : PS, p.i = v.i → ∀ c, p.is B 4 [c] = false := fun p hp c => is_off (by rw [tv p hp]; rfl)
    have ht : termW B (factorF B (B.length + 1)) u.next = v := by
      unfold termW
      rw [hf, term_off (iv v rfl _)]
    have hx : exprLoop B (factorF B (B.length + 1)) (B.length + 1) u = exprLoop B (factorF B (B.length + 1)) B.length (v.emit ⟨6, 0, 0, [], 1 + (s.size + 2)⟩ 2) := by
      conv => lhs; unfold exprLoop
      rw [i1, t0, ht]
      rfl
    rw [hx] at g1
    rw [emit_at v1] at g1
    by_cases q : 100 < (v.dps.drop (v.dps.length - 2)).foldl max 0 + 1
    · rw [if_pos q] at g1
      right
      refine stuck (u := v.fail (1 + (s.size + 2)) 91) (f := B.length) (f' := 0) g1 ?_
      unfold PS.fail
      rw [if_pos v1]
    · rw [if_neg q] at g1
      left
      obtain ⟨y, hy⟩ : ∃ y : PS, ({ v with dps := v.dps.take (v.dps.length - 2) ++ [(v.dps.drop (v.dps.length - 2)).foldl max 0 + 1], nds := v.nds ++ [⟨6, 0, 0, [], 1 + (s.size + 2)⟩] } : PS) = y := ⟨_, rfl⟩
      rw [hy] at g1
      have y0 : y.flt = 0 := by rw [← hy]; exact v1
      have y1 : y.i = v.i := by rw [← hy]
      have y2 : y.nds = v.nds ++ [⟨6, 0, 0, [], 1 + (s.size + 2)⟩] := by rw [← hy]
      rw [expr_off (iv y y1 _) (iv y y1 _)] at g1
      have hen : y.end_ B = y := by unfold PS.end_; rw [if_neg (fun z => z.2 (tv y y1))]
      rw [g1, hen, if_neg (fun z => z y0)] at hV
      rw [hV, hv]
      refine ⟨rfl, u.nds, u3, ?_⟩
      show y.nds = _
      rw [y2, v3, List.append_assoc, show 2 + (s.size + 2) = s.size + 4 by omega, show 1 + (s.size + 2) = s.size + 3 by omega]
      rfl
  · exact .inr (stuck g1 u1)
end Go.Proofs.YtbngelinfpaefaaGreatDoor
