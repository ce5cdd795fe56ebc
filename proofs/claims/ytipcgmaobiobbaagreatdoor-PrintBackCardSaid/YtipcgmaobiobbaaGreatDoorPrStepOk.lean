/- The walk of the code: whether a raw step is one (gen_isstep.py). -/
import Derived.Test.YtipcgmaobiobbaaGreatDoorPrOk
namespace Go.Proofs.YtipcgmaobiobbaaGreatDoor
open Go.RowKit

theorem pnames_new (W : World) (l : List (List UInt8)) (n : Nat) (hn : l.length = n) (hs : ∀ x ∈ l, x.length ≤ 140737488355328) (hl : n ≤ 100) (cs : Array Value) (hcs : (l.map fun x => Value.string (str x)).toArray = cs) :
    Calls Tryz.prog 41 #[.slice (some ⟨W.heap.size, 0, none⟩) n n] (W.alloc (.cells cs 9)) fun e w' => e = .returned (.bool (l.all nmB)) ∧ Below W.heap.size W w' := by
  subst hn
  have hb : Below W.heap.size W (W.alloc (.cells cs 9)) := (Below.refl _ W).alloc (Nat.le_refl _) _
  refine (pnames_any (l := l) (b := W.heap.size) (by unfold TxRow; rw [hcs]; exact CB.new W _ _) (fun x hx => by have := hs x hx; omega) hl rfl).mono ?_
  rintro e w' ⟨rfl, h⟩
  exact ⟨rfl, hb.trans (h.mono hb.size)⟩
theorem pempty_new (W : World) (l : List (List UInt8)) (n : Nat) (hn : l.length = n) (hl : n ≤ 100) (cs : Array Value) (hcs : (l.map fun x => Value.string (str x)).toArray = cs) :
    Calls Tryz.prog 76 #[.slice (some ⟨W.heap.size, 0, none⟩) n n] (W.alloc (.cells cs 9)) fun e w' => e = .returned (.bool (l.all emB)) ∧ Below W.heap.size W w' := by
  subst hn
  have hb : Below W.heap.size W (W.alloc (.cells cs 9)) := (Below.refl _ W).alloc (Nat.le_refl _) _
  refine (pempty_any (l := l) (b := W.heap.size) (by unfold TxRow; rw [hcs]; exact CB.new W _ _) hl rfl).mono ?_
  rintro e w' ⟨rfl, rfl⟩
  exact ⟨rfl, hb⟩
/-- a step's copy in a block, and what stood before -/
structure Sc (w : World) (m : Ms) (W : World) : Prop where
  cb : CB W w.heap.size 42 m.C
  bl : Below w.heap.size w W
theorem Sc.next {w W W' : World} {m : Ms} (h : Sc w m W) (hb : Below W.heap.size W W') : Sc w m W' := ⟨h.cb.below hb, h.bl.trans (hb.mono h.bl.size)⟩
theorem Sc.cells {w W : World} {m : Ms} (h : Sc w m W) {k : Int} (hk : m.s.kind = k) {n : Nat} (hn : m.s.v.length = n) : W.cell? ⟨w.heap.size, 0, none⟩ = some (.int .i64 k) ∧ W.cell? ⟨w.heap.size, 1, none⟩ = some (.string (str m.s.a)) ∧ W.cell? ⟨w.heap.size, 2, none⟩ = some (.string (str m.s.b)) ∧ W.cell? ⟨w.heap.size, 3, none⟩ = some (.string (str m.s.c)) ∧
    W.cell? ⟨w.heap.size, 4, none⟩ = some (.string (str m.s.sep)) ∧ W.cell? ⟨w.heap.size, 5, none⟩ = some (.string (str m.s.ty)) ∧ W.cell? ⟨w.heap.size, 6, none⟩ = some (.slice m.A n m.c) ∧ W.cell? ⟨w.heap.size, 7, none⟩ = some (.int .i64 m.s.p) := by
  subst hk hn
  exact ⟨h.cb.at_ 0, h.cb.at_ 1, h.cb.at_ 2, h.cb.at_ 3, h.cb.at_ 4, h.cb.at_ 5, h.cb.at_ 6, h.cb.at_ 7⟩

set_option maxHeartbeats 8000000 in
set_option maxRecDepth 100000 in
theorem pisstep_any {w : World} {B : Nat} {m : Ms} (h : MsAt w B m) (hB : B ≤ w.heap.size) :
    Calls Tryz.prog 42 #[.agg m.C] w fun e w' => e = .returned (.bool (okS m.s)) ∧ Below w.heap.size w w' := by
  obtain ⟨bb, hbb0⟩ : ∃ bb, okS m.s = bb := ⟨_, rfl⟩
  rw [hbb0]
  have HBB := Lib.hid hbb0
  clear hbb0
  obtain ⟨w1, hw1⟩ : ∃ w1, w.alloc (.cells m.C 42) = w1 := ⟨_, rfl⟩
  have s1 : Sc w m w1 := by
    rw [← hw1]
    exact ⟨CB.new w _ _, (Below.refl _ w).alloc (Nat.le_refl _) _⟩
  have IX : Hid (∀ W, Sc w m W → Calls Tryz.prog 21 #[.slice m.A m.s.v.length m.c] W fun e w' => e = .returned (.bool (exprP m.s.v).isSome) ∧ Hid (Sc w m w')) := fun W hW => by
    have hb := hW.bl
    refine (pisexpr_any (c := m.c) ((h.rn.below (hb.mono hB)).more (Nat.le_trans hB hb.size)) (by have := h.lt.few.few; omega) h.lt.few.n).mono ?_
    rintro e w' ⟨rfl, h2⟩
    exact ⟨rfl, hW.next h2⟩
  have NA : Hid (∀ W, Sc w m W → Calls Tryz.prog 41 #[.slice (some ⟨W.heap.size, 0, none⟩) 2 2] (W.alloc (.cells #[.string (str m.s.a), .string (str m.s.ty)] 9)) fun e w' => e = .returned (.bool ([m.s.a, m.s.ty].all nmB)) ∧ Hid (Sc w m w')) := fun W hW => by
    refine (pnames_new W [m.s.a, m.s.ty] 2 rfl ?_ (by decide) _ rfl).mono ?_
    · intro x hx
      simp only [List.mem_cons, List.not_mem_nil, or_false] at hx
      rcases hx with rfl | rfl <;> first | exact h.lt.a | exact h.lt.b | exact h.lt.c | exact h.lt.ty
    · rintro e w' ⟨rfl, h2⟩
      exact ⟨rfl, hW.next h2⟩
  have EA : Hid (∀ W, Sc w m W → Calls Tryz.prog 76 #[.slice (some ⟨W.heap.size, 0, none⟩) 3 3] (W.alloc (.cells #[.string (str m.s.b), .string (str m.s.c), .string (str m.s.sep)] 9)) fun e w' => e = .returned (.bool ([m.s.b, m.s.c, m.s.sep].all emB)) ∧ Hid (Sc w m w')) := fun W hW => by
    refine (pempty_new W [m.s.b, m.s.c, m.s.sep] 3 rfl (by decide) _ rfl).mono ?_
    rintro e w' ⟨rfl, h2⟩
    exact ⟨rfl, hW.next h2⟩
  have NB : Hid (∀ W, Sc w m W → Calls Tryz.prog 41 #[.slice (some ⟨W.heap.size, 0, none⟩) 2 2] (W.alloc (.cells #[.string (str m.s.a), .string (str m.s.b)] 9)) fun e w' => e = .returned (.bool ([m.s.a, m.s.b].all nmB)) ∧ Hid (Sc w m w')) := fun W hW => by
    refine (pnames_new W [m.s.a, m.s.b] 2 rfl ?_ (by decide) _ rfl).mono ?_
    · intro x hx
      simp only [List.mem_cons, List.not_mem_nil, or_false] at hx
      rcases hx with rfl | rfl <;> first | exact h.lt.a | exact h.lt.b | exact h.lt.c | exact h.lt.ty
    · rintro e w' ⟨rfl, h2⟩
      exact ⟨rfl, hW.next h2⟩
  have EB : Hid (∀ W, Sc w m W → Calls Tryz.prog 76 #[.slice (some ⟨W.heap.size, 0, none⟩) 3 3] (W.alloc (.cells #[.string (str m.s.c), .string (str m.s.sep), .string (str m.s.ty)] 9)) fun e w' => e = .returned (.bool ([m.s.c, m.s.sep, m.s.ty].all emB)) ∧ Hid (Sc w m w')) := fun W hW => by
    refine (pempty_new W [m.s.c, m.s.sep, m.s.ty] 3 rfl (by decide) _ rfl).mono ?_
    rintro e w' ⟨rfl, h2⟩
    exact ⟨rfl, hW.next h2⟩
  have NC : Hid (∀ W, Sc w m W → Calls Tryz.prog 41 #[.slice (some ⟨W.heap.size, 0, none⟩) 3 3] (W.alloc (.cells #[.string (str m.s.a), .string (str m.s.b), .string (str m.s.c)] 9)) fun e w' => e = .returned (.bool ([m.s.a, m.s.b, m.s.c].all nmB)) ∧ Hid (Sc w m w')) := fun W hW => by
    refine (pnames_new W [m.s.a, m.s.b, m.s.c] 3 rfl ?_ (by decide) _ rfl).mono ?_
    · intro x hx
      simp only [List.mem_cons, List.not_mem_nil, or_false] at hx
      rcases hx with rfl | rfl | rfl <;> first | exact h.lt.a | exact h.lt.b | exact h.lt.c | exact h.lt.ty
    · rintro e w' ⟨rfl, h2⟩
      exact ⟨rfl, hW.next h2⟩
  have EC : Hid (∀ W, Sc w m W → Calls Tryz.prog 76 #[.slice (some ⟨W.heap.size, 0, none⟩) 1 1] (W.alloc (.cells #[.string (str m.s.ty)] 9)) fun e w' => e = .returned (.bool ([m.s.ty].all emB)) ∧ Hid (Sc w m w')) := fun W hW => by
    refine (pempty_new W [m.s.ty] 1 rfl (by decide) _ rfl).mono ?_
    rintro e w' ⟨rfl, h2⟩
    exact ⟨rfl, hW.next h2⟩
  have ND : Hid (∀ W, Sc w m W → Calls Tryz.prog 41 #[.slice (some ⟨W.heap.size, 0, none⟩) 1 1] (W.alloc (.cells #[.string (str m.s.a)] 9)) fun e w' => e = .returned (.bool ([m.s.a].all nmB)) ∧ Hid (Sc w m w')) := fun W hW => by
    refine (pnames_new W [m.s.a] 1 rfl ?_ (by decide) _ rfl).mono ?_
    · intro x hx
      simp only [List.mem_cons, List.not_mem_nil, or_false] at hx
      rcases hx with rfl <;> first | exact h.lt.a | exact h.lt.b | exact h.lt.c | exact h.lt.ty
    · rintro e w' ⟨rfl, h2⟩
      exact ⟨rfl, hW.next h2⟩
  have ED : Hid (∀ W, Sc w m W → Calls Tryz.prog 76 #[.slice (some ⟨W.heap.size, 0, none⟩) 4 4] (W.alloc (.cells #[.string (str m.s.b), .string (str m.s.c), .string (str m.s.sep), .string (str m.s.ty)] 9)) fun e w' => e = .returned (.bool ([m.s.b, m.s.c, m.s.sep, m.s.ty].all emB)) ∧ Hid (Sc w m w')) := fun W hW => by
    refine (pempty_new W [m.s.b, m.s.c, m.s.sep, m.s.ty] 4 rfl (by decide) _ rfl).mono ?_
    rintro e w' ⟨rfl, h2⟩
    exact ⟨rfl, hW.next h2⟩
  obtain ⟨n, hn⟩ : ∃ n, m.s.v.length = n := ⟨_, rfl⟩
  have S1 := Lib.hid s1
  have HN := Lib.hid hn
  clear s1 h
  rw [hn] at IX
  have q0 : Hid (okS m.s = ((decide (m.s.v = []) || (decide (m.s.kind = 1) && (exprP m.s.v).isSome)) &&
  (if m.s.kind = 1 ∨ m.s.kind = 5 then [m.s.a, m.s.ty].all nmB && [m.s.b, m.s.c, m.s.sep].all emB
   else if m.s.kind = 2 then [m.s.a, m.s.b].all nmB && [m.s.c, m.s.sep, m.s.ty].all emB
   else if m.s.kind = 3 ∨ m.s.kind = 4 then [m.s.a, m.s.b, m.s.c].all nmB && [m.s.ty].all emB
   else if m.s.kind = 6 then [m.s.a].all nmB && [m.s.b, m.s.c, m.s.sep, m.s.ty].all emB
   else false))) := rfl
  by_cases hv : m.s.v = []
  · obtain rfl : n = 0 := by rw [← HN.out, hv]; rfl
    by_cases hk : m.s.kind = 1
    · obtain ⟨z0, z1, z2, z3, z4, z5, z6, z7⟩ := S1.out.cells hk HN.out
      go_enter Tryz.func42, Tryz.ntmps42
      obtain ⟨nb, hnb⟩ : ∃ nb, [m.s.a, m.s.ty].all nmB = nb := ⟨_, rfl⟩
      obtain ⟨eb, heb⟩ : ∃ eb, [m.s.b, m.s.c, m.s.sep].all emB = eb := ⟨_, rfl⟩
      rw [hnb] at NA
      rw [heb] at EA
      have q1 : bb = (nb && eb) := by rw [← HBB.out, q0.out, hk, hnb, heb]; simp [hv]
      cases nb with
      | false =>
        obtain rfl : bb = false := q1
        clear hnb heb hv
        go_wp2_with (go_at_call 41; refine (NA.out _ S1.out).mono ?_; rintro e w3 ⟨rfl, S3⟩)
        go_ret
        exact ⟨rfl, S3.out.bl⟩
      | true =>
        obtain rfl : bb = eb := q1
        clear hnb heb hv
        go_wp2_with (first
          | (go_at_call 41; refine (NA.out _ S1.out).mono ?_; rintro e w3 ⟨rfl, S3⟩; obtain ⟨y0, y1, y2, y3, y4, y5, y6, y7⟩ := S3.out.cells hk HN.out)
          | (go_at_call 76; refine (EA.out _ S3.out).mono ?_; rintro e w4 ⟨rfl, S4⟩))
        go_ret
        exact ⟨rfl, S4.out.bl⟩
    have h1 := hk
    clear hk
    by_cases hk : m.s.kind = 2
    · obtain ⟨z0, z1, z2, z3, z4, z5, z6, z7⟩ := S1.out.cells hk HN.out
      go_enter Tryz.func42, Tryz.ntmps42
      obtain ⟨nb, hnb⟩ : ∃ nb, [m.s.a, m.s.b].all nmB = nb := ⟨_, rfl⟩
      obtain ⟨eb, heb⟩ : ∃ eb, [m.s.c, m.s.sep, m.s.ty].all emB = eb := ⟨_, rfl⟩
      rw [hnb] at NB
      rw [heb] at EB
      have q1 : bb = (nb && eb) := by rw [← HBB.out, q0.out, hk, hnb, heb]; simp [hv]
      cases nb with
      | false =>
        obtain rfl : bb = false := q1
        clear hnb heb hv
        go_wp2_with (go_at_call 41; refine (NB.out _ S1.out).mono ?_; rintro e w3 ⟨rfl, S3⟩)
        go_ret
        exact ⟨rfl, S3.out.bl⟩
      | true =>
        obtain rfl : bb = eb := q1
        clear hnb heb hv
        go_wp2_with (first
          | (go_at_call 41; refine (NB.out _ S1.out).mono ?_; rintro e w3 ⟨rfl, S3⟩; obtain ⟨y0, y1, y2, y3, y4, y5, y6, y7⟩ := S3.out.cells hk HN.out)
          | (go_at_call 76; refine (EB.out _ S3.out).mono ?_; rintro e w4 ⟨rfl, S4⟩))
        go_ret
        exact ⟨rfl, S4.out.bl⟩
    have h2 := hk
    clear hk
    by_cases hk : m.s.kind = 3
    · obtain ⟨z0, z1, z2, z3, z4, z5, z6, z7⟩ := S1.out.cells hk HN.out
      go_enter Tryz.func42, Tryz.ntmps42
      obtain ⟨nb, hnb⟩ : ∃ nb, [m.s.a, m.s.b, m.s.c].all nmB = nb := ⟨_, rfl⟩
      obtain ⟨eb, heb⟩ : ∃ eb, [m.s.ty].all emB = eb := ⟨_, rfl⟩
      rw [hnb] at NC
      rw [heb] at EC
      have q1 : bb = (nb && eb) := by rw [← HBB.out, q0.out, hk, hnb, heb]; simp [hv]
      cases nb with
      | false =>
        obtain rfl : bb = false := q1
        clear hnb heb hv
        go_wp2_with (go_at_call 41; refine (NC.out _ S1.out).mono ?_; rintro e w3 ⟨rfl, S3⟩)
        go_ret
        exact ⟨rfl, S3.out.bl⟩
      | true =>
        obtain rfl : bb = eb := q1
        clear hnb heb hv
        go_wp2_with (first
          | (go_at_call 41; refine (NC.out _ S1.out).mono ?_; rintro e w3 ⟨rfl, S3⟩; obtain ⟨y0, y1, y2, y3, y4, y5, y6, y7⟩ := S3.out.cells hk HN.out)
          | (go_at_call 76; refine (EC.out _ S3.out).mono ?_; rintro e w4 ⟨rfl, S4⟩))
        go_ret
        exact ⟨rfl, S4.out.bl⟩
    have h3 := hk
    clear hk
    by_cases hk : m.s.kind = 4
    · obtain ⟨z0, z1, z2, z3, z4, z5, z6, z7⟩ := S1.out.cells hk HN.out
      go_enter Tryz.func42, Tryz.ntmps42
      obtain ⟨nb, hnb⟩ : ∃ nb, [m.s.a, m.s.b, m.s.c].all nmB = nb := ⟨_, rfl⟩
      obtain ⟨eb, heb⟩ : ∃ eb, [m.s.ty].all emB = eb := ⟨_, rfl⟩
      rw [hnb] at NC
      rw [heb] at EC
      have q1 : bb = (nb && eb) := by rw [← HBB.out, q0.out, hk, hnb, heb]; simp [hv]
      cases nb with
      | false =>
        obtain rfl : bb = false := q1
        clear hnb heb hv
        go_wp2_with (go_at_call 41; refine (NC.out _ S1.out).mono ?_; rintro e w3 ⟨rfl, S3⟩)
        go_ret
        exact ⟨rfl, S3.out.bl⟩
      | true =>
        obtain rfl : bb = eb := q1
        clear hnb heb hv
        go_wp2_with (first
          | (go_at_call 41; refine (NC.out _ S1.out).mono ?_; rintro e w3 ⟨rfl, S3⟩; obtain ⟨y0, y1, y2, y3, y4, y5, y6, y7⟩ := S3.out.cells hk HN.out)
          | (go_at_call 76; refine (EC.out _ S3.out).mono ?_; rintro e w4 ⟨rfl, S4⟩))
        go_ret
        exact ⟨rfl, S4.out.bl⟩
    have h4 := hk
    clear hk
    by_cases hk : m.s.kind = 5
    · obtain ⟨z0, z1, z2, z3, z4, z5, z6, z7⟩ := S1.out.cells hk HN.out
      go_enter Tryz.func42, Tryz.ntmps42
      obtain ⟨nb, hnb⟩ : ∃ nb, [m.s.a, m.s.ty].all nmB = nb := ⟨_, rfl⟩
      obtain ⟨eb, heb⟩ : ∃ eb, [m.s.b, m.s.c, m.s.sep].all emB = eb := ⟨_, rfl⟩
      rw [hnb] at NA
      rw [heb] at EA
      have q1 : bb = (nb && eb) := by rw [← HBB.out, q0.out, hk, hnb, heb]; simp [hv]
      cases nb with
      | false =>
        obtain rfl : bb = false := q1
        clear hnb heb hv
        go_wp2_with (go_at_call 41; refine (NA.out _ S1.out).mono ?_; rintro e w3 ⟨rfl, S3⟩)
        go_ret
        exact ⟨rfl, S3.out.bl⟩
      | true =>
        obtain rfl : bb = eb := q1
        clear hnb heb hv
        go_wp2_with (first
          | (go_at_call 41; refine (NA.out _ S1.out).mono ?_; rintro e w3 ⟨rfl, S3⟩; obtain ⟨y0, y1, y2, y3, y4, y5, y6, y7⟩ := S3.out.cells hk HN.out)
          | (go_at_call 76; refine (EA.out _ S3.out).mono ?_; rintro e w4 ⟨rfl, S4⟩))
        go_ret
        exact ⟨rfl, S4.out.bl⟩
    have h5 := hk
    clear hk
    by_cases hk : m.s.kind = 6
    · obtain ⟨z0, z1, z2, z3, z4, z5, z6, z7⟩ := S1.out.cells hk HN.out
      go_enter Tryz.func42, Tryz.ntmps42
      obtain ⟨nb, hnb⟩ : ∃ nb, [m.s.a].all nmB = nb := ⟨_, rfl⟩
      obtain ⟨eb, heb⟩ : ∃ eb, [m.s.b, m.s.c, m.s.sep, m.s.ty].all emB = eb := ⟨_, rfl⟩
      rw [hnb] at ND
      rw [heb] at ED
      have q1 : bb = (nb && eb) := by rw [← HBB.out, q0.out, hk, hnb, heb]; simp [hv]
      cases nb with
      | false =>
        obtain rfl : bb = false := q1
        clear hnb heb hv
        go_wp2_with (go_at_call 41; refine (ND.out _ S1.out).mono ?_; rintro e w3 ⟨rfl, S3⟩)
        go_ret
        exact ⟨rfl, S3.out.bl⟩
      | true =>
        obtain rfl : bb = eb := q1
        clear hnb heb hv
        go_wp2_with (first
          | (go_at_call 41; refine (ND.out _ S1.out).mono ?_; rintro e w3 ⟨rfl, S3⟩; obtain ⟨y0, y1, y2, y3, y4, y5, y6, y7⟩ := S3.out.cells hk HN.out)
          | (go_at_call 76; refine (ED.out _ S3.out).mono ?_; rintro e w4 ⟨rfl, S4⟩))
        go_ret
        exact ⟨rfl, S4.out.bl⟩
    have h6 := hk
    clear hk
    obtain ⟨kd, hk⟩ : ∃ kd, m.s.kind = kd := ⟨_, rfl⟩
    rw [hk] at h1 h2 h3 h4 h5 h6
    have q1 : bb = false := by rw [← HBB.out, q0.out, hk, if_neg (by omega), if_neg (by omega), if_neg (by omega), if_neg (by omega)]; simp
    subst q1
    obtain ⟨z0, z1, z2, z3, z4, z5, z6, z7⟩ := S1.out.cells hk HN.out
    have i1 : (kd == 1) = false := beq_eq_false_iff_ne.2 h1
    have i2 : (kd == 2) = false := beq_eq_false_iff_ne.2 h2
    have i3 : (kd == 3) = false := beq_eq_false_iff_ne.2 h3
    have i4 : (kd == 4) = false := beq_eq_false_iff_ne.2 h4
    have i5 : (kd == 5) = false := beq_eq_false_iff_ne.2 h5
    have i6 : (kd == 6) = false := beq_eq_false_iff_ne.2 h6
    clear hv hk h1 h2 h3 h4 h5 h6
    go_enter Tryz.func42, Tryz.ntmps42
    go_wp2
    go_ret
    exact ⟨rfl, S1.out.bl⟩
  · have hnp : (0 : Int) < (n : Int) := by
      have := List.length_pos_iff.2 hv
      rw [HN.out] at this
      omega
    by_cases hk : m.s.kind = 1
    · obtain ⟨z0, z1, z2, z3, z4, z5, z6, z7⟩ := S1.out.cells hk HN.out
      go_enter Tryz.func42, Tryz.ntmps42
      obtain ⟨ob, hob⟩ : ∃ ob, (exprP m.s.v).isSome = ob := ⟨_, rfl⟩
      rw [hob] at IX
      cases ob with
      | false =>
        have q1 : bb = false := by rw [← HBB.out, q0.out, hob]; simp [hv]
        subst q1
        clear hob hv
        go_wp2_with (go_at_call 21; refine (IX.out _ S1.out).mono ?_; rintro e w2 ⟨rfl, S2⟩)
        go_ret
        exact ⟨rfl, S2.out.bl⟩
      | true =>
        obtain ⟨nb, hnb⟩ : ∃ nb, [m.s.a, m.s.ty].all nmB = nb := ⟨_, rfl⟩
        obtain ⟨eb, heb⟩ : ∃ eb, [m.s.b, m.s.c, m.s.sep].all emB = eb := ⟨_, rfl⟩
        rw [hnb] at NA
        rw [heb] at EA
        have q1 : bb = (nb && eb) := by rw [← HBB.out, q0.out, hk, hnb, heb]; simp [hv, hob]
        cases nb with
        | false =>
          obtain rfl : bb = false := q1
          clear hnb heb hv
          go_wp2_with (first
            | (go_at_call 21; refine (IX.out _ S1.out).mono ?_; rintro e w2 ⟨rfl, S2⟩; obtain ⟨x0, x1, x2, x3, x4, x5, x6, x7⟩ := S2.out.cells hk HN.out)
            | (go_at_call 41; refine (NA.out _ S2.out).mono ?_; rintro e w3 ⟨rfl, S3⟩))
          go_ret
          exact ⟨rfl, S3.out.bl⟩
        | true =>
          obtain rfl : bb = eb := q1
          clear hnb heb hv
          go_wp2_with (first
            | (go_at_call 21; refine (IX.out _ S1.out).mono ?_; rintro e w2 ⟨rfl, S2⟩; obtain ⟨x0, x1, x2, x3, x4, x5, x6, x7⟩ := S2.out.cells hk HN.out)
            | (go_at_call 41; refine (NA.out _ S2.out).mono ?_; rintro e w3 ⟨rfl, S3⟩; obtain ⟨y0, y1, y2, y3, y4, y5, y6, y7⟩ := S3.out.cells hk HN.out)
            | (go_at_call 76; refine (EA.out _ S3.out).mono ?_; rintro e w4 ⟨rfl, S4⟩))
          go_ret
          exact ⟨rfl, S4.out.bl⟩
    · obtain ⟨kd, hk2⟩ : ∃ kd, m.s.kind = kd := ⟨_, rfl⟩
      rw [hk2] at hk
      have q1 : bb = false := by rw [← HBB.out, q0.out, hk2, decide_eq_false hv, decide_eq_false hk]; rfl
      subst q1
      obtain ⟨z0, z1, z2, z3, z4, z5, z6, z7⟩ := S1.out.cells hk2 HN.out
      have i1 : (kd != 1) = true := bne_iff_ne.2 hk
      clear hv hk hk2
      go_enter Tryz.func42, Tryz.ntmps42
      go_wp2
      go_ret
      exact ⟨rfl, S1.out.bl⟩
end Go.Proofs.YtipcgmaobiobbaaGreatDoor
