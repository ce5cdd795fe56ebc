/- The walk of TableGrows. -/
import Derived.Test.YtnflbnchkcigiaaDoorTabLaw1
import Derived.Test.YtnflbnchkcigiaaDoorCutR
import Derived.Test.YtnflbnchkcigiaaDoorStepApp
import Derived.RegionTactic
namespace Go.Proofs.YtnflbnchkcigiaaDoor
open Go.RowKit

theorem modN (t : Int) (L : Nat) (hL : L ≤ 140737488355328) : ∃ N : Nat, wrap64 ((IntKind.u64.wrap t).tmod ((L : Int) + 1)) = (N : Int) ∧ N ≤ L := by
  have h0 : 0 ≤ IntKind.u64.wrap t := by
    rw [IntKind.wrap_u64]
    omega
  have h1 : (IntKind.u64.wrap t).tmod ((L : Int) + 1) = (IntKind.u64.wrap t) % ((L : Int) + 1) := Int.tmod_eq_emod_of_nonneg h0
  have h2 := Int.emod_nonneg (IntKind.u64.wrap t) (show (L : Int) + 1 ≠ 0 by omega)
  have h3 := Int.emod_lt_of_pos (IntKind.u64.wrap t) (show 0 < (L : Int) + 1 by omega)
  refine ⟨((IntKind.u64.wrap t) % ((L : Int) + 1)).toNat, ?_, by omega⟩
  rw [h1]
  generalize (IntKind.u64.wrap t) % ((L : Int) + 1) = r at *
  unfold wrap64
  omega
theorem infoTy : (Tryd.prog.info? 48).map (fun i => (i.zero, i.size, i.bytes)) = some (some (.agg #[.string ⟨#[]⟩, .slice none 0 0]), 2, 40) := by kernel_rfl
theorem sizeTy : (Tryd.prog.info? 48).map (·.size) = some 2 := by kernel_rfl
theorem sizeVer : (Tryd.prog.info? 45).map (·.size) = some 2 := by kernel_rfl
theorem tmC_one (x : Tm) : ∀ u ∈ (tmC x).toList, u.oneCell' = true := by
  intro u hu
  simp only [tmC, List.mem_cons, List.not_mem_nil, or_false] at hu
  rcases hu with rfl | rfl <;> rfl
/-- the type with but K of its versions -/
def cutT (x : Tm) (K : Nat) : Tm := ⟨x.n, x.vs.take K, x.A, x.c⟩
theorem take_get {α : Type} {l : List α} {N k : Nat} {x : α} (h : (l.take N)[k]? = some x) : k < N ∧ l[k]? = some x := by
  rw [List.getElem?_take] at h
  split at h
  · exact ⟨by assumption, h⟩
  · cases h
theorem grow1 (l : List Tm) (N : Nat) : extH (l.take N) l = true := begL_iff.2 ⟨by rw [List.length_take]; omega, fun k x y hx hy => by
  obtain ⟨_, h⟩ := take_get hx
  rw [hy] at h
  cases h
  exact begT_self _⟩
theorem cutT_in (x : Tm) (K : Nat) : begT (cutT x K) x = true := begT_yes rfl (begL_iff.2 ⟨by show (x.vs.take K).length ≤ _; rw [List.length_take]; omega, fun k a b ha hb => by
  obtain ⟨_, h⟩ := take_get ha
  rw [hb] at h
  cases h
  exact sameV_self _⟩)
theorem cutT_all {x : Tm} {K : Nat} (h : ¬ K < x.vs.length) : begT x (cutT x K) = true := begT_yes rfl (by
  show begL sameV x.vs (x.vs.take K) = true
  rw [List.take_of_length_le (by omega)]
  exact begL_self sameV_self _)
theorem cutT_less {x : Tm} {K : Nat} (h : K < x.vs.length) : begT x (cutT x K) = false := begT_vs (begL_len (by show ¬ x.vs.length ≤ (x.vs.take K).length; rw [List.length_take]; omega))
/-- the types with but K versions of the last -/
def cutL (l : List Tm) (N K : Nat) (x : Tm) : List Tm := (l.take N).set (N - 1) (cutT x K)
theorem cutL_get {l : List Tm} {N K : Nat} {x : Tm} (hN : 0 < N) (_hx : l[N - 1]? = some x) {k : Nat} {y : Tm} (h : (cutL l N K x)[k]? = some y) : (k < N - 1 ∧ l[k]? = some y) ∨ (k = N - 1 ∧ y = cutT x K) := by
  unfold cutL at h
  rw [List.getElem?_set] at h
  split at h
  · rename_i e
    split at h
    · cases h
      exact .inr ⟨e.symm, rfl⟩
    · cases h
  · obtain ⟨h1, h2⟩ := take_get h
    exact .inl ⟨by omega, h2⟩
theorem cutL_len {l : List Tm} {N K : Nat} {x : Tm} (hN : N ≤ l.length) : (cutL l N K x).length = N := by unfold cutL; rw [List.length_set, List.length_take]; omega
theorem cutL_last {l : List Tm} {N K : Nat} {x : Tm} (h0 : 0 < N) (hN : N ≤ l.length) : (cutL l N K x)[N - 1]? = some (cutT x K) := by
  unfold cutL
  rw [List.getElem?_set_self (by rw [List.length_take]; omega)]
theorem cutL_up {l : List Tm} {N K : Nat} {x : Tm} (h0 : 0 < N) (hN : N ≤ l.length) (hx : l[N - 1]? = some x) {m : List Tm} (hm : ∀ k, k < N → m[k]? = l[k]?) (hl : N ≤ m.length) : extH (cutL l N K x) m = true := begL_iff.2 ⟨by rw [cutL_len hN]; exact hl, fun k a b ha hb => by
  rcases cutL_get h0 hx ha with ⟨h1, h2⟩ | ⟨h1, rfl⟩
  · rw [hm k (by omega), h2] at hb
    cases hb
    exact begT_self _
  · subst h1
    rw [hm _ (by omega), hx] at hb
    cases hb
    exact cutT_in _ _⟩
theorem take_at {l : List Tm} {N k : Nat} (h : k < N) : (l.take N)[k]? = l[k]? := by rw [List.getElem?_take, if_pos h]
theorem grow2 {l : List Tm} {N K : Nat} {x : Tm} (h0 : 0 < N) (hN : N ≤ l.length) (hx : l[N - 1]? = some x) : extH (cutL l N K x) (l.take N) = true := cutL_up h0 hN hx (fun k hk => take_at hk) (by rw [List.length_take]; omega)
theorem grow3 {l : List Tm} {N K : Nat} {x : Tm} (h0 : 0 < N) (hN : N ≤ l.length) (hx : l[N - 1]? = some x) : extH (cutL l N K x) l = true := cutL_up h0 hN hx (fun _ _ => rfl) hN
theorem grow4 {l : List Tm} {N : Nat} (hN : N ≤ l.length) : extH l (l.take N) = !decide (N < l.length) := by
  by_cases h : N < l.length
  · rw [decide_eq_true h]
    exact begL_len (by rw [List.length_take]; omega)
  · rw [decide_eq_false h, List.take_of_length_le (by omega)]
    exact extH_self l
theorem grow5 {l : List Tm} {N K : Nat} {x : Tm} (h0 : 0 < N) (hN : N ≤ l.length) (hx : l[N - 1]? = some x) {m : List Tm} (hm : ∀ k, k < N → m[k]? = l[k]?) (hl : m.length = N) : extH m (cutL l N K x) = !decide (K < x.vs.length) := by
  by_cases h : K < x.vs.length
  · rw [decide_eq_true h]
    exact begL_at (k := N - 1) (by rw [hm _ (by omega)]; exact hx) (cutL_last h0 hN) (cutT_less h)
  · rw [decide_eq_false h]
    refine begL_iff.2 ⟨by rw [cutL_len hN]; omega, fun k a b ha hb => ?_⟩
    rcases cutL_get h0 hx hb with ⟨h1, h2⟩ | ⟨h1, rfl⟩
    · rw [hm k (by omega), h2] at ha
      cases ha
      exact begT_self _
    · subst h1
      rw [hm _ (by omega), hx] at ha
      cases ha
      exact cutT_all h
theorem grow6 {l : List Tm} {N K : Nat} {x : Tm} (h0 : 0 < N) (hN : N ≤ l.length) (hx : l[N - 1]? = some x) : extH l (cutL l N K x) = (!decide (N < l.length) && !decide (K < x.vs.length)) := by
  by_cases h : N < l.length
  · rw [decide_eq_true h]
    exact begL_len (by rw [cutL_len hN]; omega)
  · rw [decide_eq_false h]
    exact grow5 h0 hN hx (fun _ _ => rfl) (by omega)

theorem flat_cut : ∀ (L : List Tm) (k : Nat) (x : Tm) (K : Nat), L[k]? = some x → (flatR tmC L).set (k * 2 + 1) (.slice x.A (x.vs.take K).length x.c) = flatR tmC (L.set k (cutT x K))
  | [], _, _, _, h => by simp at h
  | y :: r, 0, x, K, h => by
    rw [List.getElem?_cons_zero] at h
    cases h
    rfl
  | y :: r, k + 1, x, K, h => by
    rw [List.getElem?_cons_succ] at h
    rw [List.set_cons_succ, flatR_cons, flatR_cons, ← flat_cut r k x K h, show (k + 1) * 2 + 1 = k * 2 + 1 + 1 + 1 by omega]
    rfl
theorem OwnR.kept {α : Type} {f : α → Array Value} {s : Nat} {T : TypeId} {w w' : World} {B : Nat} {A : Option Addr} {c : Nat} {l : List α} {row : Option Nat} (h : OwnR f s T w B A c l) (hg : w.grownBy w' row) (hne : obk A = none ∨ obk A ≠ row) : OwnR f s T w' B A c l :=
  World.ownsRow.kept h hg (by rw [obk_own]; exact hne)
theorem OwnR.off {α : Type} {f : α → Array Value} {s : Nat} {T : TypeId} {w : World} {B : Nat} {A : Option Addr} {c : Nat} {l : List α} (h : OwnR f s T w B A c l) {g : Nat} (hg : g < B ∨ w.heap.size ≤ g) : obk A = none ∨ obk A ≠ some g := by
  cases hA : obk A with
  | none => exact .inl rfl
  | some q =>
    refine .inr fun e => ?_
    have h1 := h.blk hA
    have e2 := Option.some.inj e
    omega
/-- the last type's versions cut, in memory -/
theorem OwnR.cutAt {w : World} {B g N c K : Nat} {l : List Tm} {x : Tm} (h : OwnR tmC 2 48 w B (some ⟨g, 0, none⟩) c (l.take N)) (h0 : 0 < N) (_hN : N ≤ l.length) (hx : l[N - 1]? = some x) {o : Nat} (ho : o = (N - 1) * 2 + 1) {K' : Nat} (hK : K' = (x.vs.take K).length) :
    OwnR tmC 2 48 (w.setCell ⟨g, o, none⟩ (.slice x.A K' x.c)) B (some ⟨g, 0, none⟩) c (cutL l N K x) := by
  subst ho hK
  have h1 := (World.ownsRow.stored h ((N - 1) * 2 + 1) (.slice x.A (x.vs.take K).length x.c)).1
  rw [flat_cut _ _ _ _ ((take_at (by omega)).trans hx)] at h1
  unfold OwnR cutL
  rw [List.length_set]
  exact h1

/-- Extends in any later world -/
theorem ext_later {w : World} {A A' : Option Addr} {a b : List Tm} {c c' n m : Nat} {S : Bool} (ha : HsAt w w.heap.size A a) (hb : HsAt w w.heap.size A' b) (hc : m ≤ c') (hn : a.length = n) (hm : b.length = m) (hS : extH a b = S) :
    ∀ X, Below w.heap.size w X → Calls Tryd.prog 20 #[.agg #[.slice A n c], .agg #[.slice A' m c']] X fun e w' => e = .returned (.bool S) ∧ Below X.heap.size X w' := fun X q => by
  subst hn hm hS
  exact ext_any c c' (ha.then_ q) (hb.then_ q) hc
theorem taken_at {w : World} {B : Nat} {A A4 : Option Addr} {N : Nat} {l : List Tm} (h : HsAt w B A l) (hB : B ≤ w.heap.size) (ho : Rows tmC 2 w w.heap.size A4 (l.take N)) : HsAt w w.heap.size A4 (l.take N) :=
  ⟨ho, fun x hx => (h.each x (List.mem_of_mem_take hx)).more hB, by have := h.len; rw [List.length_take]; omega⟩
theorem cutL_at {w : World} {B : Nat} {A A4 : Option Addr} {N K : Nat} {x : Tm} {l : List Tm} (h : HsAt w B A l) (hB : B ≤ w.heap.size) (h0 : 0 < N) (hN : N ≤ l.length) (hx : l[N - 1]? = some x) (ho : Rows tmC 2 w w.heap.size A4 (cutL l N K x)) : HsAt w w.heap.size A4 (cutL l N K x) := by
  refine ⟨ho, fun y hy => ?_, by rw [cutL_len hN]; have := h.len; omega⟩
  obtain ⟨k, hk⟩ := List.mem_iff_getElem?.1 hy
  rcases cutL_get h0 hx hk with ⟨_, h2⟩ | ⟨_, rfl⟩
  · exact (h.each y (List.mem_of_getElem? h2)).more hB
  · have hx1 := (h.each x (List.mem_of_getElem? hx)).more hB
    refine ⟨hx1.row.take K, fun z hz => hx1.each z (List.mem_of_mem_take hz), ?_, ?_⟩
    · show (x.vs.take K).length ≤ _
      rw [List.length_take]
      have := hx1.len
      omega
    · show (x.vs.take K).length ≤ x.c
      rw [List.length_take]
      have := hx1.cap
      omega

set_option maxRecDepth 100000 in
set_option maxHeartbeats 4000000 in
theorem growslaw_any {w : World} (h : KSt w w) {A : Option Addr} {l : List Tm} (c : Nat) (t v : Int) (ha : HsAt w w.heap.size A l) (hcap : l.length ≤ c) (_ht : -9223372036854775808 ≤ t ∧ t ≤ 9223372036854775807) (_hv : -9223372036854775808 ≤ v ∧ v ≤ 9223372036854775807) :
    Calls Tryd.prog 9 #[.agg #[.slice A l.length c, .int .i64 t, .int .i64 v]] w (Yes w) := by
  have hB : Below w.heap.size w (w.alloc (.cells #[.slice A l.length c, .int .i64 t, .int .i64 v] 64)) := (Below.refl _ _).alloc (Nat.le_refl _) _
  have k := CB.new w 64 #[.slice A l.length c, .int .i64 t, .int .i64 v]
  have c1 := awake_any (h.then_ hB)
  have hln := ha.len
  go_enter Tryd.func9, Tryd.ntmps9
  go_wp2_with fail
  refine c1.mono ?_
  rintro e w1 ⟨rfl, hb1⟩
  have k1 := k.below hb1
  have k1lt := k1.len
  have hB1 : Below w.heap.size w w1 := Below.both hB hb1
  have HA := Lib.hid (ha.then_ hB1)
  have B1 := Lib.hid hB1
  have K1 := Lib.hid k1
  have p0 : w1.cell? ⟨w.heap.size, 0, none⟩ = some (.slice A l.length c) := k1.at_ 0
  have p1 : w1.cell? ⟨w.heap.size, 1, none⟩ = some (.int .i64 t) := k1.at_ 1
  clear c1 hb1 hB hB1 ha h k k1
  by_cases q1 : 4096 < l.length
  · have q1z : (4096 : Int) < (l.length : Int) := by omega
    have q1d : decide (4096 < l.length) = true := decide_eq_true q1
    go_wp2
    go_ret
    exact ⟨rfl, B1.out.alloc B1.out.size _⟩
  have q1z : ¬ (4096 : Int) < (l.length : Int) := by omega
  have q1d : decide (4096 < l.length) = false := decide_eq_false q1
  have hb2 : Below w1.heap.size w1 (w1.alloc (.cells #[.slice A l.length c] 24)) := (Below.refl _ _).alloc (Nat.le_refl _) _
  have k2 := K1.out.below hb2
  have h2 := CB.new w1 24 #[.slice A l.length c]
  have z2 : (w1.alloc (.cells #[.slice A l.length c] 24)).heap.size = w1.heap.size + 1 := by simp
  have HA2 := Lib.hid (HA.out.below hb2)
  have B2 := Lib.hid (B1.out.trans (hb2.mono B1.out.size))
  have p1' : (w1.alloc (.cells #[.slice A l.length c] 24)).cell? ⟨w.heap.size, 1, none⟩ = some (.int .i64 t) := k2.at_ 1
  have p3' : (w1.alloc (.cells #[.slice A l.length c] 24)).cell? ⟨w1.heap.size, 0, none⟩ = some (.slice A l.length c) := h2.at_ 0
  have K2 := Lib.hid (And.intro k2 h2)
  clear p1 hb2 k2 h2 HA B1 K1
  obtain ⟨b1, hb1⟩ : ∃ b, w1.heap.size = b := ⟨_, rfl⟩
  obtain ⟨N, hN, hNl⟩ := modN t l.length hln
  have HK2 := Lib.hid z2
  go_upto_region 7 with fail
  rw [hN]
  clear hN p0 p1' p3'
  generalize w1.alloc (.cells #[.slice A l.length c] 24) = w2 at *
  subst hb1
  -- the first append
  have b3 : Below w2.heap.size w2 (w2.alloc (.cells #[.slice none 0 0] 24)) := (Below.refl _ _).alloc (Nat.le_refl _) _
  have a3 := CB.new w2 24 #[.slice none 0 0]
  rw [z2] at a3
  have k3 := K2.out.1.below b3
  have h3 := K2.out.2.below b3
  have HA3 := Lib.hid (HA2.out.below (b3.mono (by omega)))
  have B3 := Lib.hid (B2.out.trans (b3.mono B2.out.size))
  have z3 : (w2.alloc (.cells #[.slice none 0 0] 24)).heap.size = w2.heap.size + 1 := by simp
  have hcut : ∀ W : World, (Instr.sliceAt 22 (.slice A l.length c) none (some (.int .i64 (N : Int))) none).run Tryd.prog W = .ok (.slice A N c) W := CR.run_h (P := Tryd.prog) (s := 2) Tryd.underlying22 sizeTy A l.length c N (by omega)
  clear b3 HA2 B2 K2
  go_wp2
  generalize w2.alloc (.cells #[.slice none 0 0] 24) = w3 at *
  have hd := Below.drew (Below.refl w3.heap.size w3)
  have hlt : (l.take N).length = N := by rw [List.length_take]; omega
  obtain ⟨A4, c4, w4, hr4, ho4, hg4, hat4, hb4⟩ := run_app_rows (P := Tryd.prog) (w := w3.drew) (B := w3.heap.size) (A := none) (c := 0) (l := []) (N := l.take N) (S := A) (cS := c) tmC_size tmC_one (by decide) Tryd.underlying22 infoTy rfl OwnR.nil ((HA3.out.row.take N).below (hd.mono (by omega))) (by rw [hlt]; simp; omega) (by rw [hlt]; simp; omega) (Nat.le_refl _)
  rw [hlt, List.nil_append, hlt] at hr4
  rw [List.nil_append] at ho4
  have bb4 : Below w3.heap.size w3 w4 := hd.trans hb4
  have a4 := a3.below bb4
  have k4 := k3.below bb4
  have h4 := h3.below bb4
  have d4 : w4.cell? ⟨w1.heap.size + 1, 0, none⟩ = some (.slice none 0 0) := a4.at_ 0
  have f4 := a4.frozen 0
  have e3 : w3.drew.cell? ⟨w1.heap.size + 1, 0, none⟩ = some (.slice none 0 0) := a3.at_ 0
  have e4 : w3.drew.cell? ⟨w1.heap.size, 0, none⟩ = some (.slice A l.length c) := h3.at_ 0
  have HRUN := Lib.hid hr4
  -- behind the store
  have s5 : Below w1.heap.size w4 (w4.setCell ⟨w1.heap.size + 1, 0, none⟩ (.slice A4 N c4)) := (Below.refl _ _).setCell (Nat.le_succ _) _
  have a5 : CB (w4.setCell ⟨w1.heap.size + 1, 0, none⟩ (.slice A4 N c4)) (w1.heap.size + 1) 24 #[.slice A4 N c4] := by
    have := heap_setCell_same w4 (w1.heap.size + 1) 0 _ _ (.slice A4 N c4) a4
    exact this
  have hw0 : w.heap.size < w1.heap.size := k1lt
  have k5 := k4.keep (Below.heap_setCell w4 ⟨w1.heap.size + 1, 0, none⟩ (.slice A4 N c4) w.heap.size (by simp; omega))
  have h5 := h4.keep (Below.heap_setCell w4 ⟨w1.heap.size + 1, 0, none⟩ (.slice A4 N c4) w1.heap.size (by simp))
  have o5 : OwnR tmC 2 48 (w4.setCell ⟨w1.heap.size + 1, 0, none⟩ (.slice A4 N c4)) w3.heap.size A4 c4 (l.take N) := ho4.kept ((Turned.refl (w1.heap.size + 1) w4).setCell 0 _).grown (ho4.off (.inl (by omega)))
  have B5 := Lib.hid (B3.out.trans ((bb4.mono (B3.out.size)).trans (s5.mono (by omega))))
  have HA5 := Lib.hid ((HA3.out.below (bb4.mono (by omega))).below s5)
  have H5 := Lib.hid (And.intro a5 (And.intro k5 (And.intro h5 o5)))
  have z5 : w1.heap.size + 1 < (w4.setCell ⟨w1.heap.size + 1, 0, none⟩ (.slice A4 N c4)).heap.size := a5.len
  clear hr4 ho4 hg4 hat4 hb4 bb4 a4 k4 h4 hd s5 a5 k5 h5 o5 a3 k3 h3 HA3 B3
  go_region_law (refine step_append_run rfl (.tmp 30) (.tmp 34) _ rfl rfl rfl HRUN.out ?_)
  all_goals
    clear d4 f4 e3 e4 HRUN hcut
    generalize w4.setCell ⟨w1.heap.size + 1, 0, none⟩ (.slice A4 N c4) = w5 at *
    -- the second append
    have hA4lt := fun q (e : obk A4 = some q) => (H5.out.2.2.2.blk e).2
    have b6 : Below w5.heap.size w5 (w5.alloc (.cells #[.slice none 0 0] 24)) := (Below.refl _ _).alloc (Nat.le_refl _) _
    have c6 := CB.new w5 24 #[.slice none 0 0]
    have a6 := H5.out.1.below b6
    have k6 := H5.out.2.1.below b6
    have h6 := H5.out.2.2.1.below b6
    have o6 := H5.out.2.2.2.then_ b6
    have z6 : (w5.alloc (.cells #[.slice none 0 0] 24)).heap.size = w5.heap.size + 1 := by simp
    have B6 := Lib.hid (B5.out.trans (b6.mono B5.out.size))
    have HA6 := Lib.hid (HA5.out.below (b6.mono (by omega)))
    obtain ⟨A7, c7, w7, hr7, ho7, hg7, hat7, hb7⟩ := run_app_rows (P := Tryd.prog) (w := w5.alloc (.cells #[.slice none 0 0] 24)) (B := w5.heap.size + 1) (A := none) (c := 0) (l := []) (N := l.take N) (S := A4) (cS := c4) tmC_size tmC_one (by decide) Tryd.underlying22 infoTy rfl OwnR.nil (OwnR.reads tmC_size o6) (by rw [hlt]; simp; omega) (by rw [hlt]; simp; omega) (by omega)
    rw [hlt, List.nil_append, hlt] at hr7
    rw [List.nil_append] at ho7
    have bb7 : Below (w5.heap.size + 1) (w5.alloc (.cells #[.slice none 0 0] 24)) w7 := hb7
    rw [← z6] at bb7
    have c7' := c6.below bb7
    have a7 := a6.below bb7
    have k7 := k6.below bb7
    have h7 := h6.below bb7
    have o7 := o6.then_ bb7
    have d7 : w7.cell? ⟨w5.heap.size, 0, none⟩ = some (.slice none 0 0) := c7'.at_ 0
    have f7 := c7'.frozen 0
    have e6 : (w5.alloc (.cells #[.slice none 0 0] 24)).cell? ⟨w5.heap.size, 0, none⟩ = some (.slice none 0 0) := c6.at_ 0
    have e6' : (w5.alloc (.cells #[.slice none 0 0] 24)).cell? ⟨w1.heap.size + 1, 0, none⟩ = some (.slice A4 N c4) := a6.at_ 0
    have s8 : Below w5.heap.size w7 (w7.setCell ⟨w5.heap.size, 0, none⟩ (.slice A7 N c7)) := (Below.refl _ _).setCell (by exact Nat.le_refl _) _
    have c8 : CB (w7.setCell ⟨w5.heap.size, 0, none⟩ (.slice A7 N c7)) w5.heap.size 24 #[.slice A7 N c7] := by
      have := heap_setCell_same w7 w5.heap.size 0 _ _ (.slice A7 N c7) c7'
      exact this
    have a8 := a7.keep (Below.heap_setCell w7 ⟨w5.heap.size, 0, none⟩ (.slice A7 N c7) (w1.heap.size + 1) (by simp; omega))
    have k8 := k7.keep (Below.heap_setCell w7 ⟨w5.heap.size, 0, none⟩ (.slice A7 N c7) w.heap.size (by simp; omega))
    have h8 := h7.keep (Below.heap_setCell w7 ⟨w5.heap.size, 0, none⟩ (.slice A7 N c7) w1.heap.size (by simp; omega))
    have o8 : OwnR tmC 2 48 (w7.setCell ⟨w5.heap.size, 0, none⟩ (.slice A7 N c7)) w3.heap.size A4 c4 (l.take N) := o7.kept ((Turned.refl w5.heap.size w7).setCell 0 _).grown ((H5.out.2.2.2).off (.inr (Nat.le_refl _)))
    have p8 : OwnR tmC 2 48 (w7.setCell ⟨w5.heap.size, 0, none⟩ (.slice A7 N c7)) (w5.heap.size + 1) A7 c7 (l.take N) := ho7.kept ((Turned.refl w5.heap.size w7).setCell 0 _).grown (ho7.off (.inl (Nat.lt_succ_self _)))
    have B8 := Lib.hid (B6.out.trans ((bb7.mono (B6.out.size)).trans (s8.mono (by omega))))
    have HA8 := Lib.hid ((HA6.out.below (bb7.mono (by omega))).below (s8.mono (by omega)))
    have H8 := Lib.hid (And.intro a8 (And.intro k8 (And.intro h8 (And.intro c8 (And.intro o8 p8)))))
    have z8 : w5.heap.size < (w7.setCell ⟨w5.heap.size, 0, none⟩ (.slice A7 N c7)).heap.size := c8.len
    have HR7 := Lib.hid hr7
    have g1 : (w7.setCell ⟨w5.heap.size, 0, none⟩ (.slice A7 N c7)).cell? ⟨w1.heap.size, 0, none⟩ = some (.slice A l.length c) := h8.at_ 0
    clear hr7 ho7 hg7 hat7 hb7 bb7 c7' a7 k7 h7 o7 s8 c8 a8 k8 h8 o8 p8 c6 a6 k6 h6 o6 b6 B6 HA6 H5 B5 HA5
    by_cases n0 : N = 0
    · subst n0
      obtain ⟨LS, hLS⟩ : ∃ b, decide (0 < l.length) = b := ⟨_, rfl⟩
      go_upto_region 18 with (at_builtin; refine wpList_append_run rfl (.tmp 39) (.tmp 41) _ rfl rfl rfl HR7.out ?_)
      have H9 := Lib.hid (And.intro H8.out.2.2.1 (And.intro H8.out.1 H8.out.2.2.2.1))
      have hsA := taken_at HA8.out (by omega) (OwnR.reads tmC_size H8.out.2.2.2.2.1)
      have hsB := taken_at HA8.out (by omega) (OwnR.reads tmC_size H8.out.2.2.2.2.2)
      have hsL := HA8.out.more (B' := (w7.setCell ⟨w5.heap.size, 0, none⟩ (.slice A7 0 c7)).heap.size) (by omega)
      have hr4 := OwnR.room H8.out.2.2.2.2.1
      have hr7 := OwnR.room H8.out.2.2.2.2.2
      have G2 : extH (l.take 0) (l.take 0) = true := extH_self _
      have G3 := grow1 l 0
      have G4 : extH l (l.take 0) = !LS := by rw [grow4 (Nat.zero_le _), hLS]
      obtain ⟨CT, hCT⟩ : ∃ b, false = b := ⟨_, rfl⟩
      have G5 : extH (l.take 0) (l.take 0) = !CT := by rw [← hCT]; exact G2
      have G6 : extH l (l.take 0) = (!LS && !CT) := by rw [← hCT, G4]; simp
      have hlB := hlt
      rw [hlt] at hr4 hr7
      have B9 := B8
      clear H8 HA8 B8 HR7 d7 f7 e6 e6' hLS
      generalize w7.setCell ⟨w5.heap.size, 0, none⟩ (.slice A7 0 c7) = w9 at *
      subst hCT
      -- Extends, six times, in W9
      have BOX : Hid (∀ X, Below w9.heap.size w9 X → X.cell? ⟨w1.heap.size, 0, none⟩ = some (.slice A l.length c) ∧ X.cell? ⟨w1.heap.size + 1, 0, none⟩ = some (.slice A4 0 c4) ∧ X.cell? ⟨w5.heap.size, 0, none⟩ = some (.slice A7 0 c7)) := fun X q => ⟨(H9.out.1.below q).at_ 0, (H9.out.2.1.below q).at_ 0, (H9.out.2.2.below q).at_ 0⟩
      have e1 := Lib.hid (ext_later (c := c4) (c' := c) (S := true) hsA hsL hcap hlt rfl (grow1 l 0))
      have e2 := Lib.hid (ext_later (c := c7) (c' := c4) (S := true) hsB hsA hr4 hlB hlt G2)
      have e3 := Lib.hid (ext_later (c := c7) (c' := c) (S := true) hsB hsL hcap hlB rfl G3)
      have e4 := Lib.hid (ext_later (c := c) (c' := c4) (S := !LS) hsL hsA hr4 rfl hlt G4)
      have e5 := Lib.hid (ext_later (c := c4) (c' := c7) (S := !false) hsA hsB hr7 hlt hlB G5)
      have e6 := Lib.hid (ext_later (c := c) (c' := c7) (S := !LS && !false) hsL hsB hr7 rfl hlB G6)
      clear hsA hsB hsL G2 G3 G4 G5 G6 hlB hr4 hr7
      obtain ⟨u0, u1, u2⟩ := BOX.out _ (Below.refl _ w9)
      go_wp2_with fail
      refine (e1.out _ (Below.refl _ _)).mono ?_
      rintro e x1 ⟨rfl, y1⟩
      clear u0 u1 u2
      obtain ⟨u0, u1, u2⟩ := BOX.out _ y1
      go_wp2_with fail
      refine (e2.out _ y1).mono ?_
      rintro e x2 ⟨rfl, y2⟩
      have Y2 := Below.both y1 y2
      clear u0 u1 u2 y1 y2
      obtain ⟨u0, u1, u2⟩ := BOX.out _ Y2
      go_wp2_with fail
      refine (e3.out _ Y2).mono ?_
      rintro e x3 ⟨rfl, y3⟩
      have Y3 := Below.both Y2 y3
      clear u0 u1 u2 Y2 y3
      obtain ⟨u0, u1, u2⟩ := BOX.out _ Y3
      go_wp2_with fail
      refine (e4.out _ Y3).mono ?_
      rintro e x4 ⟨rfl, y4⟩
      have Y4 := Below.both Y3 y4
      clear u0 u1 u2 Y3 y4
      obtain ⟨u0, u1, u2⟩ := BOX.out _ Y4
      have f1 : ((!LS) == (!LS)) = true := beq_self_eq_true _
      have f3 : (((!LS) && (!false)) == ((!LS) && (!false))) = true := beq_self_eq_true _
      go_wp2_with fail
      refine (e5.out _ Y4).mono ?_
      rintro e x5 ⟨rfl, y5⟩
      have Y5 := Below.both Y4 y5
      clear u0 u1 u2 Y4 y5
      obtain ⟨u0, u1, u2⟩ := BOX.out _ Y5
      go_wp2_with fail
      refine (e6.out _ Y5).mono ?_
      rintro e x6 ⟨rfl, y6⟩
      have Y6 := Below.both Y5 y6
      clear u0 u1 u2 Y5 y6
      go_wp2
      all_goals go_ret
      all_goals exact ⟨rfl, B9.out.trans (Y6.mono B9.out.size)⟩
    · obtain ⟨M, hM⟩ : ∃ M, N = M + 1 := ⟨N - 1, by omega⟩
      have hMl : M < l.length := by omega
      obtain ⟨x, hx⟩ : ∃ x, l[M]? = some x := ⟨l[M], List.getElem?_eq_getElem hMl⟩
      have hx' : l[N - 1]? = some x := by rw [hM, Nat.add_sub_cancel]; exact hx
      have hN0 : 0 < N := by omega
      have hform : ∃ g, A7 = some ⟨g, 0, none⟩ ∧ w5.heap.size + 1 ≤ g := by
        rcases H8.out.2.2.2.2.2.2 with ⟨_, h0⟩ | ⟨g, cap, cur, hv, hg, _⟩
        · rw [hlt] at h0
          omega
        · injection hv with e1 _ _
          exact ⟨g, e1, hg⟩
      obtain ⟨g7, rfl, hg7⟩ := hform
      obtain ⟨_, _, hA, hgl, r0, r1⟩ := Tm.cells (OwnR.reads tmC_size H8.out.2.2.2.2.2) ((take_at (show M < N by omega)).trans hx)
      injection hA with hA
      injection hA with ea eb
      subst ea eb
      rw [Nat.zero_add] at r0 r1
      have hxl := (HA8.out.each x (List.mem_of_getElem? hx)).len
      have hxc := (HA8.out.each x (List.mem_of_getElem? hx)).cap
      obtain ⟨K, hK, hKl⟩ := modN v x.vs.length hxl
      have r1d : (w7.setCell ⟨w5.heap.size, 0, none⟩ (.slice (some ⟨g7, 0, none⟩) N c7)).drew.cell? ⟨g7, M * 2 + 1, none⟩ = some (.slice x.A x.vs.length x.c) := r1
      have rfz : (w7.setCell ⟨w5.heap.size, 0, none⟩ (.slice (some ⟨g7, 0, none⟩) N c7)).drew.frozen? ⟨g7, M * 2 + 1, none⟩ = false := World.ownsRow.frozenAt H8.out.2.2.2.2.2 _
      have p2 : (w7.setCell ⟨w5.heap.size, 0, none⟩ (.slice (some ⟨g7, 0, none⟩) N c7)).cell? ⟨w.heap.size, 2, none⟩ = some (.int .i64 v) := H8.out.2.1.at_ 2
      have c8c : (w7.setCell ⟨w5.heap.size, 0, none⟩ (.slice (some ⟨g7, 0, none⟩) N c7)).cell? ⟨w5.heap.size, 0, none⟩ = some (.slice (some ⟨g7, 0, none⟩) N c7) := H8.out.2.2.2.1.at_ 0
      have c8d : (w7.setCell ⟨w5.heap.size, 0, none⟩ (.slice (some ⟨g7, 0, none⟩) N c7)).drew.cell? ⟨w5.heap.size, 0, none⟩ = some (.slice (some ⟨g7, 0, none⟩) N c7) := H8.out.2.2.2.1.at_ 0
      have hcut2 : ∀ W : World, (Instr.sliceAt 46 (.slice x.A x.vs.length x.c) none (some (.int .i64 (K : Int))) none).run Tryd.prog W = .ok (.slice x.A K x.c) W := CR.run_h (P := Tryd.prog) (s := 2) Tryd.underlying46 sizeVer x.A x.vs.length x.c K (by omega)
      have hsub : (N : Int) - 1 = (M : Int) := by omega
      have hsubw : IntKind.i64.wrap ((N : Int) - 1) = (M : Int) := by rw [IntKind.wrap_i64]; omega
      have hMw : IntKind.i64.wrap (M : Int) = (M : Int) := by rw [IntKind.wrap_i64]; omega
      have m0 : (0 : Int) ≤ (M : Int) := by omega
      have m1 : (M : Int) < (N : Int) := by omega
      have n1 : (0 : Int) < (N : Int) := by omega
      have n1d : decide (0 < N) = true := decide_eq_true hN0
      obtain ⟨LS, hLS⟩ : ∃ b, decide (N < l.length) = b := ⟨_, rfl⟩
      obtain ⟨CT, hCT⟩ : ∃ b, decide (K < x.vs.length) = b := ⟨_, rfl⟩
      have HLC := Lib.hid (And.intro hLS hCT)
      -- behind the last store
      have hd8 := Below.drew (Below.refl (w7.setCell ⟨w5.heap.size, 0, none⟩ (.slice (some ⟨g7, 0, none⟩) N c7)).heap.size (w7.setCell ⟨w5.heap.size, 0, none⟩ (.slice (some ⟨g7, 0, none⟩) N c7)))
      have hs9 : Below (w5.heap.size + 1) (w7.setCell ⟨w5.heap.size, 0, none⟩ (.slice (some ⟨g7, 0, none⟩) N c7)) (((w7.setCell ⟨w5.heap.size, 0, none⟩ (.slice (some ⟨g7, 0, none⟩) N c7)).setCell ⟨g7, M * 2 + 1, none⟩ (.slice x.A K x.c)).drew) := (hd8.mono (by omega)).setCell (p := ⟨g7, M * 2 + 1, none⟩) hg7 (.slice x.A K x.c)
      have hb9 : OwnR tmC 2 48 (((w7.setCell ⟨w5.heap.size, 0, none⟩ (.slice (some ⟨g7, 0, none⟩) N c7)).setCell ⟨g7, M * 2 + 1, none⟩ (.slice x.A K x.c)).drew) (w5.heap.size + 1) (some ⟨g7, 0, none⟩) c7 (cutL l N K x) := OwnR.cutAt (K := K) (H8.out.2.2.2.2.2.then_ hd8) hN0 hNl hx' (o := M * 2 + 1) (by rw [hM, Nat.add_sub_cancel]) (K' := K) (by rw [List.length_take]; omega)
      have ho9 : OwnR tmC 2 48 (((w7.setCell ⟨w5.heap.size, 0, none⟩ (.slice (some ⟨g7, 0, none⟩) N c7)).setCell ⟨g7, M * 2 + 1, none⟩ (.slice x.A K x.c)).drew) w3.heap.size A4 c4 (l.take N) := (H8.out.2.2.2.2.1.then_ hd8).kept ((Turned.refl g7 _).setCell (M * 2 + 1) (.slice x.A K x.c)).grown (by
        cases hA : obk A4 with
        | none => exact .inl rfl
        | some q =>
          refine .inr fun e => ?_
          have h1 := hA4lt q hA
          have e2 := Option.some.inj e
          omega)
      have hH9 := HA8.out.below (hs9.mono (by omega))
      have H9 := Lib.hid (And.intro (CB.keep H8.out.2.2.1 (hs9.block _ (by omega))) (And.intro (CB.keep H8.out.1 (hs9.block _ (by omega))) (CB.keep H8.out.2.2.2.1 (hs9.block _ (Nat.lt_succ_self _)))))
      have z9 := hs9.size
      have hsA := taken_at hH9 (by omega) (OwnR.reads tmC_size ho9)
      have hsB := cutL_at hH9 (by omega) hN0 hNl hx' (OwnR.reads tmC_size hb9)
      have hsL := hH9.more (Nat.le_trans (show w1.heap.size ≤ _ by omega) z9)
      have hr4 := OwnR.room ho9
      have hr7 := OwnR.room hb9
      have hlB : (cutL l N K x).length = N := cutL_len hNl
      rw [hlt] at hr4
      rw [hlB] at hr7
      have G2 := grow2 (K := K) hN0 hNl hx'
      have G3 := grow3 (K := K) hN0 hNl hx'
      have G4 : extH l (l.take N) = !LS := by rw [grow4 hNl, hLS]
      have G5 : extH (l.take N) (cutL l N K x) = !CT := by rw [grow5 hN0 hNl hx' (fun k hk => take_at hk) hlt, hCT]
      have G6 : extH l (cutL l N K x) = (!LS && !CT) := by rw [grow6 hN0 hNl hx', hLS, hCT]
      have B9 := Lib.hid (B8.out.trans (hs9.mono (by have := B8.out.size; omega)))
      have HG := Lib.hid (And.intro hsA (And.intro hsB (And.intro hsL (And.intro G2 (And.intro G3 (And.intro G4 (And.intro G5 G6)))))))
      clear hd8 hs9 hb9 ho9 hH9 hsA hsB hsL G2 G3 G4 G5 G6 hx hx' hN0 hg7 H8 HA8 B8
      have HBX := Lib.hid (And.intro hM (And.intro hlt (And.intro hlB z9)))
      clear hM hlt hlB z9 z8 z6 z5 z3 hxc hKl hMl hgl r0
      obtain ⟨xn, xv, xA, xc⟩ := x
      dsimp only at *
      go_upto_region 17 with (at_builtin; refine wpList_append_run rfl (.tmp 39) (.tmp 41) _ rfl rfl rfl HR7.out ?_)
      go_region_law (fail)
      all_goals
        obtain ⟨hsA, hsB, hsL, G2, G3, G4, G5, G6⟩ := HG.out
        have hlt := HBX.out.2.1
        have hlB := HBX.out.2.2.1
        clear HG HBX r1 r1d rfz p2 c8c c8d hcut2 hsub hsubw hMw m0 m1 n1 n1d n0 hK HR7 d7 f7 e6 e6' HLC hLS hCT hxl
        generalize ((w7.setCell ⟨w5.heap.size, 0, none⟩ (.slice (some ⟨g7, 0, none⟩) N c7)).setCell ⟨g7, M * 2 + 1, none⟩ (.slice xA K xc)).drew = w9 at *
        -- Extends, six times, in W9
        have BOX : Hid (∀ X, Below w9.heap.size w9 X → X.cell? ⟨w1.heap.size, 0, none⟩ = some (.slice A l.length c) ∧ X.cell? ⟨w1.heap.size + 1, 0, none⟩ = some (.slice A4 N c4) ∧ X.cell? ⟨w5.heap.size, 0, none⟩ = some (.slice (some ⟨g7, 0, none⟩) N c7)) := fun X q => ⟨(H9.out.1.below q).at_ 0, (H9.out.2.1.below q).at_ 0, (H9.out.2.2.below q).at_ 0⟩
        have e1 := Lib.hid (ext_later (c := c4) (c' := c) (S := true) hsA hsL hcap hlt rfl (grow1 l N))
        have e2 := Lib.hid (ext_later (c := c7) (c' := c4) (S := true) hsB hsA hr4 hlB hlt G2)
        have e3 := Lib.hid (ext_later (c := c7) (c' := c) (S := true) hsB hsL hcap hlB rfl G3)
        have e4 := Lib.hid (ext_later (c := c) (c' := c4) (S := !LS) hsL hsA hr4 rfl hlt G4)
        have e5 := Lib.hid (ext_later (c := c4) (c' := c7) (S := !CT) hsA hsB hr7 hlt hlB G5)
        have e6 := Lib.hid (ext_later (c := c) (c' := c7) (S := (!LS) && (!CT)) hsL hsB hr7 rfl hlB G6)
        clear hsA hsB hsL G2 G3 G4 G5 G6 hlB hlt hr4 hr7
        obtain ⟨u0, u1, u2⟩ := BOX.out _ (Below.refl _ w9)
        go_wp2_with fail
        refine (e1.out _ (Below.refl _ _)).mono ?_
        rintro e x1 ⟨rfl, y1⟩
        clear u0 u1 u2
        obtain ⟨u0, u1, u2⟩ := BOX.out _ y1
        go_wp2_with fail
        refine (e2.out _ y1).mono ?_
        rintro e x2 ⟨rfl, y2⟩
        have Y2 := Below.both y1 y2
        clear u0 u1 u2 y1 y2
        obtain ⟨u0, u1, u2⟩ := BOX.out _ Y2
        go_wp2_with fail
        refine (e3.out _ Y2).mono ?_
        rintro e x3 ⟨rfl, y3⟩
        have Y3 := Below.both Y2 y3
        clear u0 u1 u2 Y2 y3
        obtain ⟨u0, u1, u2⟩ := BOX.out _ Y3
        go_wp2_with fail
        refine (e4.out _ Y3).mono ?_
        rintro e x4 ⟨rfl, y4⟩
        have Y4 := Below.both Y3 y4
        clear u0 u1 u2 Y3 y4
        obtain ⟨u0, u1, u2⟩ := BOX.out _ Y4
        have f1 : ((!LS) == (!LS)) = true := beq_self_eq_true _
        have f2 : ((!CT) == (!CT)) = true := beq_self_eq_true _
        have f3 : (((!LS) && (!CT)) == ((!LS) && (!CT))) = true := beq_self_eq_true _
        go_wp2_with fail
        refine (e5.out _ Y4).mono ?_
        rintro e x5 ⟨rfl, y5⟩
        have Y5 := Below.both Y4 y5
        clear u0 u1 u2 Y4 y5
        obtain ⟨u0, u1, u2⟩ := BOX.out _ Y5
        go_wp2_with fail
        refine (e6.out _ Y5).mono ?_
        rintro e x6 ⟨rfl, y6⟩
        have Y6 := Below.both Y5 y6
        clear u0 u1 u2 Y5 y6
        go_wp2
        all_goals go_ret
        all_goals exact ⟨rfl, B9.out.trans (Y6.mono B9.out.size)⟩
end Go.Proofs.YtnflbnchkcigiaaDoor
