/- The frame of a version or an event that is being read: its head, its place, its list. No walk of a function here. -/
import Derived.Test.YtipcgmaobiobbaaGreatDoorParStep
namespace Go.Proofs.YtipcgmaobiobbaaGreatDoor
open Go.RowKit

/-- append of one part, in the machine's words -/
def AppRun (tt T : TypeId) (w : World) (A : Option Addr) (n c : Nat) (cs : Array Value) (g c' : Nat) (w' : World) : Prop :=
  (Builtin.append_ #[tt, tt] tt #[.slice A n c, .slice (some ⟨w.heap.size, 0, none⟩) 1 1]).run Tryz.prog (w.alloc (.cells cs T)) = .ok (.slice (some ⟨g, 0, none⟩) (n + 1) c') w'
def AppLaw {α : Type} (L : Lev α) (tt : TypeId) : Prop := ∀ {w : World} {B : Nat} {A : Option Addr} {c : Nat} {l : List α}, Built L w B A c l → ∀ x, L.H w B x → (∀ b ∈ L.bl x, b ∉ L.bls A l) → l.length ≤ 2000000 → B ≤ w.heap.size →
    ∃ g c' w', AppRun tt L.T w A l.length c (L.f x) g c' w' ∧ Built L w' B (some ⟨g, 0, none⟩) c' (l ++ [x]) ∧ (obk A = some g ∨ w.heap.size ≤ g) ∧ w.grownBy w' (obk A)
theorem appSt : AppLaw StLev 43 := fun h x hx hd hl hB => app_st h x hx hd hl hB
theorem appVe : AppLaw VeLev 46 := fun h x hx hd hl hB => app_ve h x hx hd hl hB
theorem appEv : AppLaw EvLev 22 := fun h x hx hd hl hB => app_ev h x hx hd hl hB

/-- the frame: the reader, the answer's block, the struct's block, its list with all that it owns -/
structure GF {α : Type} (L : Lev α) (TS : TypeId) (z : Value) (w0 w : World) (g : Nat) (A : Option Addr) (c : Nat) (T : List Tk) (q : PS) (b2 b3 : Nat) (hd : Value) (a : Nat) (As : Option Addr) (cs : Nat) (l : List α) : Prop where
  rs : RS w g A c T q
  r2 : CB w b2 TS #[z, .slice none 0 0, .int .i64 0]
  s3 : CB w b3 TS #[hd, .slice As l.length cs, .int .i64 (a : Nat)]
  gn : Gn g w0 w
  bt : Built L w w0.heap.size As cs l
  g0 : g < w0.heap.size
  b20 : w0.heap.size ≤ b2
  b30 : w0.heap.size ≤ b3
  ne : b2 ≠ b3
  far : ∀ b ∈ L.bls As l, b ≠ b2 ∧ b ≠ b3
  few : l.length ≤ q.i
section
variable {α : Type} {L : Lev α} (O : L.Ok) {TS : TypeId} {z : Value} {w0 w w' : World} {g : Nat} {A : Option Addr} {c : Nat} {T : List Tk} {q q' : PS} {b2 b3 : Nat} {hd : Value} {a : Nat} {As : Option Addr} {cs : Nat} {l : List α}
include O
theorem GF.call (h : GF L TS z w0 w g A c T q b2 b3 hd a As cs l) (hg : Gn g w w') (hr : RS w' g A c T q') (hi : q.i ≤ q'.i) : GF L TS z w0 w' g A c T q' b2 b3 hd a As cs l := by
  have := h.g0
  have := h.b20
  have := h.b30
  refine ⟨hr, h.r2.keep (hg.other h.r2.len (by omega)), h.s3.keep (hg.other h.s3.len (by omega)), h.gn.trans hg, h.bt.keep O fun b hb => ?_, h.g0, h.b20, h.b30, h.ne, h.far, Nat.le_trans h.few hi⟩
  have := h.bt.bd O b hb
  exact hg.other this.2 (by omega)
/-- the head written -/
theorem GF.head (h : GF L TS z w0 w g A c T q b2 b3 hd a As cs l) (v : Value) : GF L TS z w0 (w.setCell ⟨b3, 0, none⟩ v) g A c T q b2 b3 v a As cs l := by
  have := h.g0
  have := h.b20
  have := h.b30
  have hg : Gn b3 w (w.setCell ⟨b3, 0, none⟩ v) := (Gn.refl b3 w).set 0 v
  have hgr := h.rs.len
  have hl3 := h.s3.len
  refine ⟨h.rs.keep (hg.below (by omega) (by omega)) (hg.other hgr (by omega)), h.r2.keep (hg.other h.r2.len h.ne), heap_setCell_same w b3 0 _ _ v h.s3, ⟨hg.os.trans h.gn.os, hg.tape.trans h.gn.tape, hg.output.trans h.gn.output, Nat.le_trans h.gn.size hg.size, fun k hk hne => (hg.other (Nat.lt_of_lt_of_le hk h.gn.size) (by omega)).trans (h.gn.block k hk hne)⟩, h.bt.keep O fun b hb => ?_, h.g0, h.b20, h.b30, h.ne, h.far, h.few⟩
  have := h.bt.bd O b hb
  exact hg.other this.2 (h.far b hb).2
/-- one part more -/
theorem GF.item {tt : TypeId} (app : AppLaw L tt) (h : GF L TS z w0 w g A c T q b2 b3 hd a As cs l) {w5 : World} {x : α} (hg : Gn g w w5) (hr : RS w5 g A c T q') (hH : L.H w5 w.heap.size x) (hi : q.i ≤ q'.i) (hfew : l.length + 1 ≤ q'.i) :
    ∃ g4 c4 w6, AppRun tt L.T w5 As l.length cs (L.f x) g4 c4 w6 ∧ w5.cell? ⟨b3, 1, none⟩ = some (.slice As l.length cs) ∧ b3 < w5.heap.size ∧ w6.cell? ⟨b3, 1, none⟩ = some (.slice As l.length cs) ∧ w6.frozen? ⟨b3, 1, none⟩ = false ∧
      GF L TS z w0 (w6.setCell ⟨b3, 1, none⟩ (.slice (some ⟨g4, 0, none⟩) (l.length + 1) c4)) g A c T q' b2 b3 hd a (some ⟨g4, 0, none⟩) c4 (l ++ [x]) := by
  have h5 := h.call O hg hr hi
  have := h.g0
  have := h.b20
  have := h.b30
  have hlT := hr.i_lt
  have hbx := O.bd hH
  have hw := h.gn.size
  obtain ⟨g4, c4, w6, hrun, hB6, hat, hgr⟩ := app h5.bt x (O.low hH hw) (fun b hb hb2 => by have := (hbx b hb).1; have := (h.bt.bd O b hb2).2; omega) (by omega) h5.gn.size
  have hl2 := h5.r2.len
  have hl3 := h5.s3.len
  have hgl := hr.len
  have hna : ∀ b, b < w5.heap.size → (b = b2 ∨ b = b3 ∨ b < w0.heap.size) → obk As ≠ some b := fun b hb hb2 e => by
    have hm : b ∈ L.bls As l := mem_bls.2 (.inl e)
    have := h.far b hm
    have := (h.bt.bd O b hm).1
    omega
  have k2 : w6.heap[b2]? = w5.heap[b2]? := hgr.block b2 hl2 fun e => hna b2 hl2 (.inl rfl) e.symm
  have k3 : w6.heap[b3]? = w5.heap[b3]? := hgr.block b3 hl3 fun e => hna b3 hl3 (.inr (.inl rfl)) e.symm
  have kg : w6.heap[g]? = w5.heap[g]? := hgr.block g hgl fun e => hna g hgl (.inr (.inr h.g0)) e.symm
  have hs6 := hgr.size
  have h63 : CB w6 b3 TS #[hd, .slice As l.length cs, .int .i64 (a : Nat)] := h5.s3.keep k3
  have hb6 : Below w0.heap.size w5 w6 := ⟨hgr.os, hgr.tape, hgr.output, hgr.size, fun b hb => hgr.block b (by have := h5.gn.size; omega) fun e => hna b (by have := h5.gn.size; omega) (.inr (.inr hb)) e.symm⟩
  have hg7 : Gn b3 w6 (w6.setCell ⟨b3, 1, none⟩ (.slice (some ⟨g4, 0, none⟩) (l.length + 1) c4)) := (Gn.refl b3 w6).set 1 _
  refine ⟨g4, c4, w6, hrun, h5.s3.at_ 1, hl3, h63.at_ 1, h63.frozen 1, ⟨?_, ?_, ?_, ?_, ?_, h.g0, h.b20, h.b30, h.ne, fun b hb => ?_, ?_⟩⟩
  · have hr6 : RS w6 g A c T q' := hr.keep (hb6.mono (by omega)) kg
    exact hr6.keep (hg7.below (by omega) (by omega)) (hg7.other hr6.len (by omega))
  · exact (h5.r2.keep k2).keep (hg7.other (by omega) h.ne)
  · have := heap_setCell_same w6 b3 1 _ _ (.slice (some ⟨g4, 0, none⟩) (l.length + 1) c4) h63
    unfold CB
    rw [List.length_append]
    exact this
  · exact ⟨hg7.os.trans (hb6.os.trans h5.gn.os), hg7.tape.trans (hb6.tape.trans h5.gn.tape), hg7.output.trans (hb6.output.trans h5.gn.output), Nat.le_trans h5.gn.size (Nat.le_trans hb6.size hg7.size), fun k hk hne => ((hg7.other (by have := h5.gn.size; omega) (by omega)).trans (hb6.block k hk)).trans (h5.gn.block k hk hne)⟩
  · refine hB6.keep O fun b hb => hg7.other (hB6.bd O b hb).2 ?_
    rcases mem_bls.1 hb with e | ⟨y, hy, e⟩
    · obtain rfl : g4 = b := Option.some.inj e
      rcases hat with e2 | e2
      · exact (h.far g4 (mem_bls.2 (.inl e2))).2
      · omega
    · rcases List.mem_append.1 hy with hy | hy
      · exact (h.far b (mem_bls.2 (.inr ⟨y, hy, e⟩))).2
      · rw [List.mem_singleton] at hy
        subst hy
        have := (hbx b e).1
        have := h.s3.len
        omega
  · rcases mem_bls.1 hb with e | ⟨y, hy, e⟩
    · obtain rfl : g4 = b := Option.some.inj e
      rcases hat with e2 | e2
      · exact h.far g4 (mem_bls.2 (.inl e2))
      · omega
    · rcases List.mem_append.1 hy with hy | hy
      · exact h.far b (mem_bls.2 (.inr ⟨y, hy, e⟩))
      · rw [List.mem_singleton] at hy
        subst hy
        have := (hbx b e).1
        have := h.s3.len
        have := h.r2.len
        omega
  · rw [List.length_append]
    exact hfew
/-- the answer stored -/
theorem GF.close (h : GF L TS z w0 w g A c T q b2 b3 hd a As cs l) (t : Turned b2 w w') : RS w' g A c T q ∧ Gn g w0 w' ∧ Built L w' w0.heap.size As cs l := by
  have := h.g0
  have := h.b20
  have hg : Gn b2 w w' := t.grown
  have hgr := h.rs.len
  have hl2 := h.r2.len
  refine ⟨h.rs.keep (hg.below (by omega) (by omega)) (hg.other hgr (by omega)), ⟨hg.os.trans h.gn.os, hg.tape.trans h.gn.tape, hg.output.trans h.gn.output, Nat.le_trans h.gn.size hg.size, fun k hk hne => (hg.other (Nat.lt_of_lt_of_le hk h.gn.size) (by omega)).trans (h.gn.block k hk hne)⟩, h.bt.keep O fun b hb => ?_⟩
  have := h.bt.bd O b hb
  exact hg.other this.2 (h.far b hb).1
omit O in
/-- the struct just laid -/
theorem gf_start (hr : RS w g A c T q) (h2 : CB w b2 TS #[z, .slice none 0 0, .int .i64 0]) (hg : Gn g w0 w) (g0 : g < w0.heap.size) (b20 : w0.heap.size ≤ b2) (hd : Value) (a : Nat) :
    GF L TS z w0 (w.alloc (.cells #[hd, .slice none 0 0, .int .i64 (a : Nat)] TS)) g A c T q b2 w.heap.size hd a none 0 [] := by
  have hb : Below w.heap.size w (w.alloc (.cells #[hd, .slice none 0 0, .int .i64 (a : Nat)] TS)) := (Below.refl _ w).alloc (Nat.le_refl _) _
  refine ⟨hr.below hb, h2.below hb, CB.new w _ _, hg.trans (Gn.of hb), Built.nil L _ _, g0, b20, hg.size, by have := h2.len; omega, fun b hb => ?_, Nat.zero_le _⟩
  simp [Lev.bls, obk] at hb
end
end Go.Proofs.YtipcgmaobiobbaaGreatDoor
/- The walk of the code: a version. -/
namespace Go.Proofs.YtipcgmaobiobbaaGreatDoor
open Go.RowKit

theorem ls_version : ls "version".toUTF8 = [118, 101, 114, 115, 105, 111, 110] := by decide +kernel
theorem ls_event : ls "event".toUTF8 = [101, 118, 101, 110, 116] := by decide +kernel
/-- what a version answers -/
def VerAt (g : Nat) (A : Option Addr) (c : Nat) (T : List Tk) (p : PS) (w : World) (e : Ending) (w' : World) : Prop :=
  ∃ x : LVe, e = .returned (.agg x.C) ∧ RS w' g A c T (p.version T).1 ∧ Gn g w w' ∧ VeLev.H w' w.heap.size x ∧ ((p.version T).1.flt = 0 → x.ve = (p.version T).2)

theorem stepK_tok {T : List Tk} {q : PS} (h : stepK T q ≠ 0) : q.flt = 0 ∧ (q.tok T).k = 1 := by
  have hz : q.flt = 0 := Decidable.byContradiction fun z => by
    unfold stepK at h
    rw [is_stuck z, is_stuck z, is_stuck z, is_stuck z, is_stuck z, is_stuck z] at h
    exact h rfl
  refine ⟨hz, Decidable.byContradiction fun z => h ?_⟩
  have e : ∀ s, q.is T 1 s = false := fun s => by unfold PS.is; rw [beq_eq_false_iff_ne.2 z, Bool.and_false, Bool.false_and]
  unfold stepK
  rw [e, e, e, e, e, e]
  rfl
theorem go_word (T : List Tk) (p : PS) (s : List UInt8) : Go_ p (p.word T s) := go_want p 1 s
theorem go_mark (T : List Tk) (p : PS) (m : UInt8) : Go_ p (p.mark T m) := go_want p 4 [m]
theorem go_nm {T : List Tk} {p q : PS} {n : List UInt8} (h : p.name T = (q, n)) : Go_ p q := by have := go_name (T := T) p; rw [h] at this; exact this
theorem go_tx {T : List Tk} {p q : PS} {n : List UInt8} (h : p.text T = (q, n)) : Go_ p q := by have := go_text (T := T) p; rw [h] at this; exact this
theorem go_step {T : List Tk} {q : PS} (h : stepK T q ≠ 0) : q.i + 1 ≤ (q.step T).1.i ∧ Go_ q (q.step T).1 := by
  have h0 := (stepK_tok h).1
  have hn := go_next q h0
  suffices H : Go_ q.next (q.step T).1 from ⟨H.1, hn.trans H⟩
  unfold PS.step
  dsimp only
  generalize stepK T q = k at h
  rw [if_neg h]
  obtain ⟨q1, nA, e1⟩ : ∃ q1 n, q.next.name T = (q1, n) := ⟨_, _, rfl⟩
  rw [e1]
  dsimp only
  have a1 := go_nm e1
  by_cases k1 : k = 1
  · rw [if_pos k1]
    obtain ⟨q2, n2, e2⟩ : ∃ q2 n, (q1.mark T 58).name T = (q2, n) := ⟨_, _, rfl⟩
    rw [e2]
    dsimp only
    have a2 := (a1.trans (go_mark T q1 58)).trans (go_nm e2)
    by_cases hb : q2.is T 4 [61] = true
    · rw [if_pos hb]
      exact (a2.trans (go_next _ (is_ok _ hb).1)).trans ((go_value T _).trans (go_mark T _ 59))
    · rw [if_neg hb]
      exact a2.trans (go_mark T _ 59)
  rw [if_neg k1]
  by_cases k2 : k = 2
  · rw [if_pos k2]
    obtain ⟨q2, n2, e2⟩ : ∃ q2 n, (q1.word T (ls "to".toUTF8)).name T = (q2, n) := ⟨_, _, rfl⟩
    rw [e2]
    exact ((a1.trans (go_word T q1 _)).trans (go_nm e2)).trans (go_mark T q2 59)
  rw [if_neg k2]
  by_cases k3 : k = 3
  · rw [if_pos k3]
    obtain ⟨q2, n2, e2⟩ : ∃ q2 n, (q1.word T (ls "at".toUTF8)).text T = (q2, n) := ⟨_, _, rfl⟩
    rw [e2]
    dsimp only
    obtain ⟨q3, n3, e3⟩ : ∃ q3 n, (q2.word T (ls "into".toUTF8)).name T = (q3, n) := ⟨_, _, rfl⟩
    rw [e3]
    dsimp only
    obtain ⟨q4, n4, e4⟩ : ∃ q4 n, (q3.mark T 44).name T = (q4, n) := ⟨_, _, rfl⟩
    rw [e4]
    exact ((((((a1.trans (go_word T q1 _)).trans (go_tx e2)).trans (go_word T q2 _)).trans (go_nm e3)).trans (go_mark T q3 44)).trans (go_nm e4)).trans (go_mark T q4 59)
  rw [if_neg k3]
  by_cases k4 : k = 4
  · rw [if_pos k4]
    obtain ⟨q2, n2, e2⟩ : ∃ q2 n, (q1.mark T 44).name T = (q2, n) := ⟨_, _, rfl⟩
    rw [e2]
    dsimp only
    obtain ⟨q3, n3, e3⟩ : ∃ q3 n, (q2.word T (ls "with".toUTF8)).text T = (q3, n) := ⟨_, _, rfl⟩
    rw [e3]
    dsimp only
    obtain ⟨q4, n4, e4⟩ : ∃ q4 n, (q3.word T (ls "into".toUTF8)).name T = (q4, n) := ⟨_, _, rfl⟩
    rw [e4]
    exact ((((((a1.trans (go_mark T q1 44)).trans (go_nm e2)).trans (go_word T q2 _)).trans (go_tx e3)).trans (go_word T q3 _)).trans (go_nm e4)).trans (go_mark T q4 59)
  rw [if_neg k4]
  by_cases k5 : k = 5
  · rw [if_pos k5]
    obtain ⟨q2, n2, e2⟩ : ∃ q2 n, (q1.word T (ls "to".toUTF8)).name T = (q2, n) := ⟨_, _, rfl⟩
    rw [e2]
    exact ((a1.trans (go_word T q1 _)).trans (go_nm e2)).trans (go_mark T q2 59)
  rw [if_neg k5]
  exact a1.trans (go_mark T q1 59)
theorem steps_on {T : List Tk} {q : PS} {f : Nat} (h : stepK T q ≠ 0) : stepsL T (f + 1) q = ((stepsL T f (q.step T).1).1, (q.step T).2 :: (stepsL T f (q.step T).1).2) := by
  obtain ⟨h0, h1⟩ := stepK_tok h
  have hb : q.is T 4 [125] = false := by unfold PS.is; rw [h1]; simp
  conv => lhs; unfold stepsL
  rw [if_pos ⟨h0, hb⟩]
theorem steps_stuck {T : List Tk} {q : PS} (h : q.flt ≠ 0) : ∀ f, stepsL T f q = (q, [])
  | 0 => rfl
  | f + 1 => by unfold stepsL; rw [if_neg fun z => h z.1]
theorem steps_end {T : List Tk} {q : PS} (hi : In_ T q) {f : Nat} (h : stepK T q = 0) (hf : q.flt = 0 → T.length ≤ q.i + f) : (stepsL T f q).1.mark T 125 = q.mark T 125 ∧ ((q.mark T 125).flt = 0 → (stepsL T f q).2 = []) := by
  by_cases h0 : q.flt = 0
  · have : q.i < T.length := hi
    have := hf h0
    cases f with
    | zero => omega
    | succ f =>
      unfold stepsL
      by_cases hb : q.is T 4 [125] = true
      · rw [if_neg (fun z => by rw [hb] at z; exact absurd z.2 (by decide))]
        exact ⟨rfl, fun _ => rfl⟩
      · have hbf : q.is T 4 [125] = false := by simpa using hb
        rw [if_pos ⟨h0, hbf⟩]
        have es : q.step T = (q.fail (q.tok T).a 90, ⟨0, [], [], [], [], [], [], (q.tok T).a⟩) := by
          unfold PS.step
          dsimp only
          rw [if_pos h]
        have hnf := fail_flt (p := q) (a := (q.tok T).a) (e := 90) (by decide)
        have em : q.mark T 125 = q.fail (q.tok T).a 90 := by unfold PS.mark PS.want; rw [if_neg hb]
        rw [es]
        dsimp only
        rw [steps_stuck hnf, em]
        exact ⟨mark_stuck hnf 125, fun z => absurd z hnf⟩
  · rw [steps_stuck h0]
    exact ⟨rfl, fun _ => rfl⟩

theorem go_steps {T : List Tk} : ∀ (f : Nat) (q : PS), Go_ q (stepsL T f q).1 := by
  intro f
  induction f with
  | zero => exact fun q => Go_.refl q
  | succ f ih =>
    intro q
    by_cases hk : stepK T q = 0
    · unfold stepsL
      split
      · have es : q.step T = (q.fail (q.tok T).a 90, ⟨0, [], [], [], [], [], [], (q.tok T).a⟩) := by
          unfold PS.step
          dsimp only
          rw [if_pos hk]
        rw [es]
        exact (go_fail q _ _).trans (ih _)
      · exact Go_.refl q
    · rw [steps_on hk]
      exact (go_step hk).2.trans (ih _)

set_option maxRecDepth 100000 in
set_option maxHeartbeats 8000000 in
theorem cversion_any {w : World} {g : Nat} {A : Option Addr} {c : Nat} {T : List Tk} {p : PS} (h : RS w g A c T p) :
    Calls Tryz.prog 66 #[.pointer (some ⟨g, 0, none⟩)] w (VerAt g A c T p w) := by
  have hgl := h.len
  have hfew := h.few
  obtain ⟨p1, hp1⟩ : ∃ q, p.word T [118, 101, 114, 115, 105, 111, 110] = q := ⟨_, rfl⟩
  obtain ⟨p2, n1, hp2⟩ : ∃ q n, p1.number T = (q, n) := ⟨_, _, rfl⟩
  obtain ⟨q0, hq0⟩ : ∃ q, p2.mark T 123 = q := ⟨_, rfl⟩
  obtain ⟨S, L, hSL⟩ : ∃ S L, stepsL T (T.length + 1) q0 = (S, L) := ⟨_, _, rfl⟩
  obtain ⟨E, hE⟩ : ∃ E, S.mark T 125 = E := ⟨_, rfl⟩
  have hV : p.version T = (E, ⟨n1, L, (p.tok T).a⟩) := by
    unfold PS.version
    dsimp only
    rw [ls_version, hp1]
    have : (if p1.flt = 0 ∧ (p1.tok T).k = 2 then (p1.next, (p1.tok T).n) else (p1.fail (p1.tok T).a 90, 0)) = (p2, n1) := hp2
    rw [this]
    dsimp only
    rw [hq0, hSL]
    dsimp only
    rw [hE]
  have g1 : Go_ p p1 := by rw [← hp1]; exact go_word T p _
  have g2 : Go_ p1 p2 := by
    have : p2 = (p1.number T).1 := by rw [hp2]
    rw [this]
    unfold PS.number
    split
    · rename_i z
      exact go_next p1 z.1
    · exact go_fail p1 _ _
  have g3 : Go_ p2 q0 := by rw [← hq0]; exact go_mark T p2 123
  obtain ⟨a0, ha0⟩ : ∃ a, (if p.is T 1 [118, 101, 114, 115, 105, 111, 110] then (p.tok T).a else 0) = a := ⟨_, rfl⟩
  -- the place is the token's where there is no fault
  have HA0 : Hid (E.flt = 0 → a0 = (p.tok T).a) := by
    intro z
    have gS : Go_ q0 S := by have := go_steps (T := T) (T.length + 1) q0; rw [hSL] at this; exact this
    have gE : Go_ S E := by rw [← hE]; exact go_mark T S 125
    have z1 : p1.flt = 0 := flt_back (g2.trans (g3.trans (gS.trans gE))) z
    rw [← ha0]
    by_cases hb : p.is T 1 [118, 101, 114, 115, 105, 111, 110] = true
    · rw [if_pos hb]
    · have : p1 = p.fail (p.tok T).a 90 := by rw [← hp1]; unfold PS.word PS.want; rw [if_neg hb]
      rw [this] at z1
      exact absurd z1 (fail_flt (by decide))
  have HV := Lib.hid hV
  have hb1 : Below w.heap.size w (w.alloc (.cells #[.int .u64 0, .slice none 0 0, .int .i64 0] 45)) := (Below.refl _ w).alloc (Nat.le_refl _) _
  have hc1 : CB (w.alloc (.cells #[.int .u64 0, .slice none 0 0, .int .i64 0] 45)) w.heap.size 45 #[.int .u64 0, .slice none 0 0, .int .i64 0] := CB.new w _ _
  have cw : Calls Tryz.prog 63 #[.pointer (some ⟨g, 0, none⟩), .string ⟨#[118, 101, 114, 115, 105, 111, 110]⟩] (w.alloc (.cells #[.int .u64 0, .slice none 0 0, .int .i64 0] 45)) fun e w' => e = .returned (.int .i64 (a0 : Nat)) ∧ RS w' g A c T p1 ∧ Gn g (w.alloc (.cells #[.int .u64 0, .slice none 0 0, .int .i64 0] 45)) w' := by
    have := cword_any (h.below hb1) [118, 101, 114, 115, 105, 111, 110]
    rw [ha0, hp1] at this
    exact this
  have START : Hid (∀ w2, RS w2 g A c T p1 → Gn g (w.alloc (.cells #[.int .u64 0, .slice none 0 0, .int .i64 0] 45)) w2 → w.heap.size < w2.heap.size ∧ GF StLev 45 (.int .u64 0) w (w2.alloc (.cells #[.int .u64 0, .slice none 0 0, .int .i64 (a0 : Nat)] 45)) g A c T p1 w.heap.size w2.heap.size (.int .u64 0) a0 none 0 []) := fun w2 hr hg => by
    have hc2 := hc1.keep (hg.other hc1.len (by omega))
    exact ⟨hc2.len, gf_start hr hc2 ((Gn.of hb1).trans hg) hgl (Nat.le_refl _) _ _⟩
  have NUM : Hid (∀ W b3, GF StLev 45 (.int .u64 0) w W g A c T p1 w.heap.size b3 (.int .u64 0) a0 none 0 [] → Calls Tryz.prog 89 #[.pointer (some ⟨g, 0, none⟩)] W fun e w' => e = .returned (.int .u64 (n1 : Nat)) ∧ w'.cell? ⟨b3, 0, none⟩ = some (.int .u64 0) ∧ w'.frozen? ⟨b3, 0, none⟩ = false ∧
      Hid (Calls Tryz.prog 65 #[.pointer (some ⟨g, 0, none⟩), .string ⟨#[123]⟩] (w'.setCell ⟨b3, 0, none⟩ (.int .u64 (n1 : Nat))) fun e w4 => e = .returned (.tuple #[]) ∧ Hid (GF StLev 45 (.int .u64 0) w w4 g A c T q0 w.heap.size b3 (.int .u64 (n1 : Nat)) a0 none 0 []))) := fun W b3 F => by
    have cn := cnumber_any F.rs
    rw [hp2] at cn
    refine cn.mono ?_
    rintro e w' ⟨rfl, hr, hg⟩
    have F2 := F.call stLev hg hr g2.1
    have F3 := F2.head stLev (.int .u64 (n1 : Nat))
    refine ⟨rfl, F2.s3.at_ 0, F2.s3.frozen 0, (mk_any F3.rs 123).mono ?_⟩
    rintro e w4 ⟨rfl, hr4, hg4⟩
    rw [hq0] at hr4
    exact ⟨rfl, F3.call stLev hg4 hr4 g3.1⟩
  have SSTART : Hid (∃ f, (q0.flt = 0 → T.length ≤ q0.i + f) ∧ (stepsL T f q0).1.mark T 125 = E ∧ (E.flt = 0 → L = ([] : List LSt).map (·.s) ++ (stepsL T f q0).2)) := ⟨T.length + 1, fun _ => by omega, by rw [hSL]; exact hE, fun _ => by rw [hSL]; rfl⟩
  clear h hp1 hp2 hq0 hSL hE hV g1 g2 g3 ha0
  go_enter Tryz.func66, Tryz.ntmps66
  go_wp2_with (first
    | (go_at_call 63; refine cw.mono ?_; rintro e w2 ⟨rfl, hr2, hg2⟩; obtain ⟨hl2, F2⟩ := START.out w2 hr2 hg2; have cn2 := NUM.out _ _ F2; clear hr2 hg2 F2)
    | (go_at_call 89; refine cn2.mono ?_; rintro e w3 ⟨rfl, c3, f3, cm3⟩)
    | (go_at_call 65; refine cm3.out.mono ?_; rintro e w4 ⟨rfl, F4⟩))
  obtain ⟨b3, hb3⟩ : ∃ b3, w2.heap.size = b3 := ⟨_, rfl⟩
  rw [hb3] at hl2 F4
  simp only [hb3]
  clear cn2 c3 f3 cm3 cw START NUM hc1 hb1
  go_loopg [] (T.length) (fun k wr => ∃ (q : PS) (As : Option Addr) (cs : Nat) (ss : List LSt), Hid (GF StLev 45 (.int .u64 0) w wr g A c T q w.heap.size b3 (.int .u64 (n1 : Nat)) a0 As cs ss) ∧ Hid (∃ f, (q.flt = 0 → T.length ≤ q.i + f) ∧ (stepsL T f q).1.mark T 125 = E ∧ (E.flt = 0 → L = ss.map (·.s) ++ (stepsL T f q).2)) ∧ T.length - q.i ≤ k)
  case atStart => exact ⟨q0, none, 0, [], F4, SSTART, by omega⟩
  case round =>
    obtain ⟨q, As, cs, ss, HF, HS, hk⟩ := hrel
    obtain ⟨t, ht⟩ : ∃ t, q.ct T = t := ⟨_, rfl⟩
    have cp := peek_then HF.out.rs ht (Below.refl _ _)
    have ck := fun W => stepKind_any W t
    have hkk : kindOf t = stepK T q := by rw [kindOf_step HF.out.rs.ends HF.out.rs.inn, ht]
    have hin : q.i < T.length := HF.out.rs.inn
    have d1 : wr.cell? ⟨b3, 1, none⟩ = some (.slice As ss.length cs) := HF.out.s3.at_ 1
    have hl3 := HF.out.s3.len
    by_cases hz : stepK T q = 0
    · rw [hz] at hkk
      simp only [hkk] at ck
      have END : Hid (∀ W, Below wr.heap.size wr W → Calls Tryz.prog 65 #[.pointer (some ⟨g, 0, none⟩), .string ⟨#[125]⟩] W fun e w4 => e = .returned (.tuple #[]) ∧ Hid (GF StLev 45 (.int .u64 0) w w4 g A c T E w.heap.size b3 (.int .u64 (n1 : Nat)) a0 As cs ss ∧ (E.flt = 0 → L = ss.map (·.s)))) := fun W hW => by
        obtain ⟨f, hf, h1, h2⟩ := HS.out
        obtain ⟨e1, e2⟩ := steps_end HF.out.rs.inn hz hf
        rw [e1] at h1
        refine (mk_any (HF.out.rs.below hW) 125).mono ?_
        rintro e w4 ⟨rfl, hr4, hg4⟩
        rw [h1] at hr4 e2
        have hi : q.i ≤ E.i := by rw [← h1]; exact (go_mark T q 125).1
        refine ⟨rfl, (HF.out.call stLev ((Gn.of hW).trans hg4) hr4 hi), fun z => ?_⟩
        rw [h2 z, e2 z, List.append_nil]
      clear hkk ht hz
      go_wp2_with (first
        | (go_at_call 35; refine cp.mono ?_; rintro e w5 ⟨rfl, hb5⟩)
        | (go_at_call 90; refine (ck _).mono ?_; rintro e w6 ⟨rfl, hb6⟩; have hb56 := Below.both hb5 hb6)
        | (go_at_call 65; refine (END.out _ hb56).mono ?_; rintro e w7 ⟨rfl, F7⟩)
        | (refine wpList_load_cb rfl 45 (.tmp 3) rfl _ _ rfl F7.out.1.s3 Tryz.underlying45 rfl (by kernel_rfl) ?_)
        | (refine wpList_store_cb rfl 45 (.tmp 2) (.tmp 25) rfl w.heap.size _ _ rfl rfl F7.out.1.r2 rfl (by kernel_rfl) (by kernel_rfl) ?_; intro w9 h9 t9))
      obtain ⟨z1, z2, z3⟩ := F7.out.1.close stLev t9
      refine bodyPost_ret (results_cb rfl _ _ _ _ rfl h9 Tryz.underlying45 rfl (by kernel_rfl)) rfl ?_
      refine ⟨⟨n1, a0, ss, As, cs⟩, rfl, by rw [HV.out]; exact z1, z2, z3, fun zf => ?_⟩
      rw [HV.out] at zf ⊢
      show (⟨n1, ss.map (·.s), a0⟩ : Ve) = ⟨n1, L, (p.tok T).a⟩
      rw [F7.out.2 zf, HA0.out zf]
    · have hkz : ((kindOf t : Nat) : Int) ≠ 0 := by omega
      have STEP : Hid (∀ W, Below wr.heap.size wr W → Calls Tryz.prog 91 #[.pointer (some ⟨g, 0, none⟩)] W fun e w5 => ∃ x : LSt, e = .returned (.agg #[.int .i64 (x.s.k : Nat), .string (str x.s.a), .string (str x.s.b), .string (str x.s.c), .string (str x.s.sep), .string (str x.s.ty), .slice x.A x.s.v.length x.c, .int .i64 (x.s.at_ : Nat)]) ∧ ∃ g4 c4 w6,
          Hid ((Builtin.append_ #[43, 43] 43 #[.slice As ss.length cs, .slice (some ⟨w5.heap.size, 0, none⟩) 1 1]).run Tryz.prog (w5.alloc (.cells #[.int .i64 (x.s.k : Nat), .string (str x.s.a), .string (str x.s.b), .string (str x.s.c), .string (str x.s.sep), .string (str x.s.ty), .slice x.A x.s.v.length x.c, .int .i64 (x.s.at_ : Nat)] 42)) = .ok (.slice (some ⟨g4, 0, none⟩) (ss.length + 1) c4) w6) ∧
          w5.cell? ⟨b3, 1, none⟩ = some (.slice As ss.length cs) ∧ b3 < w5.heap.size ∧ w6.cell? ⟨b3, 1, none⟩ = some (.slice As ss.length cs) ∧ w6.frozen? ⟨b3, 1, none⟩ = false ∧
          Hid (GF StLev 45 (.int .u64 0) w (w6.setCell ⟨b3, 1, none⟩ (.slice (some ⟨g4, 0, none⟩) (ss.length + 1) c4)) g A c T (q.step T).1 w.heap.size b3 (.int .u64 (n1 : Nat)) a0 (some ⟨g4, 0, none⟩) c4 (ss ++ [x])) ∧
          Hid (∃ f, ((q.step T).1.flt = 0 → T.length ≤ (q.step T).1.i + f) ∧ (stepsL T f (q.step T).1).1.mark T 125 = E ∧ (E.flt = 0 → L = (ss ++ [x]).map (·.s) ++ (stepsL T f (q.step T).1).2))) := fun W hW => by
        have FW := HF.out.call stLev (Gn.of hW) (HF.out.rs.below hW) (Nat.le_refl _)
        refine (cstep_any FW.rs hz).mono ?_
        rintro e w5 ⟨x, rfl, hr5, hg5, hH5, hx5⟩
        obtain ⟨g4, c4, w6, hrun, k1, k2, k3, k4, k5⟩ := FW.item stLev appSt hg5 hr5 hH5 (go_step hz).2.1 (by have := (go_step hz).1; have := HF.out.few; omega)
        refine ⟨x, rfl, g4, c4, w6, hrun, k1, k2, k3, k4, k5, ?_⟩
        obtain ⟨f, hf, h1, h2⟩ := HS.out
        have h0 := (stepK_tok hz).1
        have := hf h0
        cases f with
        | zero => omega
        | succ f =>
          rw [steps_on hz] at h1 h2
          refine ⟨f, fun _ => by have := (go_step hz).1; omega, h1, fun z => ?_⟩
          have gE : Go_ (q.step T).1 E := by
            rw [← h1]
            exact (go_steps f _).trans (go_mark T _ 125)
          rw [h2 z, List.map_append, List.append_assoc, ← hx5 (flt_back gE z)]
          rfl
      have NXT : Hid (q.i + 1 ≤ (q.step T).1.i) := (go_step hz).1
      clear hkk ht hz
      go_wp2_with (first
        | (go_at_call 35; refine cp.mono ?_; rintro e w5 ⟨rfl, hb5⟩)
        | (go_at_call 90; refine (ck _).mono ?_; rintro e w6 ⟨rfl, hb6⟩; have hb56 := Below.both hb5 hb6; have d6 := (hb56.cell (p := ⟨b3, 1, none⟩) hl3).trans d1; have hb57 : Below wr.heap.size wr w6.drew := Below.thenN hb56 1))
      go_region_law (first
        | (refine step_append_run rfl (.tmp 17) (.tmp 20) _ rfl rfl rfl HRUN.out ?_)
        | (go_simp; go_at_call 91; refine (STEP.out _ hb57).mono ?_; rintro e w7 ⟨x, rfl, g4, c4, w8, HRUN, d7, l7, d8, f8, HG8, HS8⟩))
      all_goals
        go_wp2
        go_roundg (gk - 1)
        case measure => omega
        case rel =>
          have hn := NXT.out
          exact ⟨_, _, c4, ss ++ [x], HG8, HS8, by omega⟩
end Go.Proofs.YtipcgmaobiobbaaGreatDoor
/- The walk of the code: an event. -/
namespace Go.Proofs.YtipcgmaobiobbaaGreatDoor
open Go.RowKit

theorem go_number (T : List Tk) (p : PS) : Go_ p (p.number T).1 := by
  unfold PS.number
  split
  · rename_i z
    exact go_next p z.1
  · exact go_fail p _ _
/-- a version, in other words -/
theorem version_eq (T : List Tk) (p : PS) : p.version T = ((stepsL T (T.length + 1) ((((p.word T [118, 101, 114, 115, 105, 111, 110]).number T).1).mark T 123)).1.mark T 125, ⟨((p.word T [118, 101, 114, 115, 105, 111, 110]).number T).2, (stepsL T (T.length + 1) ((((p.word T [118, 101, 114, 115, 105, 111, 110]).number T).1).mark T 123)).2, (p.tok T).a⟩) := by
  unfold PS.version
  dsimp only
  rw [ls_version]
  generalize p.word T [118, 101, 114, 115, 105, 111, 110] = p1
  have e : (if p1.flt = 0 ∧ (p1.tok T).k = 2 then (p1.next, (p1.tok T).n) else (p1.fail (p1.tok T).a 90, 0)) = p1.number T := rfl
  rw [e]
theorem go_version (T : List Tk) (p : PS) : Go_ (p.word T [118, 101, 114, 115, 105, 111, 110]) (p.version T).1 := by
  rw [version_eq]
  exact (go_number T _).trans ((go_mark T _ 123).trans ((go_steps _ _).trans (go_mark T _ 125)))
theorem word_next {T : List Tk} {p : PS} {s : List UInt8} (h : p.is T 1 s = true) : p.word T s = p.next := by unfold PS.word PS.want; rw [if_pos h]
theorem go_version_on {T : List Tk} {q : PS} (h : q.is T 1 [118, 101, 114, 115, 105, 111, 110] = true) : q.i + 1 ≤ (q.version T).1.i := by
  have := (go_version T q).1
  rw [word_next h] at this
  exact this
theorem go_version_any (T : List Tk) (q : PS) : Go_ q (q.version T).1 := (go_word T q _).trans (go_version T q)
theorem vers_stuck {T : List Tk} {q : PS} (h : q.flt ≠ 0) : ∀ f, versL T f q = (q, [])
  | 0 => rfl
  | f + 1 => by unfold versL; rw [if_neg fun z => h z.1]
theorem vers_on {T : List Tk} {q : PS} {f : Nat} (h : q.is T 1 [118, 101, 114, 115, 105, 111, 110] = true) : versL T (f + 1) q = ((versL T f (q.version T).1).1, (q.version T).2 :: (versL T f (q.version T).1).2) := by
  obtain ⟨h0, h1, _⟩ := is_ok q h
  have hb : q.is T 4 [125] = false := by unfold PS.is; rw [h1]; simp
  conv => lhs; unfold versL
  rw [if_pos ⟨h0, hb⟩]
theorem version_bad {T : List Tk} {q : PS} (h : q.is T 1 [118, 101, 114, 115, 105, 111, 110] = false) : (q.version T).1 = q.fail (q.tok T).a 90 := by
  have hw : q.word T [118, 101, 114, 115, 105, 111, 110] = q.fail (q.tok T).a 90 := by unfold PS.word PS.want; rw [h, if_neg (by decide)]
  have hnf := fail_flt (p := q) (a := (q.tok T).a) (e := 90) (by decide)
  have hn : (q.fail (q.tok T).a 90).number T = (q.fail (q.tok T).a 90, 0) := by
    unfold PS.number
    rw [if_neg (fun z => hnf z.1), fail_stuck hnf]
  rw [version_eq, hw, hn]
  dsimp only
  rw [mark_stuck hnf, steps_stuck hnf]
  exact mark_stuck hnf 125
theorem vers_end {T : List Tk} {q : PS} (hi : In_ T q) {f : Nat} (h : q.is T 1 [118, 101, 114, 115, 105, 111, 110] = false) (hf : q.flt = 0 → T.length ≤ q.i + f) : (versL T f q).1.mark T 125 = q.mark T 125 ∧ ((q.mark T 125).flt = 0 → (versL T f q).2 = []) := by
  by_cases h0 : q.flt = 0
  · have : q.i < T.length := hi
    have := hf h0
    cases f with
    | zero => omega
    | succ f =>
      unfold versL
      by_cases hb : q.is T 4 [125] = true
      · rw [if_neg (fun z => by rw [hb] at z; exact absurd z.2 (by decide))]
        exact ⟨rfl, fun _ => rfl⟩
      · have hbf : q.is T 4 [125] = false := by simpa using hb
        rw [if_pos ⟨h0, hbf⟩]
        have hnf := fail_flt (p := q) (a := (q.tok T).a) (e := 90) (by decide)
        have em : q.mark T 125 = q.fail (q.tok T).a 90 := by unfold PS.mark PS.want; rw [if_neg hb]
        show (versL T f (q.version T).1).1.mark T 125 = _ ∧ _
        rw [version_bad h, vers_stuck hnf, em]
        exact ⟨mark_stuck hnf 125, fun z => absurd z hnf⟩
  · rw [vers_stuck h0]
    exact ⟨rfl, fun _ => rfl⟩
theorem go_vers {T : List Tk} : ∀ (f : Nat) (q : PS), Go_ q (versL T f q).1 := by
  intro f
  induction f with
  | zero => exact fun q => Go_.refl q
  | succ f ih =>
    intro q
    unfold versL
    split
    · exact (go_version_any T q).trans (ih _)
    · exact Go_.refl q

/-- what an event answers -/
def EvAt (g : Nat) (A : Option Addr) (c : Nat) (T : List Tk) (p : PS) (w : World) (e : Ending) (w' : World) : Prop :=
  ∃ x : LEv, e = .returned (.agg x.C) ∧ RS w' g A c T (p.event T).1 ∧ Gn g w w' ∧ EvLev.H w' w.heap.size x ∧ ((p.event T).1.flt = 0 → x.ev = (p.event T).2)
theorem event_eq (T : List Tk) (p : PS) : p.event T = ((versL T (T.length + 1) (((((p.word T [101, 118, 101, 110, 116]).name T).1).mark T 123).version T).1).1.mark T 125, ⟨((p.word T [101, 118, 101, 110, 116]).name T).2, (((((p.word T [101, 118, 101, 110, 116]).name T).1).mark T 123).version T).2 :: (versL T (T.length + 1) (((((p.word T [101, 118, 101, 110, 116]).name T).1).mark T 123).version T).1).2, (p.tok T).a⟩) := by
  unfold PS.event
  rw [ls_event]

set_option maxRecDepth 100000 in
set_option maxHeartbeats 8000000 in
theorem cevent_any {w : World} {g : Nat} {A : Option Addr} {c : Nat} {T : List Tk} {p : PS} (h : RS w g A c T p) (hev : p.is T 1 [101, 118, 101, 110, 116] = true) :
    Calls Tryz.prog 34 #[.pointer (some ⟨g, 0, none⟩)] w (EvAt g A c T p w) := by
  have hgl := h.len
  have hfew := h.few
  have hV := event_eq T p
  have hw1 := word_next hev
  obtain ⟨q1, n1, hq1⟩ : ∃ q n, (p.word T [101, 118, 101, 110, 116]).name T = (q, n) := ⟨_, _, rfl⟩
  rw [hq1] at hV
  dsimp only at hV
  obtain ⟨q0, hq0⟩ : ∃ q, q1.mark T 123 = q := ⟨_, rfl⟩
  rw [hq0] at hV
  obtain ⟨qv, v1, hqv⟩ : ∃ q v, q0.version T = (q, v) := ⟨_, _, rfl⟩
  rw [hqv] at hV
  dsimp only at hV
  obtain ⟨S, L, hSL⟩ : ∃ S L, versL T (T.length + 1) qv = (S, L) := ⟨_, _, rfl⟩
  rw [hSL] at hV
  dsimp only at hV
  obtain ⟨E, hE⟩ : ∃ E, S.mark T 125 = E := ⟨_, rfl⟩
  rw [hE] at hV
  obtain ⟨a0, ha0⟩ : ∃ a, (p.tok T).a = a := ⟨_, rfl⟩
  rw [ha0] at hV
  have g2 : Go_ (p.word T [101, 118, 101, 110, 116]) q1 := go_nm hq1
  have g3 : Go_ q1 q0 := by rw [← hq0]; exact go_mark T q1 123
  have g4 : Go_ q0 qv := by have := go_version_any T q0; rw [hqv] at this; exact this
  have hi0 : 1 ≤ q0.i := by
    have a1 : p.next.i = p.i + 1 := rfl
    rw [hw1] at g2
    have a2 := g2.1
    have a3 := g3.1
    omega
  have HV := Lib.hid hV
  have hb1 : Below w.heap.size w (w.alloc (.cells #[.string ⟨#[]⟩, .slice none 0 0, .int .i64 0] 48)) := (Below.refl _ w).alloc (Nat.le_refl _) _
  have hc1 : CB (w.alloc (.cells #[.string ⟨#[]⟩, .slice none 0 0, .int .i64 0] 48)) w.heap.size 48 #[.string ⟨#[]⟩, .slice none 0 0, .int .i64 0] := CB.new w _ _
  obtain ⟨p1, hp1⟩ : ∃ q, p.word T [101, 118, 101, 110, 116] = q := ⟨_, rfl⟩
  rw [hp1] at hq1 g2
  have cw : Calls Tryz.prog 63 #[.pointer (some ⟨g, 0, none⟩), .string ⟨#[101, 118, 101, 110, 116]⟩] (w.alloc (.cells #[.string ⟨#[]⟩, .slice none 0 0, .int .i64 0] 48)) fun e w' => e = .returned (.int .i64 (a0 : Nat)) ∧ RS w' g A c T p1 ∧ Gn g (w.alloc (.cells #[.string ⟨#[]⟩, .slice none 0 0, .int .i64 0] 48)) w' := by
    have := cword_any (h.below hb1) [101, 118, 101, 110, 116]
    rw [if_pos hev, ha0, hp1] at this
    exact this
  have START : Hid (∀ w2, RS w2 g A c T p1 → Gn g (w.alloc (.cells #[.string ⟨#[]⟩, .slice none 0 0, .int .i64 0] 48)) w2 → w.heap.size < w2.heap.size ∧ GF VeLev 48 (.string ⟨#[]⟩) w (w2.alloc (.cells #[.string ⟨#[]⟩, .slice none 0 0, .int .i64 (a0 : Nat)] 48)) g A c T p1 w.heap.size w2.heap.size (.string ⟨#[]⟩) a0 none 0 []) := fun w2 hr hg => by
    have hc2 := hc1.keep (hg.other hc1.len (by omega))
    exact ⟨hc2.len, gf_start hr hc2 ((Gn.of hb1).trans hg) hgl (Nat.le_refl _) _ _⟩
  have NAM : Hid (∀ W b3, GF VeLev 48 (.string ⟨#[]⟩) w W g A c T p1 w.heap.size b3 (.string ⟨#[]⟩) a0 none 0 [] → Calls Tryz.prog 64 #[.pointer (some ⟨g, 0, none⟩)] W fun e w' => e = .returned (.string (str n1)) ∧ w'.cell? ⟨b3, 0, none⟩ = some (.string ⟨#[]⟩) ∧ w'.frozen? ⟨b3, 0, none⟩ = false ∧
      Hid (Calls Tryz.prog 65 #[.pointer (some ⟨g, 0, none⟩), .string ⟨#[123]⟩] (w'.setCell ⟨b3, 0, none⟩ (.string (str n1))) fun e w4 => e = .returned (.tuple #[]) ∧ Hid (GF VeLev 48 (.string ⟨#[]⟩) w w4 g A c T q0 w.heap.size b3 (.string (str n1)) a0 none 0 []))) := fun W b3 F => by
    have cn := cname_any F.rs
    rw [hq1] at cn
    refine cn.mono ?_
    rintro e w' ⟨rfl, hr, hg⟩
    have F2 := F.call veLev hg hr g2.1
    have F3 := F2.head veLev (.string (str n1))
    refine ⟨rfl, F2.s3.at_ 0, F2.s3.frozen 0, (mk_any F3.rs 123).mono ?_⟩
    rintro e w4 ⟨rfl, hr4, hg4⟩
    rw [hq0] at hr4
    exact ⟨rfl, F3.call veLev hg4 hr4 g3.1⟩
  -- a version more
  have ITEM : Hid (∀ W b3 q As cs vs, GF VeLev 48 (.string ⟨#[]⟩) w W g A c T q w.heap.size b3 (.string (str n1)) a0 As cs vs → vs.length + 1 ≤ (q.version T).1.i → Calls Tryz.prog 66 #[.pointer (some ⟨g, 0, none⟩)] W fun e w5 => ∃ x : LVe, e = .returned (.agg #[.int .u64 (x.num : Nat), .slice x.A x.st.length x.c, .int .i64 (x.at_ : Nat)]) ∧ ∃ g4 c4 w6,
      Hid ((Builtin.append_ #[46, 46] 46 #[.slice As vs.length cs, .slice (some ⟨w5.heap.size, 0, none⟩) 1 1]).run Tryz.prog (w5.alloc (.cells #[.int .u64 (x.num : Nat), .slice x.A x.st.length x.c, .int .i64 (x.at_ : Nat)] 45)) = .ok (.slice (some ⟨g4, 0, none⟩) (vs.length + 1) c4) w6) ∧
      w5.cell? ⟨b3, 1, none⟩ = some (.slice As vs.length cs) ∧ b3 < w5.heap.size ∧ w6.cell? ⟨b3, 1, none⟩ = some (.slice As vs.length cs) ∧ w6.frozen? ⟨b3, 1, none⟩ = false ∧
      Hid (GF VeLev 48 (.string ⟨#[]⟩) w (w6.setCell ⟨b3, 1, none⟩ (.slice (some ⟨g4, 0, none⟩) (vs.length + 1) c4)) g A c T (q.version T).1 w.heap.size b3 (.string (str n1)) a0 (some ⟨g4, 0, none⟩) c4 (vs ++ [x])) ∧ Hid ((q.version T).1.flt = 0 → x.ve = (q.version T).2)) := fun W b3 q As cs vs FW hfw => by
    refine (cversion_any FW.rs).mono ?_
    rintro e w5 ⟨x, rfl, hr5, hg5, hH5, hx5⟩
    obtain ⟨g4, c4, w6, hrun, k1, k2, k3, k4, k5⟩ := FW.item veLev appVe hg5 hr5 hH5 (go_version_any T q).1 hfw
    exact ⟨x, rfl, g4, c4, w6, hrun, k1, k2, k3, k4, k5, hx5⟩
  have gS : Go_ qv E := by
    have := go_vers (T := T) (T.length + 1) qv
    rw [hSL] at this
    exact this.trans (by rw [← hE]; exact go_mark T S 125)
  have SSTART : Hid (∀ x : LVe, ((q0.version T).1.flt = 0 → x.ve = (q0.version T).2) → ∃ f, (qv.flt = 0 → T.length ≤ qv.i + f) ∧ (versL T f qv).1.mark T 125 = E ∧ (E.flt = 0 → v1 :: L = [x].map (·.ve) ++ (versL T f qv).2)) := fun x hx => ⟨T.length + 1, fun _ => by omega, by rw [hSL]; exact hE, fun z => by
    rw [hSL]
    rw [hqv] at hx
    have := hx (flt_back gS z)
    dsimp only at this
    rw [List.map_singleton, this]
    rfl⟩
  have HQV : Hid ((q0.version T).1 = qv) := by unfold Hid; rw [hqv]
  have HI1 : Hid (([] : List LVe).length + 1 ≤ (q0.version T).1.i) := by unfold Hid; rw [hqv]; have := g4.1; show 0 + 1 ≤ qv.i; omega
  clear h hp1 hq1 hq0 hSL hE hV g2 g3 g4 ha0 hw1 hev hqv gS
  go_enter Tryz.func34, Tryz.ntmps34
  go_wp2_with (first
    | (go_at_call 63; refine cw.mono ?_; rintro e w2 ⟨rfl, hr2, hg2⟩; obtain ⟨hl2, F2⟩ := START.out w2 hr2 hg2; have cn2 := NAM.out _ _ F2; clear hr2 hg2 F2)
    | (go_at_call 64; refine cn2.mono ?_; rintro e w3 ⟨rfl, c3, f3, cm3⟩)
    | (go_at_call 65; refine cm3.out.mono ?_; rintro e w4 ⟨rfl, F4⟩))
  obtain ⟨b3, hb3⟩ : ∃ b3, w2.heap.size = b3 := ⟨_, rfl⟩
  rw [hb3] at hl2 F4
  simp only [hb3]
  clear cn2 c3 f3 cm3 cw START NAM hc1 hb1
  have d4 : w4.cell? ⟨b3, 1, none⟩ = some (.slice none 0 0) := F4.out.s3.at_ 1
  have FD : GF VeLev 48 (.string ⟨#[]⟩) w w4.drew g A c T q0 w.heap.size b3 (.string (str n1)) a0 none 0 [] := F4.out.call veLev (Gn.of (Below.thenN (Below.refl _ _) 1)) (F4.out.rs.below (Below.thenN (Below.refl _ _) 1)) (Nat.le_refl _)
  have cv4 := ITEM.out w4.drew b3 q0 none 0 [] FD HI1.out
  clear FD
  go_region_law (first
    | (refine step_append_run rfl (.tmp 13) (.tmp 16) _ rfl rfl rfl HRUN.out ?_)
    | (go_simp; go_at_call 66; refine cv4.mono ?_; rintro e w7 ⟨x1, rfl, g4, c4, w8, HRUN, d7, l7, d8, f8, HG8, HX8⟩))
  all_goals
    rw [HQV.out] at HG8
    have HS0 := Lib.hid (SSTART.out x1 HX8.out)
    go_wp2
    clear HRUN d7 l7 d8 f8 HX8 cv4 d4 F4
    go_loopg [] (T.length) (fun k wr => ∃ (q : PS) (As : Option Addr) (cs : Nat) (vs : List LVe), Hid (GF VeLev 48 (.string ⟨#[]⟩) w wr g A c T q w.heap.size b3 (.string (str n1)) a0 As cs vs) ∧ Hid (∃ f, (q.flt = 0 → T.length ≤ q.i + f) ∧ (versL T f q).1.mark T 125 = E ∧ (E.flt = 0 → v1 :: L = vs.map (·.ve) ++ (versL T f q).2)) ∧ T.length - q.i ≤ k)
    case atStart => exact ⟨qv, _, c4, [x1], HG8, HS0, by omega⟩
    case round =>
      obtain ⟨q, As, cs, vs, HF, HS, hk⟩ := hrel
      have hin : q.i < T.length := HF.out.rs.inn
      have d1 : wr.cell? ⟨b3, 1, none⟩ = some (.slice As vs.length cs) := HF.out.s3.at_ 1
      have hl3 := HF.out.s3.len
      obtain ⟨b, hb⟩ : ∃ b, q.is T 1 [118, 101, 114, 115, 105, 111, 110] = b := ⟨_, rfl⟩
      have ca : Calls Tryz.prog 33 #[.pointer (some ⟨g, 0, none⟩), .string ⟨#[118, 101, 114, 115, 105, 111, 110]⟩] wr fun e w' => e = .returned (.bool b) ∧ Below wr.heap.size wr w' := by
        have := catWord_any HF.out.rs [118, 101, 114, 115, 105, 111, 110]
        rw [hb] at this
        exact this
      cases b with
      | false =>
        have END : Hid (∀ W, Below wr.heap.size wr W → Calls Tryz.prog 65 #[.pointer (some ⟨g, 0, none⟩), .string ⟨#[125]⟩] W fun e w4 => e = .returned (.tuple #[]) ∧ Hid (GF VeLev 48 (.string ⟨#[]⟩) w w4 g A c T E w.heap.size b3 (.string (str n1)) a0 As cs vs ∧ (E.flt = 0 → v1 :: L = vs.map (·.ve)))) := fun W hW => by
          obtain ⟨f, hf, h1, h2⟩ := HS.out
          obtain ⟨e1, e2⟩ := vers_end HF.out.rs.inn hb hf
          rw [e1] at h1
          refine (mk_any (HF.out.rs.below hW) 125).mono ?_
          rintro e w4 ⟨rfl, hr4, hg4⟩
          rw [h1] at hr4 e2
          have hi : q.i ≤ E.i := by rw [← h1]; exact (go_mark T q 125).1
          refine ⟨rfl, (HF.out.call veLev ((Gn.of hW).trans hg4) hr4 hi), fun z => ?_⟩
          rw [h2 z, e2 z, List.append_nil]
        clear hb
        go_wp2_with (first
          | (go_at_call 33; refine ca.mono ?_; rintro e w5 ⟨rfl, hb5⟩)
          | (go_at_call 65; refine (END.out _ hb5).mono ?_; rintro e w7 ⟨rfl, F7⟩)
          | (refine wpList_load_cb rfl 48 (.tmp 3) rfl _ _ rfl F7.out.1.s3 Tryz.underlying48 rfl (by kernel_rfl) ?_)
          | (refine wpList_store_cb rfl 48 (.tmp 2) (.tmp 30) rfl w.heap.size _ _ rfl rfl F7.out.1.r2 rfl (by kernel_rfl) (by kernel_rfl) ?_; intro w9 h9 t9))
        obtain ⟨z1, z2, z3⟩ := F7.out.1.close veLev t9
        refine bodyPost_ret (results_cb rfl _ _ _ _ rfl h9 Tryz.underlying48 rfl (by kernel_rfl)) rfl ?_
        refine ⟨⟨n1, a0, vs, As, cs⟩, rfl, by rw [HV.out]; exact z1, z2, z3, fun zf => ?_⟩
        rw [HV.out] at zf ⊢
        show (⟨n1, vs.map (·.ve), a0⟩ : Ev) = ⟨n1, v1 :: L, a0⟩
        rw [F7.out.2 zf]
      | true =>
        have STEP := Lib.hid (fun (W : World) (hW : Below wr.heap.size wr W) => ITEM.out W b3 q As cs vs (HF.out.call veLev (Gn.of hW) (HF.out.rs.below hW) (Nat.le_refl _)) (by have := go_version_on hb; have := HF.out.few; omega))
        have NXT : Hid (q.i + 1 ≤ (q.version T).1.i ∧ ∀ x : LVe, ((q.version T).1.flt = 0 → x.ve = (q.version T).2) → ∃ f, ((q.version T).1.flt = 0 → T.length ≤ (q.version T).1.i + f) ∧ (versL T f (q.version T).1).1.mark T 125 = E ∧ (E.flt = 0 → v1 :: L = (vs ++ [x]).map (·.ve) ++ (versL T f (q.version T).1).2)) := by
          refine ⟨go_version_on hb, fun x hx => ?_⟩
          obtain ⟨f, hf, h1, h2⟩ := HS.out
          have h0 := (is_ok q hb).1
          have := hf h0
          cases f with
          | zero => omega
          | succ f =>
            rw [vers_on hb] at h1 h2
            refine ⟨f, fun _ => by have := go_version_on hb; omega, h1, fun z => ?_⟩
            have gE : Go_ (q.version T).1 E := by
              rw [← h1]
              exact (go_vers f _).trans (go_mark T _ 125)
            rw [h2 z, List.map_append, List.append_assoc, ← hx (flt_back gE z)]
            rfl
        clear hb
        go_wp2_with (go_at_call 33; refine ca.mono ?_; rintro e w5 ⟨rfl, hb5⟩; have d6 := (hb5.cell (p := ⟨b3, 1, none⟩) hl3).trans d1; have hb57 : Below wr.heap.size wr w5.drew := Below.thenN hb5 1)
        go_region_law (first
          | (refine step_append_run rfl (.tmp 22) (.tmp 25) _ rfl rfl rfl HRUN.out ?_)
          | (go_simp; go_at_call 66; refine (STEP.out _ hb57).mono ?_; rintro e w7 ⟨x, rfl, g4, c4, w8, HRUN, d7, l7, d8, f8, HG8, HX8⟩))
        all_goals
          go_wp2
          go_roundg (gk - 1)
          case measure => omega
          case rel =>
            have hn := NXT.out.1
            exact ⟨_, _, c4, vs ++ [x], HG8, NXT.out.2 x HX8.out, by omega⟩
end Go.Proofs.YtipcgmaobiobbaaGreatDoor
