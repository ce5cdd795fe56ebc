/- The reference's parser as one state: what each small call does to it. No walk here. -/
import Derived.Test.YtbngelinfpaefaaGreatDoorParRa
namespace Go.Proofs.YtbngelinfpaefaaGreatDoor
open Go.RowKit

/-- what a state of an expression bears: how much there is, how many levels are open -/
structure Fit (p : PS) : Prop where
  n : p.nds.length ≤ p.i
  d : p.dps.length ≤ p.i
  hi : p.opn ≤ 100
  lo : -1 ≤ p.opn
  at_ : p.flt = 0 → 0 ≤ p.opn
theorem Fit.ex {T : List Tk} {p q : PS} (h : Fit p) (e : Ex1 T p q) : Fit q := by
  have l1 := e.ln.1
  have l2 := e.ln.2
  have a := h.n
  have b := h.d
  have c := h.hi
  have d := h.lo
  refine ⟨by omega, by omega, ?_, ?_, fun z => ?_⟩
  · rcases e.opn with o | ⟨_, o⟩ <;> omega
  · rcases e.opn with o | ⟨f, o⟩
    · omega
    · by_cases z : p.flt = 0
      · have := h.at_ z; omega
      · rw [e.stuck z]; omega
  · have := h.at_ (flt_back e.go z)
    rcases e.opn with o | ⟨f, o⟩
    · omega
    · exact absurd z f
/-- what calls at an expression leave as it was: all blocks but the parser's and its two rows; the rows stay or are new -/
structure Xr (g gn gd gn' gd' : Nat) (a w : World) : Prop where
  os : w.os = a.os
  tape : w.tape = a.tape
  output : w.output = a.output
  size : a.heap.size ≤ w.heap.size
  block : ∀ k, k < a.heap.size → k ≠ g → k ≠ gn → k ≠ gd → w.heap[k]? = a.heap[k]?
  n : gn' = gn ∨ a.heap.size ≤ gn'
  d : gd' = gd ∨ a.heap.size ≤ gd'
theorem Xr.refl (g gn gd : Nat) (w : World) : Xr g gn gd gn gd w w := ⟨rfl, rfl, rfl, Nat.le_refl _, fun _ _ _ _ _ => rfl, .inl rfl, .inl rfl⟩
theorem Xr.of {g gn gd : Nat} {a w : World} (h : Below a.heap.size a w) : Xr g gn gd gn gd a w := ⟨h.os, h.tape, h.output, h.size, fun k hk _ _ _ => h.block k hk, .inl rfl, .inl rfl⟩
theorem Xr.grown {g gn gd : Nat} {a w : World} (h : Grown g a w) : Xr g gn gd gn gd a w := ⟨h.os, h.tape, h.output, h.size, fun k hk hg _ _ => h.block k hk fun e => hg (Option.some.inj e), .inl rfl, .inl rfl⟩
theorem Xr.trans {g gn gd gn1 gd1 gn2 gd2 : Nat} {a b c : World} (h : Xr g gn gd gn1 gd1 a b) (k : Xr g gn1 gd1 gn2 gd2 b c) : Xr g gn gd gn2 gd2 a c := by
  have hs := h.size
  refine ⟨k.os.trans h.os, k.tape.trans h.tape, k.output.trans h.output, Nat.le_trans h.size k.size, fun i hi h1 h2 h3 => ?_, ?_, ?_⟩
  · refine (k.block i (by omega) h1 ?_ ?_).trans (h.block i hi h1 h2 h3)
    · rcases h.n with e | e <;> omega
    · rcases h.d with e | e <;> omega
  · rcases k.n with e | e
    · rw [e]; exact h.n
    · exact .inr (by omega)
  · rcases k.d with e | e
    · rw [e]; exact h.d
    · exact .inr (by omega)
/-- the state of an expression's parser: its block, its two rows from B on -/
structure PSe (w : World) (g B : Nat) (A : Option Addr) (c : Nat) (T : List Tk) (p : PS) (gn gd : Nat) : Prop where
  pb : ∃ cn cd, PB w g A T.length c p (.slice (some ⟨gn, 0, none⟩) p.nds.length cn) (.slice (some ⟨gd, 0, none⟩) p.dps.length cd) ∧ OwnN w B (some ⟨gn, 0, none⟩) cn p.nds ∧ OwnD w B (some ⟨gd, 0, none⟩) cd p.dps
  ne : gn ≠ gd
  pt : PT w g A T p
  gB : g < B
  Bw : B ≤ w.heap.size
  few : ∀ d ∈ p.dps, d ≤ 100
section
variable {w w' : World} {g B : Nat} {A : Option Addr} {c : Nat} {T : List Tk} {p : PS} {gn gd : Nat}
theorem PSe.len (h : PSe w g B A c T p gn gd) : g < w.heap.size := by
  obtain ⟨cn, cd, h1, _⟩ := h.pb
  exact h1.len
theorem PSe.rows (h : PSe w g B A c T p gn gd) : (B ≤ gn ∧ gn < w.heap.size) ∧ B ≤ gd ∧ gd < w.heap.size := by
  obtain ⟨cn, cd, _, h2, h3⟩ := h.pb
  exact ⟨h2.cap, h3.cap.2⟩
theorem PSe.below (h : PSe w g B A c T p gn gd) (hb : Below w.heap.size w w') : PSe w' g B A c T p gn gd := by
  obtain ⟨cn, cd, h1, h2, h3⟩ := h.pb
  exact ⟨⟨cn, cd, h1.below hb, h2.then_ hb, h3.then_ hb⟩, h.ne, h.pt.grown h1.len (.of hb), h.gB, Nat.le_trans h.Bw hb.size, h.few⟩
/-- behind a call that wrote the parser's block alone -/
theorem PSe.turn {q : PS} {cn cd : Nat} (h : PSe w g B A c T p gn gd) (h2 : OwnN w B (some ⟨gn, 0, none⟩) cn p.nds) (h3 : OwnD w B (some ⟨gd, 0, none⟩) cd p.dps)
    (hn : q.nds = p.nds) (hd : q.dps = p.dps) (hi : In_ T q) (hP : PB w' g A T.length c q (.slice (some ⟨gn, 0, none⟩) p.nds.length cn) (.slice (some ⟨gd, 0, none⟩) p.dps.length cd)) (hG : Grown g w w') : PSe w' g B A c T q gn gd ∧ Xr g gn gd gn gd w w' := by
  have gB := h.gB
  have k2 : gn ≠ g := by have := h2.cap.1; omega
  have k3 : gd ≠ g := by have := h3.cap.2.1; omega
  have b2 := hG.block gn h2.cap.2 (fun e => k2 (Option.some.inj e))
  have b3 := hG.block gd h3.cap.2.2 (fun e => k3 (Option.some.inj e))
  exact ⟨⟨⟨cn, cd, by rw [hn, hd]; exact hP, by rw [hn]; exact own_keep h2 b2, by rw [hd]; exact own_keep h3 b3⟩, h.ne, (h.pt.grown h.len hG).of hi, h.gB, Nat.le_trans h.Bw hG.size, by rw [hd]; exact h.few⟩, Xr.grown hG⟩
theorem PSe.cells (h : PSe w g B A c T p gn gd) : w.cell? ⟨g, 1, none⟩ = some (.int .i64 (p.i : Nat)) ∧ w.cell? ⟨g, 3, none⟩ = some (.int .i64 (p.flt : Nat)) ∧ w.cell? ⟨g, 6, none⟩ = some (.int .i64 p.opn) ∧ w.frozen? ⟨g, 1, none⟩ = false ∧ w.frozen? ⟨g, 6, none⟩ = false := by
  obtain ⟨cn, cd, h1, _⟩ := h.pb
  obtain ⟨_, c1, _, c3, _, _, c6⟩ := h1.cells
  exact ⟨c1, c3, c6, h1.frozen 1, h1.frozen 6⟩
theorem PSe.i_lt (h : PSe w g B A c T p gn gd) : p.i < T.length ∧ T.length ≤ 2000000 := ⟨h.pt.inn, h.pt.few⟩
/-- the next token taken -/
theorem PSe.next (h : PSe w g B A c T p gn gd) (hk : (p.tok T).k ≠ 0) : PSe (w.setCell ⟨g, 1, none⟩ (.int .i64 ((p.i : Int) + 1))) g B A c T p.next gn gd ∧ Xr g gn gd gn gd w (w.setCell ⟨g, 1, none⟩ (.int .i64 ((p.i : Int) + 1))) := by
  obtain ⟨cn, cd, h1, h2, h3⟩ := h.pb
  exact h.turn (q := p.next) h2 h3 rfl rfl (in_next h.pt.ends h.pt.inn hk) h1.next ((Grown.refl g w).set 1 _)
/-- a level shut -/
theorem PSe.shut (h : PSe w g B A c T p gn gd) : PSe (w.setCell ⟨g, 6, none⟩ (.int .i64 (p.opn - 1))) g B A c T p.shut gn gd ∧ Xr g gn gd gn gd w (w.setCell ⟨g, 6, none⟩ (.int .i64 (p.opn - 1))) := by
  obtain ⟨cn, cd, h1, h2, h3⟩ := h.pb
  exact h.turn (q := p.shut) h2 h3 rfl rfl h.pt.inn (h1.setO (p.opn - 1)) ((Grown.refl g w).set 6 _)
theorem xis_any (h : PSe w g B A c T p gn gd) (k : Nat) (s : List UInt8) :
    Calls Tryz.prog 24 #[.pointer (some ⟨g, 0, none⟩), .int .i64 (k : Nat), .string (str s)] w fun r w' => r = .returned (.bool (p.is T k s)) ∧ Below w.heap.size w w' := by
  obtain ⟨cn, cd, h1, h2, h3⟩ := h.pb
  exact ris_any h1 h.pt k s
theorem xtok_any (h : PSe w g B A c T p gn gd) {x : Tk} (hx : p.tok T = x) :
    Calls Tryz.prog 46 #[.pointer (some ⟨g, 0, none⟩)] w fun e w' => e = .returned (.agg #[.int .i64 (x.k : Nat), .string (str x.t), .int .u64 (x.n : Nat), .int .i64 (x.a : Nat), .int .i64 (x.e : Nat)]) ∧ Below w.heap.size w w' := by
  obtain ⟨cn, cd, h1, h2, h3⟩ := h.pb
  exact rtok_parts h1 h.pt hx (Below.refl _ _)
theorem xfail_any (h : PSe w g B A c T p gn gd) (a e : Nat) :
    Calls Tryz.prog 51 #[.pointer (some ⟨g, 0, none⟩), .int .i64 (a : Nat), .int .i64 (e : Nat)] w fun r w' => r = .returned (.tuple #[]) ∧ PSe w' g B A c T (p.fail a e) gn gd ∧ Xr g gn gd gn gd w w' := by
  obtain ⟨cn, cd, h1, h2, h3⟩ := h.pb
  refine (rfail_any h1 a e).mono ?_
  rintro r w' ⟨rfl, hP, hG⟩
  exact ⟨rfl, h.turn (q := p.fail a e) h2 h3 (fail_same p a e).2.1 (fail_same p a e).1 (in_fail h.pt.inn _ _) hP hG⟩
theorem xmark_any (h : PSe w g B A c T p gn gd) (m : UInt8) :
    Calls Tryz.prog 49 #[.pointer (some ⟨g, 0, none⟩), .string (str [m])] w fun r w' => r = .returned (.tuple #[]) ∧ PSe w' g B A c T (p.mark T m) gn gd ∧ Xr g gn gd gn gd w w' := by
  obtain ⟨cn, cd, h1, h2, h3⟩ := h.pb
  refine (rmark_any h1 h.pt m).mono ?_
  rintro r w' ⟨rfl, hP, hG⟩
  exact ⟨rfl, h.turn (q := p.mark T m) h2 h3 (want_same T p 4 [m]).2.1 (want_same T p 4 [m]).1 (in_want h.pt.ends h.pt.inn 4 (by decide) [m]) hP hG⟩
theorem xlevel_any (h : PSe w g B A c T p gn gd) (hf : Fit p) (hk : p.flt = 0 → (p.tok T).k ≠ 0) :
    Calls Tryz.prog 142 #[.pointer (some ⟨g, 0, none⟩)] w fun r w' => r = .returned (.tuple #[]) ∧ PSe w' g B A c T (p.level T) gn gd ∧ Xr g gn gd gn gd w w' := by
  obtain ⟨cn, cd, h1, h2, h3⟩ := h.pb
  have hlo := hf.lo
  refine (rlevel_any h1 h.pt hf.hi (by omega)).mono ?_
  rintro r w' ⟨rfl, hP, hG⟩
  have hd : (p.level T).dps = p.dps := by
    unfold PS.level
    split
    · rfl
    · split
      · exact (fail_same p _ _).1
      · rfl
  exact ⟨rfl, h.turn (q := p.level T) h2 h3 level_nds hd (in_level h.pt.ends h.pt.inn hk) hP hG⟩
end
end Go.Proofs.YtbngelinfpaefaaGreatDoor
