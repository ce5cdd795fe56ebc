/- The walks of the code: a number, a text, written. -/
import Derived.Test.YtipcgmaobiobbaaGreatDoorPrFmt
namespace Go.Proofs.YtipcgmaobiobbaaGreatDoor
open Go.RowKit

/-- what an expression's writers stand on: its block and rows, its nodes below B, the table of tens -/
structure Ec (w : World) (g B x f d : Nat) (A : Option Addr) (c : Nat) (N : List Rn) (F D : List Nat) : Prop where
  xb : Xb w x f d A c N F D
  rn : RN w B A N
  kn : Known N F D N.length
  ten : Ten w B
  xg : x ≠ g ∧ f ≠ g ∧ d ≠ g
  few : N.length ≤ 2932031007402
  num : ∀ y ∈ N, y.num < 18446744073709551616 ∧ y.t.length ≤ 9223372036854775807
theorem Ec.pr {w w' : World} {g B x f d : Nat} {A : Option Addr} {c : Nat} {N : List Rn} {F D : List Nat} (h : Ec w g B x f d A c N F D) (hp : Pr g B w w') : Ec w' g B x f d A c N F D :=
  ⟨h.xb.pr hp h.xg.1 h.xg.2.1 h.xg.2.2, h.rn.below hp.bl, h.kn, h.ten.below hp.bl, h.xg, h.few, h.num⟩
/-- what a subtree's writer answers -/
abbrev PutT (g B : Nat) (t s : List UInt8) (lg dp : Bool) (w : World) : Ending → World → Prop := WrAt g B (t ++ s) (over t s.length lg) dp w

set_option maxRecDepth 100000 in
set_option maxHeartbeats 4000000 in
theorem pnumber_any {w : World} {g B x f d : Nat} {A : Option Addr} {c : Nat} {N : List Rn} {F D : List Nat} {t : List UInt8} {lg dp : Bool} {r : Nat} {y : Rn} (h : Wr w g B t lg dp) (hE : Ec w g B x f d A c N F D) (hy : N[r]? = some y) :
    Calls Tryz.prog 43 #[.pointer (some ⟨g, 0, none⟩), .agg #[.pointer (some ⟨x, 0, none⟩), .int .i64 (r : Nat)]] w (PutT g B t (Lib.decDigits y.num) lg dp w) := by
  have hB := h.Bw
  have hnum := (hE.num y (List.mem_of_getElem? hy)).1
  obtain ⟨w1, hw1⟩ : ∃ w1, w.alloc (.cells #[.pointer (some ⟨x, 0, none⟩), .int .i64 (r : Nat)] 97) = w1 := ⟨_, rfl⟩
  have b1 : Below w.heap.size w w1 := by rw [← hw1]; exact (Below.refl _ w).alloc (Nat.le_refl _) _
  have k1 : CB w1 w.heap.size 97 #[.pointer (some ⟨x, 0, none⟩), .int .i64 (r : Nat)] := by rw [← hw1]; exact CB.new w _ _
  have c0 : w1.cell? ⟨w.heap.size, 0, none⟩ = some (.pointer (some ⟨x, 0, none⟩)) := k1.at_ 0
  have c1 : w1.cell? ⟨w.heap.size, 1, none⟩ = some (.int .i64 (r : Nat)) := k1.at_ 1
  have cn := pnode_any (hE.xb.below b1) (hE.rn.below (b1.mono hB)) (Nat.le_trans hB b1.size) hy
  have CF := Lib.hid (fun W (hW : Below w.heap.size w W) => pfmt_any (hE.ten.below (hW.mono hB)) hnum)
  have CP : Hid (∀ W, Below w.heap.size w W → Calls Tryz.prog 29 #[.pointer (some ⟨g, 0, none⟩), .string (str (Lib.decDigits y.num))] W fun e w' => e = .returned (.tuple #[]) ∧ Hid (Wr w' g B (t ++ Lib.decDigits y.num) (over t (Lib.decDigits y.num).length lg) dp ∧ Pr g B w w')) := fun W hW => by
    refine (pput_any (h.below hW) (str (Lib.decDigits y.num)) ?_).mono ?_
    · rw [str_size, Lib.decDigits_length]
      have hn : Lib.nDigits y.num ≤ 20 := by
        by_cases h1 : 1 ≤ y.num
        · have := Lib.numDigits_eq y.num h1 hnum
          split at this <;> omega
        · have : y.num = 0 := by omega
          rw [this, ← Lib.decDigits_length, Lib.decDigits_one (by decide)]
          decide
      omega
    · rintro e w' ⟨he, h1, h2⟩
      rw [ls_str, str_size] at h1
      exact ⟨he, h1, (Pr.of hW hB).trans h2⟩
  have ff : ∀ W, (Instr.field 64 (.agg #[.int .i64 y.op, .int .i64 y.n, .int .u64 (y.num : Nat), .string (str y.t), .int .i64 y.a]) 2).run Tryz.prog W = .ok (.int .u64 (y.num : Nat)) W := fun _ => by kernel_rfl
  unfold PutT WrAt
  clear h hE hy k1 hnum
  go_enter Tryz.func43, Tryz.ntmps43
  go_wp2_with (first
    | (go_at_call 69; refine cn.mono ?_; rintro e w2 ⟨rfl, hb2⟩; have h2 := b1.trans (hb2.mono b1.size))
    | (go_at_call 52; refine (CF.out _ h2).mono ?_; rintro e w3 ⟨rfl, hb3⟩; have h3 := h2.trans (hb3.mono h2.size))
    | (go_at_call 29; refine (CP.out _ h3).mono ?_; rintro e w4 ⟨rfl, H4⟩))
  go_end0
  exact ⟨rfl, H4.out⟩

set_option maxRecDepth 100000 in
set_option maxHeartbeats 4000000 in
theorem pquoted_any {w : World} {g B x f d : Nat} {A : Option Addr} {c : Nat} {N : List Rn} {F D : List Nat} {t : List UInt8} {lg dp : Bool} {r : Nat} {y : Rn} (h : Wr w g B t lg dp) (hE : Ec w g B x f d A c N F D) (hy : N[r]? = some y) :
    Calls Tryz.prog 44 #[.pointer (some ⟨g, 0, none⟩), .agg #[.pointer (some ⟨x, 0, none⟩), .int .i64 (r : Nat)]] w (PutT g B t (quoteL y.t) lg dp w) := by
  have hB := h.Bw
  have hnum := (hE.num y (List.mem_of_getElem? hy)).2
  obtain ⟨w1, hw1⟩ : ∃ w1, w.alloc (.cells #[.pointer (some ⟨x, 0, none⟩), .int .i64 (r : Nat)] 97) = w1 := ⟨_, rfl⟩
  have b1 : Below w.heap.size w w1 := by rw [← hw1]; exact (Below.refl _ w).alloc (Nat.le_refl _) _
  have k1 : CB w1 w.heap.size 97 #[.pointer (some ⟨x, 0, none⟩), .int .i64 (r : Nat)] := by rw [← hw1]; exact CB.new w _ _
  have c0 : w1.cell? ⟨w.heap.size, 0, none⟩ = some (.pointer (some ⟨x, 0, none⟩)) := k1.at_ 0
  have c1 : w1.cell? ⟨w.heap.size, 1, none⟩ = some (.int .i64 (r : Nat)) := k1.at_ 1
  have cn := pnode_any (hE.xb.below b1) (hE.rn.below (b1.mono hB)) (Nat.le_trans hB b1.size) hy
  have CQ : Hid (∀ W, Below w.heap.size w W → Calls Tryz.prog 77 #[.pointer (some ⟨g, 0, none⟩), .string (str y.t)] W fun e w' => ∃ s, e = .returned (.string (str s)) ∧ Hid (Calls Tryz.prog 29 #[.pointer (some ⟨g, 0, none⟩), .string (str s)] w' fun e w'' => e = .returned (.tuple #[]) ∧ Hid (Wr w'' g B (t ++ quoteL y.t) (over t (quoteL y.t).length lg) dp ∧ Pr g B w w''))) := fun W hW => by
    refine (pquote_any (h.below hW) (str y.t) (by rw [str_size]; exact hnum)).mono ?_
    rintro e w' ⟨he, h1, h2⟩
    rw [ls_str, str_size] at he
    rw [str_size] at h1
    have hge := qbs_ge y.t
    by_cases ho : over t y.t.length lg = true
    · rw [if_pos ho] at he
      rw [ho] at h1
      refine ⟨[], he, (pput_any h1 (str []) (by decide)).mono ?_⟩
      rintro e w'' ⟨he2, h3, h4⟩
      refine ⟨he2, ?_, ((Pr.of hW hB).trans h2).trans h4⟩
      rw [over_mono t y.t.length (quoteL y.t).length lg (by omega) ho]
      exact Wr.room h3
    · have hof : over t y.t.length lg = false := by simpa using ho
      rw [if_neg ho] at he
      rw [hof] at h1
      have hlg : lg = false := by
        unfold over at hof
        simp only [Bool.or_eq_false_iff] at hof
        exact hof.1
      subst hlg
      refine ⟨quoteL y.t, he, (pput_any h1 (str (quoteL y.t)) ?_).mono ?_⟩
      · rw [str_size]
        have := (qbs_len y.t).2
        unfold over at hof
        simp only [Bool.false_or, decide_eq_false_iff_not] at hof
        unfold quoteL
        simp only [List.length_cons, List.length_append, List.length_nil]
        omega
      · rintro e w'' ⟨he2, h3, h4⟩
        rw [ls_str, str_size] at h3
        exact ⟨he2, h3, ((Pr.of hW hB).trans h2).trans h4⟩
  have ff : ∀ W, (Instr.field 64 (.agg #[.int .i64 y.op, .int .i64 y.n, .int .u64 (y.num : Nat), .string (str y.t), .int .i64 y.a]) 3).run Tryz.prog W = .ok (.string (str y.t)) W := fun _ => by kernel_rfl
  unfold PutT WrAt
  clear h hE hy k1 hnum
  go_enter Tryz.func44, Tryz.ntmps44
  go_wp2_with (first
    | (go_at_call 69; refine cn.mono ?_; rintro e w2 ⟨rfl, hb2⟩; have h2 := b1.trans (hb2.mono b1.size))
    | (go_at_call 77; refine (CQ.out _ h2).mono ?_; rintro e w3 ⟨s, rfl, CP⟩)
    | (go_at_call 29; refine CP.out.mono ?_; rintro e w4 ⟨rfl, H4⟩))
  go_end0
  exact ⟨rfl, H4.out⟩
end Go.Proofs.YtipcgmaobiobbaaGreatDoor
