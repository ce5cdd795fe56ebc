/- The walks of the code: an expression written, and Value. -/
import Derived.Test.YtipcgmaobiobbaaGreatDoorPrNew
namespace Go.Proofs.YtipcgmaobiobbaaGreatDoor
open Go.RowKit

/-- raw nodes as they may come in, small enough -/
structure Few (N : List Rn) : Prop where
  few : N.length ≤ 2932031007402
  n : ∀ x ∈ N, x.n ≤ 9223372036854775807
  num : ∀ y ∈ N, y.num < 18446744073709551616 ∧ y.t.length ≤ 9223372036854775807
/-- an expression written, or found too deep -/
def PExpAt (g B : Nat) (t : List UInt8) (e : Pe) (lg dp : Bool) (w : World) (e' : Ending) (w' : World) : Prop :=
  e' = .returned (.tuple #[]) ∧ (if e.dp ≤ 100 then Wr w' g B (t ++ e.tx) (over t e.tx.length lg) dp else Wr w' g B t lg true) ∧ Pr g B w w'
theorem Wr.deep {w : World} {g B : Nat} {t : List UInt8} {lg dp : Bool} (h : Wr w g B t lg dp) : Wr (w.setCell ⟨g, 2, none⟩ (.bool true)) g B t lg true := by
  obtain ⟨⟨p, A, c, l, h1, hl, hlt⟩, hBw⟩ := h
  exact ⟨⟨p, A, c, l, h1.setF 2 _ p true lg rfl h1.p, hl, hlt⟩, by simpa using hBw⟩
theorem Wr.cell2 {w : World} {g B : Nat} {t : List UInt8} {lg dp : Bool} (h : Wr w g B t lg dp) : w.cell? ⟨g, 2, none⟩ = some (.bool dp) ∧ w.frozen? ⟨g, 2, none⟩ = false := by
  obtain ⟨⟨p, A, c, l, h1, _⟩, _⟩ := h
  exact ⟨h1.cells.2.2.1, h1.cb.frozen 2⟩

set_option maxRecDepth 100000 in
set_option maxHeartbeats 4000000 in
theorem pexp_any {w : World} {g B c : Nat} {t : List UInt8} {lg dp : Bool} {A : Option Addr} {N : List Rn} {e : Pe} (h : Wr w g B t lg dp) (hR : RN w B A N) (hT : Ten w B) (hF : Few N) (hE : exprP N = some e) :
    Calls Tryz.prog 22 #[.pointer (some ⟨g, 0, none⟩), .slice A N.length c] w (PExpAt g B t e lg dp w) := by
  have hB := h.Bw
  have hgl := h.len
  obtain ⟨hpos, hat, _⟩ := expr_at hE
  obtain ⟨r, hr⟩ : ∃ r, N.length - 1 = r := ⟨_, rfl⟩
  obtain ⟨n, hn⟩ : ∃ n, N.length = n := ⟨_, rfl⟩
  obtain ⟨v, hv⟩ : ∃ v, e.dp = v := ⟨_, rfl⟩
  have hrl : r < N.length := by omega
  have cw' : Calls Tryz.prog 37 #[.slice A n c] w fun e' w2 => ∃ x gk cs, e' = .returned (.tuple #[.slice (some ⟨gk, 0, none⟩) n cs, .bool true]) ∧ (w2.cell? ⟨gk, r * 2, none⟩ = some (.pointer (some ⟨x, 0, none⟩)) ∧ w2.cell? ⟨gk, r * 2 + 1, none⟩ = some (.int .i64 (r : Nat))) ∧
      Hid (Below w.heap.size w w2 ∧ ∃ f d F D, Ec w2 g B x f d A c N F D) := by
    have q := psubs_any (c := c) (hR.more hB) hF.few hF.n
    rw [hn] at q
    refine q.mono ?_
    rintro e' w2 ⟨m, As, cs, rfl, hb, hm, ⟨P, hP⟩, hno, x, f, d, F, D, hX, hK, ⟨h1, h2, h3⟩, hO⟩
    have hmn : m = N.length := by
      by_cases hlt : m < N.length
      · have := expr_none (m + 1) (hno hlt) hlt
        rw [hE] at this
        cases this
      · omega
    subst hmn
    have hll : (List.range N.length).length = N.length := List.length_range
    obtain ⟨gk, rfl, _, _, hkr⟩ := hO.kr (by rw [hll]; omega)
    obtain ⟨k1, k2, _, _⟩ := hkr.at_ (j := r) (by rw [hll]; omega)
    rw [List.getElem_range] at k2
    exact ⟨x, gk, cs, by rw [hE, hn]; rfl, ⟨k1, k2⟩, hb, f, d, F, D, hX, hR.below (hb.mono hB), hK, hT.below (hb.mono hB), ⟨by omega, by omega, by omega⟩, hF.few, hF.num⟩
  have hr1 : (n : Int) - 1 = (r : Int) := by omega
  have hnb : n ≤ 2932031007402 := by have := hF.few; omega
  have hr2 : (0 : Int) ≤ (r : Int) := by omega
  have hr3 : (r : Int) < (n : Int) := by omega
  have NX : Hid (∀ (w2 : World) (x : Nat), (Below w.heap.size w w2 ∧ ∃ f d F D, Ec w2 g B x f d A c N F D) → Calls Tryz.prog 38 #[.agg #[.pointer (some ⟨x, 0, none⟩), .int .i64 (r : Nat)]] (w2.alloc (.cells #[.pointer (some ⟨x, 0, none⟩), .int .i64 (r : Nat)] 97)) fun e' w4 => e' = .returned (.int .i64 (v : Nat)) ∧
      (w4.cell? ⟨w2.heap.size, 0, none⟩ = some (.pointer (some ⟨x, 0, none⟩)) ∧ w4.cell? ⟨w2.heap.size, 1, none⟩ = some (.int .i64 (r : Nat))) ∧ (w4.cell? ⟨g, 2, none⟩ = some (.bool dp) ∧ w4.frozen? ⟨g, 2, none⟩ = false) ∧
      Hid (Wr w4 g B t lg dp ∧ Pr g B w w4 ∧ ∃ f d F D, Ec w4 g B x f d A c N F D)) := by
    rintro w2 x ⟨hb2, f, d, F, D, hEc⟩
    have hb3 : Below w2.heap.size w2 (w2.alloc (.cells #[.pointer (some ⟨x, 0, none⟩), .int .i64 (r : Nat)] 97)) := (Below.refl _ w2).alloc (Nat.le_refl _) _
    have hk := CB.new w2 97 #[.pointer (some ⟨x, 0, none⟩), .int .i64 (r : Nat)]
    have hp3 : Pr g B w2 (w2.alloc (.cells #[.pointer (some ⟨x, 0, none⟩), .int .i64 (r : Nat)] 97)) := Pr.of hb3 (Nat.le_trans hB hb2.size)
    have hE3 := hEc.pr hp3
    have hD : D[r]? = some v := by rw [← hv]; exact (hEc.kn.at_ hrl (hr ▸ hat)).2
    refine (pdepth_any hE3.xb hD).mono ?_
    rintro e' w4 ⟨rfl, hb4⟩
    have h4 := ((h.below hb2).below hb3).below hb4
    have hp4 : Pr g B w w4 := ((Pr.of hb2 hB).trans hp3).trans (Pr.of hb4 (Nat.le_trans hB (Nat.le_trans hb2.size hb3.size)))
    exact ⟨rfl, ⟨(hk.below hb4).at_ 0, (hk.below hb4).at_ 1⟩, h4.cell2, h4, hp4, f, d, F, D, hE3.pr (Pr.of hb4 (Nat.le_trans hB (Nat.le_trans hb2.size hb3.size)))⟩
  have SX : Hid (∀ (w4 : World) (x : Nat), Wr w4 g B t lg dp ∧ Pr g B w w4 ∧ (∃ f d F D, Ec w4 g B x f d A c N F D) → Calls Tryz.prog 39 #[.pointer (some ⟨g, 0, none⟩), .agg #[.pointer (some ⟨x, 0, none⟩), .int .i64 (r : Nat)]] w4 fun e' w5 => e' = .returned (.tuple #[]) ∧ Hid (Wr w5 g B (t ++ e.tx) (over t e.tx.length lg) dp ∧ Pr g B w w5)) := by
    rintro w4 x ⟨h4, hp4, f, d, F, D, hE4⟩
    refine (psub_all r h4 hE4 (hr ▸ hat)).mono ?_
    rintro e' w5 ⟨rfl, h5, hp5⟩
    exact ⟨rfl, h5, hp4.trans hp5⟩
  unfold PExpAt
  rw [hv, hn]
  by_cases hd : v ≤ 100
  · simp only [if_pos hd]
    have hdz : decide ((100 : Int) < (v : Int)) = false := by rw [decide_eq_false_iff_not]; omega
    clear h hR hT hF hE hat hpos hrl hd hr hv hn
    go_enter Tryz.func22, Tryz.ntmps22
    go_wp2_with (first
      | (go_at_call 37; refine cw'.mono ?_; rintro e' w2 ⟨x, gk, cs, rfl, ⟨k1, k2⟩, H2⟩; have cd := NX.out w2 x H2.out)
      | (go_at_call 38; refine cd.mono ?_; rintro e' w4 ⟨rfl, ⟨l0, l1⟩, ⟨c4, f4⟩, H4⟩; have cs := SX.out w4 x H4.out)
      | (go_at_call 39; refine cs.mono ?_; rintro e' w5 ⟨rfl, H5⟩))
    go_end0
    exact ⟨rfl, H5.out⟩
  · simp only [if_neg hd]
    have hdz : decide ((100 : Int) < (v : Int)) = true := by rw [decide_eq_true_eq]; omega
    have TX : Hid (∀ (w4 : World) (x : Nat), Wr w4 g B t lg dp ∧ Pr g B w w4 ∧ (∃ f d F D, Ec w4 g B x f d A c N F D) → Hid (Wr (w4.setCell ⟨g, 2, none⟩ (.bool true)) g B t lg true ∧ Pr g B w (w4.setCell ⟨g, 2, none⟩ (.bool true)))) := by
      rintro w4 x ⟨h4, hp4, _⟩
      exact ⟨h4.deep, hp4.trans (Pr.gn ((Gn.refl g w4).set 2 _) h4.Bw h4.gB)⟩
    clear h hR hT hF hE hat hpos hrl hd hr hv hn SX
    go_enter Tryz.func22, Tryz.ntmps22
    go_wp2_with (first
      | (go_at_call 37; refine cw'.mono ?_; rintro e' w2 ⟨x, gk, cs, rfl, ⟨k1, k2⟩, H2⟩; have cd := NX.out w2 x H2.out)
      | (go_at_call 38; refine cd.mono ?_; rintro e' w4 ⟨rfl, ⟨l0, l1⟩, ⟨c4, f4⟩, H4⟩; have T4 := TX.out w4 x H4.out))
    refine bodyPost_ret (results_none rfl _ _ _) rfl ?_
    exact ⟨rfl, T4.out⟩

/-- what Value answers: its text, or why it is none -/
def valP (N : List Rn) : List UInt8 × Nat := match exprP N with
  | none => ([], 1)
  | some e => if 100 < e.dp then ([], 91) else if 1048576 < e.tx.length then ([], 2) else (e.tx, 0)
def PValAt (N : List Rn) (w : World) (e' : Ending) (w' : World) : Prop :=
  e' = .returned (.tuple #[.string (str (valP N).1), .int .i64 ((valP N).2 : Nat)]) ∧ Below w.heap.size w w'
theorem Ten.more {w : World} {B B' : Nat} (h : Ten w B) (hB : B ≤ B') : Ten w B' := ⟨h.1, Nat.lt_of_lt_of_le h.2 hB⟩
theorem head_ne (x : Rn) : aheadL x ≠ [] := by
  unfold aheadL
  split
  · have := Lib.decDigits_length x.num
    have h1 := Lib.nDigits_pos x.num
    intro e
    rw [e] at this
    simp at this
    omega
  · split
    · have := qbs_ge x.t
      intro e
      rw [e] at this
      simp at this
    · repeat' split
      all_goals (intro e; cases e)
theorem tx_ne {N : List Rn} {j : Nat} {e : Pe} (h : peAt N j e) : e.tx ≠ [] := by
  obtain ⟨P, h⟩ := h
  obtain ⟨P', x, k, _, _, _, _, hq⟩ := pile_succ h
  injection hq with hq _
  rw [hq]
  intro e0
  have e0 : aheadL x ++ inter (betwL x) ((P'.take k).reverse.map (·.tx)) ++ behL x = [] := e0
  simp only [List.append_eq_nil_iff] at e0
  exact head_ne x e0.1.1

set_option maxRecDepth 100000 in
set_option maxHeartbeats 4000000 in
theorem pvalue_any {w : World} {A : Option Addr} {c : Nat} {N : List Rn} (hR : RN w w.heap.size A N) (hT : Ten w w.heap.size) (hF : Few N) :
    Calls Tryz.prog 9 #[.slice A N.length c] w (PValAt N w) := by
  have ci := pisexpr_any (c := c) hR (by have := hF.few; omega) hF.n
  obtain ⟨n, hn⟩ : ∃ n, N.length = n := ⟨_, rfl⟩
  cases hE : exprP N with
  | none =>
    rw [hE] at ci
    have ci' : Calls Tryz.prog 21 #[.slice A n c] w fun e w' => e = .returned (.bool false) ∧ Hid (Below w.heap.size w w') := by rw [← hn]; exact ci.mono fun _ _ h => ⟨h.1, h.2⟩
    have hv : valP N = ([], 1) := by unfold valP; rw [hE]
    unfold PValAt
    rw [hv, hn]
    clear hR hT hF hE hv hn ci
    go_enter Tryz.func9, Tryz.ntmps9
    go_wp2_with (go_at_call 21; refine ci'.mono ?_; rintro e' w2 ⟨rfl, H2⟩)
    exact bodyPost_ret (v := .tuple #[.string ⟨#[]⟩, .int .i64 1]) (results_2 rfl _ _ _ _ rfl rfl) rfl ⟨rfl, H2.out⟩
  | some e =>
    rw [hE] at ci
    have ci' : Calls Tryz.prog 21 #[.slice A n c] w fun e w' => e = .returned (.bool true) ∧ Hid (Below w.heap.size w w') := by rw [← hn]; exact ci.mono fun _ _ h => ⟨h.1, h.2⟩
    have hne := tx_ne (expr_at hE).2.1
    have EX : Hid (∀ w2 w3 g, Below w.heap.size w w2 → w2.heap.size ≤ g → Below w2.heap.size w2 w3 → Wr w3 g w2.heap.size [] false false → Calls Tryz.prog 22 #[.pointer (some ⟨g, 0, none⟩), .slice A n c] w3 fun e' w4 => e' = .returned (.tuple #[]) ∧ Hid (Calls Tryz.prog 16 #[.pointer (some ⟨g, 0, none⟩)] w4 (PValAt N w))) := by
      intro w2 w3 g hb2 hg hb3 h3
      have hR3 : RN w3 w2.heap.size A N := (hR.below hb2).more hb2.size |>.below hb3
      have hT3 : Ten w3 w2.heap.size := ((hT.below hb2).more hb2.size).below hb3
      have := pexp_any (c := c) h3 hR3 hT3 hF hE
      rw [hn] at this
      refine this.mono ?_
      rintro e' w4 ⟨rfl, h4, hp4⟩
      refine ⟨rfl, ?_⟩
      have hbe : ∀ w5, Below w2.heap.size w4 w5 → Below w.heap.size w w5 := fun w5 hb5 => hb2.trans (((hb3.trans hp4.bl).trans hb5).mono hb2.size)
      by_cases hd : e.dp ≤ 100
      · rw [if_pos hd] at h4
        refine (ptext_any h4 (.inl (by simpa using hne))).mono ?_
        rintro e'' w5 ⟨rfl, hb5⟩
        refine ⟨?_, hbe w5 hb5⟩
        unfold valP
        rw [hE]
        simp only [if_neg (show ¬ 100 < e.dp by omega)]
        by_cases ho : 1048576 < e.tx.length
        · simp [over, ho]
        · simp [over, ho]
      · rw [if_neg hd] at h4
        refine (ptext_any h4 (.inr (.inr rfl))).mono ?_
        rintro e'' w5 ⟨rfl, hb5⟩
        refine ⟨?_, hbe w5 hb5⟩
        unfold valP
        rw [hE]
        simp [show 100 < e.dp by omega]
    rw [hn]
    clear hR hT hF hE hn ci hne
    go_enter Tryz.func9, Tryz.ntmps9
    go_wp2_with (first
      | (go_at_call 21; refine ci'.mono ?_; rintro e' w2 ⟨rfl, H2⟩; have cn := pnew_any w2)
      | (go_at_call 14; refine cn.mono ?_; rintro e' w3 ⟨g, rfl, hg, hb3, h3, _⟩; have cx := EX.out w2 w3 g H2.out hg hb3 h3; clear hg hb3 h3)
      | (go_at_call 22; refine cx.mono ?_; rintro e' w4 ⟨rfl, H4⟩; have ct := H4.out)
      | (go_at_call 16; refine ct.mono ?_; rintro e' w5 ⟨rfl, H5⟩))
    exact bodyPost_ret (v := .tuple #[.string _, .int .i64 _]) (results_2 rfl _ _ _ _ rfl rfl) rfl ⟨rfl, H5⟩
end Go.Proofs.YtipcgmaobiobbaaGreatDoor
