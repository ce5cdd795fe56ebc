/- The walks of the code: what has been written, as a text; a quoted text; words. -/
import Derived.Test.YtipcgmaobiobbaaGreatDoorPrPut
import Derived.Test.YtipcgmaobiobbaaGreatDoorLexCodeQ
import Derived.Test.YtipcgmaobiobbaaGreatDoorPoGa
namespace Go.Proofs.YtipcgmaobiobbaaGreatDoor
open Go.RowKit
open Go.Lib (byteCells)

set_option maxHeartbeats 1000000 in
set_option maxRecDepth 100000 in
theorem pstr_any {w : World} {g B : Nat} {p : Value} {A : Option Addr} {c : Nat} {l : List UInt8} {dp lg : Bool} (h : Wb w g B p A c l dp lg) (h0 : l ≠ []) :
    Calls Tryz.prog 30 #[.pointer (some ⟨g, 0, none⟩)] w fun e w' => e = .returned (.string (str l)) ∧ Below B w w' := by
  have hl0 : l.length ≠ 0 := by simpa using h0
  have hown := h.own
  have hbl := Go.Lib.byteCells_length l
  obtain ⟨_, c1, _, _⟩ := h.cells
  clear h
  unfold OwnB at hown
  rcases hown.2 with ⟨_, hz⟩ | ⟨gr, cap, cur, hv, hbg, hg, hnc, hcm, hcs, htake⟩
  · exact absurd hz hl0
  injection hv with e1 e2 e3
  subst e1
  subst e3
  have hSD : (Builtin.unsafeSliceData_ #[67] 111 #[.slice (some ⟨gr, 0, none⟩) l.length c]).run Tryz.prog w.drew = .ok (.pointer (some ⟨gr, 0, none⟩)) w.drew :=
    Lib.run_unsafeSliceData_row _ _ _ _ _ _ (by omega)
  have hUS : (Builtin.unsafeString_ #[111, 3] 9 #[.pointer (some ⟨gr, 0, none⟩), .int .i64 (l.length : Nat)]).run Tryz.prog w.drew = .ok (.string (str l)) (w.drew.freeze ⟨gr, 0, none⟩ l.length) := by
    refine Lib.run_unsafeString_row w.drew 111 3 9 5 Tryz.underlying111 bxtra.cellsByte gr cur.size (by have hg' : w.drew.heap[gr]? = some (.cells cur 5 (0, 0)) := hg; simp [World.shape?, hg']) l h0 (by omega) (by unfold maxLen at hcm; omega) ?_
    intro j x hx
    have := hown.cells (g := gr) rfl j (.int .u8 x.toNat) (by simp [Lib.byteCells, hx])
    exact this
  have mixed : Tryz.prog.follows Departure.mixedOrders = true := by kernel_rfl
  have c1d : w.drew.cell? ⟨g, 1, none⟩ = some (.slice (some ⟨gr, 0, none⟩) l.length c) := c1
  clear hown hg hcs htake
  go_enter Tryz.func30, Tryz.ntmps30
  go_wp2
  go_region_o
  all_goals (go_wp2; go_ret; exact ⟨rfl, Lib.below_freeze (Below.drew (Below.refl B w)) (p := ⟨gr, 0, none⟩) hbg _⟩)


/-- what a writer's text is, or why it is none -/
def TextAt (B : Nat) (t : List UInt8) (lg dp : Bool) (w : World) (e : Ending) (w' : World) : Prop :=
  e = .returned (.tuple #[.string (str (if dp = true ∨ lg = true then [] else t)), .int .i64 (if dp = true then 91 else if lg = true then 2 else 0)]) ∧ Below B w w'
set_option maxHeartbeats 1000000 in
set_option maxRecDepth 100000 in
theorem ptext_any {w : World} {g B : Nat} {t : List UInt8} {lg dp : Bool} (h : Wr w g B t lg dp) (h0 : t ≠ [] ∨ lg = true ∨ dp = true) :
    Calls Tryz.prog 16 #[.pointer (some ⟨g, 0, none⟩)] w (TextAt B t lg dp w) := by
  obtain ⟨⟨p, A, c, l, h1, hl, hlt⟩, hBw⟩ := h
  obtain ⟨_, c1, c2, c3⟩ := h1.cells
  unfold TextAt
  cases dp with
  | true =>
    clear h1
    go_enter Tryz.func16, Tryz.ntmps16
    go_wp2
    exact bodyPost_ret (v := .tuple #[.string ⟨#[]⟩, .int .i64 91]) (results_2 rfl _ _ _ _ rfl rfl) rfl ⟨rfl, Below.refl _ _⟩
  | false =>
    cases lg with
    | true =>
      clear h1
      go_enter Tryz.func16, Tryz.ntmps16
      go_wp2
      exact bodyPost_ret (v := .tuple #[.string ⟨#[]⟩, .int .i64 2]) (results_2 rfl _ _ _ _ rfl rfl) rfl ⟨rfl, Below.refl _ _⟩
    | false =>
      obtain rfl := hlt rfl
      have hn : l ≠ [] := by simpa using h0
      have cs := pstr_any h1 hn
      clear h1
      go_enter Tryz.func16, Tryz.ntmps16
      go_wp2_with (go_at_call 30; refine cs.mono ?_; rintro e w2 ⟨rfl, hb2⟩)
      exact bodyPost_ret (v := .tuple #[.string (str l), .int .i64 0]) (results_2 rfl _ _ _ _ rfl rfl) rfl ⟨by simp, hb2⟩

/-- a text as one token, where there is room for it; then the state -/
theorem qbs_ge (l : List UInt8) : l.length + 2 ≤ (quoteL l).length := by
  have := (qbs_len l).1
  unfold quoteL
  simp only [List.length_cons, List.length_append, List.length_nil]
  omega
set_option maxHeartbeats 2000000 in
set_option maxRecDepth 100000 in
theorem pquote_any {w : World} {g B : Nat} {t : List UInt8} {lg dp : Bool} (h : Wr w g B t lg dp) (s : ByteArray) (hs : s.size ≤ 9223372036854775807) :
    Calls Tryz.prog 77 #[.pointer (some ⟨g, 0, none⟩), .string s] w fun e w' => e = .returned (.string (str (if over t s.size lg = true then [] else quoteL (ls s)))) ∧ Wr w' g B t (over t s.size lg) dp ∧ Pr g B w w' := by
  have cf := pfits_any h s hs
  have hB := h.Bw
  have hgB := h.gB
  obtain ⟨o, ho⟩ : ∃ o, over t s.size lg = o := ⟨_, rfl⟩
  rw [ho] at cf ⊢
  clear h
  cases o with
  | true =>
    go_enter Tryz.func77, Tryz.ntmps77
    go_wp2_with (go_at_call 53; refine cf.mono ?_; rintro e w2 ⟨rfl, h2, hg2⟩)
    go_ret
    exact ⟨rfl, h2, Pr.gn hg2 hB hgB⟩
  | false =>
    have hlen : s.size ≤ 4194304 := by
      unfold over at ho
      simp only [Bool.or_eq_false_iff, decide_eq_false_iff_not] at ho
      omega
    have cq := fun W => quote_any W s hlen
    obtain ⟨Z, hZ⟩ : ∃ Z, str (quoteL (ls s)) = Z := ⟨_, rfl⟩
    have e : (if false = true then ([] : List UInt8) else quoteL (ls s)) = quoteL (ls s) := rfl
    rw [e, hZ]
    rw [hZ] at cq
    clear ho hlen hZ e
    go_enter Tryz.func77, Tryz.ntmps77
    go_wp2_with (first
      | (go_at_call 53; refine cf.mono ?_; rintro e w2 ⟨rfl, h2, hg2⟩)
      | (go_at_call 93; refine (cq w2).mono ?_; rintro e w3 ⟨rfl, hb3⟩))
    go_ret
    exact ⟨rfl, h2.below hb3, (Pr.gn hg2 hB hgB).trans (Pr.of hb3 h2.Bw)⟩

/-- the state behind words -/
theorem over_two (t : List UInt8) (a b : Nat) (lg : Bool) (s : List UInt8) (hs : s.length = a) : over (t ++ s) b (over t a lg) = over t (a + b) lg := by
  unfold over
  rw [List.length_append, hs]
  by_cases h : 1048576 < t.length + a
  · rw [decide_eq_true h, decide_eq_true (show 1048576 < t.length + (a + b) by omega)]
    simp
  · rw [decide_eq_false h]
    have e : t.length + a + b = t.length + (a + b) := by omega
    rw [e]
    simp
theorem over_mono (t : List UInt8) (a b : Nat) (lg : Bool) (h : a ≤ b) (ho : over t a lg = true) : over t b lg = true := by
  unfold over at ho ⊢
  simp only [Bool.or_eq_true, decide_eq_true_eq] at ho ⊢
  rcases ho with ho | ho
  · exact .inl ho
  · exact .inr (by omega)
theorem Wr.few {w : World} {g B : Nat} {t : List UInt8} {dp : Bool} (h : Wr w g B t false dp) : t.length ≤ 1048576 := by
  obtain ⟨⟨p, A, c, l, h1, hl, hlt⟩, hB⟩ := h
  rw [← hlt rfl]
  exact hl
theorem over_zero {w : World} {g B : Nat} {t : List UInt8} {lg dp : Bool} (h : Wr w g B t lg dp) : over t 0 lg = lg := by
  cases lg with
  | true => rfl
  | false =>
    have := h.few
    unfold over
    rw [Bool.false_or, decide_eq_false_iff_not]
    omega
theorem blank_take {l : List (List UInt8)} {i : Nat} (hi : i < l.length) (h0 : i ≠ 0) : blankL (l.take (i + 1)) = (blankL (l.take i) ++ [32]) ++ l[i] := by
  unfold blankL
  rw [List.take_succ_eq_append_getElem hi, inter_snoc _ _ _ (by intro e; rcases List.take_eq_nil_iff.1 e with e | e; exact h0 e; rw [e] at hi; simp at hi)]
  simp
theorem blank_one {l : List (List UInt8)} (hi : 0 < l.length) : blankL (l.take 1) = l[0] := by
  unfold blankL
  rw [show (1 : Nat) = 0 + 1 from rfl, List.take_succ_eq_append_getElem hi]
  simp [inter]
/-- texts in a row of strings -/
def TxRow (w : World) (b : Nat) (l : List (List UInt8)) : Prop := CB w b 9 (l.map fun x => Value.string (str x)).toArray
theorem TxRow.at_ {w : World} {b : Nat} {l : List (List UInt8)} (h : TxRow w b l) {i : Nat} (hi : i < l.length) : w.cell? ⟨b, i, none⟩ = some (.string (str l[i])) := by
  unfold TxRow at h
  rw [h.at_, List.getElem?_toArray, List.getElem?_map, List.getElem?_eq_getElem hi]
  rfl

set_option maxHeartbeats 4000000 in
set_option maxRecDepth 100000 in
theorem pwords_any {w : World} {g B b : Nat} {t : List UInt8} {lg dp : Bool} {l : List (List UInt8)} {c : Nat} (h : Wr w g B t lg dp) (hr : TxRow w b l) (hs : ∀ x ∈ l, x.length ≤ 9223372036854775807) (hl : l.length ≤ 100) (hT : b ≠ g) (hc : c = l.length) :
    Calls Tryz.prog 27 #[.pointer (some ⟨g, 0, none⟩), .slice (some ⟨b, 0, none⟩) l.length c] w (WrAt g B (t ++ blankL l) (over t (blankL l).length lg) dp w) := by
  subst hc
  have H0 := Lib.hid h
  have HR := Lib.hid hr
  have hbb := hr.len
  unfold WrAt
  clear h hr
  go_enter Tryz.func27, Tryz.ntmps27
  go_wp2
  go_loopw [8] (fun u wr => ∃ (i : Nat), u = .int .i64 i ∧ i ≤ l.length ∧ Hid (Wr wr g B (t ++ blankL (l.take i)) (over t (blankL (l.take i)).length lg) dp ∧ Pr g B w wr)) (fun u _ => l.length - (intOf u).toNat)
  case atStart =>
    refine ⟨0, rfl, Nat.zero_le _, ?_⟩
    have e1 : t ++ blankL (l.take 0) = t := by simp [blankL, inter]
    have e2 : over t (blankL (l.take 0)).length lg = lg := over_zero H0.out
    rw [e1, e2]
    exact ⟨H0.out, Pr.refl _ _ _⟩
  case round =>
    obtain ⟨i, rfl, hil, HF⟩ := hrel
    by_cases hlt : i < l.length
    · have hiz : (i : Int) < (l.length : Int) := by omega
      have hi0 : (0 : Int) ≤ (i : Int) := by omega
      have hrw : TxRow wr b l := HR.out.pr HF.out.2 hT (by decide)
      have hc := hrw.at_ hlt
      have hsz := hs _ (List.getElem_mem hlt)
      obtain ⟨x, hx⟩ : ∃ x, l[i] = x := ⟨_, rfl⟩
      rw [hx] at hc hsz
      by_cases h0 : i = 0
      · subst h0
        have e1 : blankL (l.take (0 + 1)) = x := by rw [← hx]; exact blank_one hlt
        have CP : Hid (Calls Tryz.prog 29 #[.pointer (some ⟨g, 0, none⟩), .string (str x)] wr fun e w' => e = .returned (.tuple #[]) ∧ Hid (Wr w' g B (t ++ blankL (l.take (0 + 1))) (over t (blankL (l.take (0 + 1))).length lg) dp ∧ Pr g B w w')) := by
          have e0 : blankL (l.take 0) = [] := by simp [blankL, inter]
          have h1 := HF.out.1
          rw [e0, List.append_nil] at h1
          refine (pput_any h1 (str x) (by rw [str_size]; exact hsz)).mono ?_
          rintro e w' ⟨rfl, h2, h3⟩
          refine ⟨rfl, ?_, HF.out.2.trans h3⟩
          rw [e1]
          rw [ls_str, str_size] at h2
          have := over_two t 0 x.length lg [] rfl
          rw [List.append_nil, Nat.zero_add] at this
          rw [show ([] : List UInt8).length = 0 from rfl, this] at h2
          exact h2
        clear hx hrw e1
        go_wp2_with (go_at_call 29; refine CP.out.mono ?_; rintro e w5 ⟨rfl, HN⟩)
        go_roundw
        case rel => exact ⟨0 + 1, by go_num, by omega, HN⟩
        case measure => simp [intOf]; omega
      · have hgz : (0 : Int) < (i : Int) := by omega
        have e1 := blank_take hlt h0
        rw [hx] at e1
        have CP : Hid (Calls Tryz.prog 29 #[.pointer (some ⟨g, 0, none⟩), .string ⟨#[32]⟩] wr fun e w' => e = .returned (.tuple #[]) ∧ Hid (Calls Tryz.prog 29 #[.pointer (some ⟨g, 0, none⟩), .string (str x)] w' fun e w'' => e = .returned (.tuple #[]) ∧ Hid (Wr w'' g B (t ++ blankL (l.take (i + 1))) (over t (blankL (l.take (i + 1))).length lg) dp ∧ Pr g B w w''))) := by
          refine Calls.mono (pput_any HF.out.1 (str [32]) (by rw [str_size]; decide)) ?_
          rintro e w' ⟨rfl, h2, h3⟩
          refine ⟨rfl, ?_⟩
          rw [ls_str, str_size, over_two _ _ _ _ _ rfl] at h2
          refine Calls.mono (pput_any h2 (str x) (by rw [str_size]; exact hsz)) ?_
          rintro e w'' ⟨rfl, h4, h5⟩
          refine ⟨rfl, ?_, (HF.out.2.trans h3).trans h5⟩
          rw [e1]
          rw [ls_str, str_size, List.append_assoc t, over_two t _ _ lg _ List.length_append, List.append_assoc t] at h4
          have e2 : (blankL (l.take i) ++ [32] ++ x).length = (blankL (l.take i)).length + ([32] : List UInt8).length + x.length := by rw [List.length_append, List.length_append]
          rw [e2]
          exact h4
        clear hx hrw e1 h0
        go_wp2_with (first
          | (go_at_call 29; (with_reducible refine CP.out.mono ?_); rintro e w5 ⟨rfl, CQ⟩)
          | (go_at_call 29; (with_reducible refine CQ.out.mono ?_); rintro e w6 ⟨rfl, HN⟩))
        go_roundw
        case rel => exact ⟨i + 1, by go_num, by omega, HN⟩
        case measure => simp [intOf]; omega
    · obtain rfl : i = l.length := by omega
      have hiz : ¬ (l.length : Int) < (l.length : Int) := by omega
      have e1 : l.take l.length = l := List.take_length
      rw [e1] at HF
      go_wp2
      go_end0
      exact ⟨rfl, HF.out⟩
end Go.Proofs.YtipcgmaobiobbaaGreatDoor
