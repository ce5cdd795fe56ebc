/- The walks of the code: what all of an expression is; Check. -/
import Derived.Test.YtmbiompmhaiehaaDoorExMem
import Derived.Test.YtmbiompmhaiehaaDoorPoNode
import Derived.Test.YtmbiompmhaiehaaDoorPoWhole
namespace Go.Proofs.YtmbiompmhaiehaaDoor
open Go.RowKit

/-- raw nodes as they may come in, small enough -/
structure Few (N : List Rn) : Prop where
  few : N.length ≤ 2932031007402
  n : ∀ x ∈ N, x.n ≤ 9223372036854775807
  num : ∀ y ∈ N, y.num < 18446744073709551616 ∧ y.t.length ≤ 9223372036854775807
theorem bad_succ {N : List Rn} {i : Nat} (h : badP N i = none) : badP N (i + 1) = match pileP N (i + 1) with
    | none => some (i, 1)
    | some [] => none
    | some (e :: _) => if 100 < e.dp then some (i, 91) else none := by
  conv => lhs; unfold badP
  rw [h]
  rfl
theorem bad_more {N : List Rn} {i : Nat} {b : Nat × Nat} (h : badP N i = some b) : ∀ j, i ≤ j → badP N j = some b := by
  intro j hj
  induction j with
  | zero =>
    obtain rfl : i = 0 := by omega
    exact h
  | succ j ih =>
    by_cases hij : i = j + 1
    · rw [← hij]; exact h
    · conv => lhs; unfold badP
      rw [ih (by omega)]
theorem chk_bad {N : List Rn} {i : Nat} {b : Nat × Nat} (h : badP N i = some b) (hi : i ≤ N.length) : chkP N = b := by
  unfold chkP
  rw [bad_more h N.length hi]
theorem chk_none {N : List Rn} (h : badP N N.length = none) : chkP N = match exprP N with
    | some _ => (0, 0)
    | none => (N.length, 1) := by
  unfold chkP
  rw [h]
  rfl
theorem CB.ne {w : World} {a b : Nat} {T U : TypeId} {cs ds : Array Value} (h : CB w a T cs) (g : CB w b U ds) (hT : T ≠ U) : a ≠ b := fun e => by
  subst e
  unfold CB at h g
  rw [h] at g
  injection Option.some.inj g with _ e2 _
  exact hT e2
/-- three results, the first a struct -/
theorem results_ctt {P : Program} {fn : Func} {s t u : Tmp} {T : TypeId} (h : fn.results = #[.cell s T, .tmp t, .tmp u]) (tmps : Array Value) (w : World) (b : Nat) (cs : Array Value) (v z : Value)
    (hp : tmps.getD s undef = .pointer (some ⟨b, 0, none⟩)) (hv : tmps.getD t undef = v) (hz : tmps.getD u undef = z) (hb : CB w b T cs) {d : TypeDesc} (hu : P.underlying T = some d) (hd : d.isRow = true) (hi : (P.info? T).map (·.size) = some cs.size) : (results fn tmps).run P w = .ok (.tuple #[.agg cs, v, z]) w := by
  unfold results
  rw [h]
  have hp' : tmps[s]?.getD undef = .pointer (some ⟨b, 0, none⟩) := by simpa [Array.getD_eq_getD_getElem?] using hp
  have hv' : tmps[t]?.getD undef = v := by simpa [Array.getD_eq_getD_getElem?] using hv
  have hz' : tmps[u]?.getD undef = z := by simpa [Array.getD_eq_getD_getElem?] using hz
  simp [hp', hv', hz', asAddr, hb.load hu hd hi]
/-- what rootOf answers -/
def RootAt (A : Option Addr) (c : Nat) (N : List Rn) (w : World) (e : Ending) (w' : World) : Prop :=
  Below w.heap.size w w' ∧ ∃ (pa : Option Addr) (rv : Int), e = .returned (.tuple #[.agg #[.pointer pa, .int .i64 rv], .int .i64 ((chkP N).1 : Nat), .int .i64 ((chkP N).2 : Nat)]) ∧
    ((chkP N).2 = 0 → ∃ x f d F D, pa = some ⟨x, 0, none⟩ ∧ rv = ((N.length - 1 : Nat) : Int) ∧ 0 < N.length ∧ Xb w' x f d A c N F D ∧ Known N F D N.length ∧ (w.heap.size ≤ x ∧ w.heap.size ≤ f ∧ w.heap.size ≤ d))

set_option maxRecDepth 100000 in
set_option maxHeartbeats 8000000 in
theorem rootOf_any {w : World} {A : Option Addr} {c : Nat} {N : List Rn} (hR : RN w w.heap.size A N) (hF : Few N) :
    Calls Tryd.prog 15 #[.slice A N.length c] w (RootAt A c N w) := by
  have hb1 : Below w.heap.size w (w.alloc (.cells #[.pointer none, .int .i64 0] 43)) := (Below.refl _ w).alloc (Nat.le_refl _) _
  have hn1 := CB.new w 43 #[.pointer none, .int .i64 0]
  obtain ⟨w1, hw1⟩ : ∃ w1, w.alloc (.cells #[.pointer none, .int .i64 0] 43) = w1 := ⟨_, rfl⟩
  have hs1 : w1.heap.size = w.heap.size + 1 := by rw [← hw1]; simp
  rw [hw1] at hb1 hn1
  obtain ⟨n, hn⟩ : ∃ n, N.length = n := ⟨_, rfl⟩
  obtain ⟨ob, hob⟩ : ∃ ob, (exprP N).isSome = ob := ⟨_, rfl⟩
  -- what stands behind Subtrees, wherever the memory has grown since
  have CS : Hid (Calls Tryd.prog 23 #[.slice A n c] w1 fun e w2 => ∃ (m : Nat) (As : Option Addr) (cs : Nat), e = .returned (.tuple #[.slice As m cs, .bool ob]) ∧ m ≤ n ∧ Hid (Below w1.heap.size w1 w2 ∧ (∃ P, pileP N m = some P) ∧ (m < N.length → pileP N (m + 1) = none) ∧
      ∃ x f d F D, Xb w2 x f d A c N F D ∧ Known N F D m ∧ OwnK w2 w1.heap.size As cs x (List.range m) ∧ (w1.heap.size ≤ x ∧ w1.heap.size ≤ f ∧ w1.heap.size ≤ d))) := by
    have q := psubs_any (c := c) ((hR.below hb1).more hb1.size) hF.few hF.n
    rw [hn] at q
    refine q.mono ?_
    rintro e w2 ⟨m, As, cs, rfl, hb, hm, hP, hno, x, f, d, F, D, hX, hK, hge, hO⟩
    exact ⟨m, As, cs, by rw [hob], by omega, hb, hP, hno, x, f, d, F, D, hX, hK, hO, hge⟩
  have HN := Lib.hid hn
  have HOB := Lib.hid hob
  have hfw := hF.few
  rw [hn] at hfw
  clear hR hF
  rw [hn]
  clear hn hob
  go_enter Tryd.func15, Tryd.ntmps15
  go_wp2_with (go_at_call 23; refine CS.out.mono ?_; rintro e w2 ⟨m, As, cs, rfl, hmn, H2⟩)
  obtain ⟨hb2, ⟨P, hP⟩, hno, x, f, d, F, D, hX, hK, hO, hge⟩ := H2.out
  have HGE := Lib.hid (show w.heap.size ≤ x ∧ w.heap.size ≤ f ∧ w.heap.size ≤ d by omega)
  clear hge
  have hmN : m ≤ N.length := by rw [HN.out]; exact hmn
  have hll : (List.range m).length = m := List.length_range
  -- what every later world knows
  have FX : Hid (∀ W, Below w2.heap.size w2 W → CB W w.heap.size 43 #[.pointer none, .int .i64 0] ∧ Below w.heap.size w W ∧ Xb W x f d A c N F D ∧ ∀ i, i < m → ∃ gk, As = some ⟨gk, 0, none⟩ ∧ W.cell? ⟨gk, i * 2, none⟩ = some (.pointer (some ⟨x, 0, none⟩)) ∧ W.cell? ⟨gk, i * 2 + 1, none⟩ = some (.int .i64 (i : Nat)) ∧ w.heap.size < gk) := fun W hW => by
    have hbW : Below w1.heap.size w1 W := hb2.trans (hW.mono hb2.size)
    refine ⟨hn1.below hbW, hb1.trans (hbW.mono (by omega)), hX.below hW, fun i hi => ?_⟩
    obtain ⟨gk, hA, hg, hgl, hkr⟩ := hO.kr (by rw [hll]; omega)
    obtain ⟨k1, k2, _, _⟩ := (hkr.keep (hW.block gk hgl)).at_ (j := i) (by rw [hll]; exact hi)
    rw [List.getElem_range] at k2
    exact ⟨gk, hA, k1, k2, by omega⟩
  have HK := Lib.hid hK
  have HP := Lib.hid (And.intro (⟨P, hP⟩ : ∃ P, pileP N m = some P) hno)
  clear H2 CS hX hO hK hP hno hb1 hn1 hb2
  go_loopw [16] (fun u wr => ∃ i : Nat, u = .int .i64 i ∧ i ≤ m ∧ Hid (Below w2.heap.size w2 wr ∧ badP N i = none)) (fun u _ => m - (intOf u).toNat)
  case atStart => exact ⟨0, rfl, Nat.zero_le _, Below.refl _ _, rfl⟩
  case round =>
    obtain ⟨i, rfl, him, HF⟩ := hrel
    by_cases hlt : i < m
    · have hiz : (i : Int) < (m : Int) := by omega
      have hi0 : (0 : Int) ≤ (i : Int) := by omega
      obtain ⟨hres, _, hXr, hcell⟩ := FX.out wr HF.out.1
      obtain ⟨gk, rfl, q1, q2, hgk⟩ := hcell i hlt
      have hws := hres.len
      obtain ⟨e, ⟨Pe', hpe⟩, hFe, hDe⟩ := HK.out i hlt
      have hb5 : Below wr.heap.size wr (wr.alloc (.cells #[.pointer (some ⟨x, 0, none⟩), .int .i64 (i : Nat)] 43)) := (Below.refl _ wr).alloc (Nat.le_refl _) _
      have hn5 := CB.new wr 43 #[.pointer (some ⟨x, 0, none⟩), .int .i64 (i : Nat)]
      obtain ⟨w5, hw5⟩ : ∃ w5, wr.alloc (.cells #[.pointer (some ⟨x, 0, none⟩), .int .i64 (i : Nat)] 43) = w5 := ⟨_, rfl⟩
      rw [hw5] at hb5 hn5
      have e0 : w5.cell? ⟨wr.heap.size, 0, none⟩ = some (.pointer (some ⟨x, 0, none⟩)) := hn5.at_ 0
      have e1 : w5.cell? ⟨wr.heap.size, 1, none⟩ = some (.int .i64 (i : Nat)) := hn5.at_ 1
      obtain ⟨dv, hdv⟩ : ∃ dv, e.dp = dv := ⟨_, rfl⟩
      have hbad : badP N (i + 1) = if 100 < dv then some (i, 91) else none := by rw [bad_succ HF.out.2, hpe, ← hdv]
      have CD : Hid (Calls Tryd.prog 24 #[.agg #[.pointer (some ⟨x, 0, none⟩), .int .i64 (i : Nat)]] w5 fun e w6 => e = .returned (.int .i64 (dv : Nat)) ∧ Hid (Below w2.heap.size w2 w6)) := by
        refine (pdepth_any (hXr.below hb5) hDe).mono ?_
        rintro e w6 ⟨he, hb6⟩
        exact ⟨by rw [← hdv]; exact he, Below.both (Below.both HF.out.1 hb5) hb6⟩
      clear hres hXr hcell hn5 hpe hFe hDe hdv
      by_cases hd : dv ≤ 100
      · have hdz : decide ((100 : Int) < (dv : Int)) = false := decide_eq_false (by omega)
        have hdz' : ¬ (100 : Int) < (dv : Int) := by omega
        rw [if_neg (by omega)] at hbad
        have HB := Lib.hid hbad
        clear hbad hd
        go_wp2_with (go_at_call 24; refine CD.out.mono ?_; rintro e w6 ⟨rfl, H6⟩)
        go_roundw
        case rel => exact ⟨i + 1, by go_num, by omega, H6.out, HB.out⟩
        case measure => simp [intOf]; omega
      · have hdz : decide ((100 : Int) < (dv : Int)) = true := decide_eq_true (by omega)
        have hdz' : (100 : Int) < (dv : Int) := by omega
        rw [if_pos (by omega)] at hbad
        have hck : chkP N = (i, 91) := chk_bad hbad (by omega)
        have HC := Lib.hid hck
        clear hbad hd hck
        go_wp2_with (first
          | (go_at_call 24; refine CD.out.mono ?_; rintro e w6 ⟨rfl, H6⟩; obtain ⟨h9, hz, _, _⟩ := FX.out w6 H6.out)
          | (refine wpList_store_cb rfl 43 (.tmp 2) (.tmp 24) rfl w.heap.size _ #[.pointer none, .int .i64 0] rfl rfl h9 rfl (by kernel_rfl) (by kernel_rfl) ?_; intro w9 k9 t9)
          | fail)
        refine bodyPost_ret (v := .tuple #[.agg #[.pointer none, .int .i64 0], .int .i64 (i : Nat), .int .i64 91]) (results_ctt rfl _ _ _ _ _ _ rfl rfl rfl k9 Tryd.underlying43 rfl (by kernel_rfl)) rfl ?_
        exact ⟨hz.trans (t9.below (Nat.le_refl _)), _, _, by rw [HC.out]; rfl, fun z => by rw [HC.out] at z; exact absurd (show (91 : Nat) = 0 from z) (by decide)⟩
    · obtain rfl : i = m := by omega
      have hiz : ¬ (i : Int) < (i : Int) := by omega
      obtain ⟨h9, hz, hXr, hcell⟩ := FX.out wr HF.out.1
      cases ob with
      | false =>
        have hexp : exprP N = none := by
          cases hq : exprP N with
          | none => rfl
          | some e => have := HOB.out; rw [hq] at this; cases this
        have hck : chkP N = (i, 1) := by
          by_cases hiN : i < N.length
          · refine chk_bad (i := i + 1) ?_ hiN
            rw [bad_succ HF.out.2, HP.out.2 hiN]
          · obtain rfl : i = N.length := by omega
            rw [chk_none HF.out.2, hexp]
        have HC := Lib.hid hck
        clear hck hexp
        go_wp2_with (first
          | (refine wpList_store_cb rfl 43 (.tmp 2) (.tmp 29) rfl w.heap.size _ #[.pointer none, .int .i64 0] rfl rfl h9 rfl (by kernel_rfl) (by kernel_rfl) ?_; intro w9 k9 t9)
          | fail)
        refine bodyPost_ret (v := .tuple #[.agg #[.pointer none, .int .i64 0], .int .i64 (i : Nat), .int .i64 1]) (results_ctt rfl _ _ _ _ _ _ rfl rfl rfl k9 Tryd.underlying43 rfl (by kernel_rfl)) rfl ?_
        exact ⟨hz.trans (t9.below (Nat.le_refl _)), _, _, by rw [HC.out]; rfl, fun z => by rw [HC.out] at z; exact absurd (show (1 : Nat) = 0 from z) (by decide)⟩
      | true =>
        obtain ⟨e, he⟩ : ∃ e, exprP N = some e := by
          cases hq : exprP N with
          | none => have := HOB.out; rw [hq] at this; cases this
          | some e => exact ⟨e, rfl⟩
        have hiN : i = N.length := by
          by_cases hiN : i < N.length
          · have := expr_none (i + 1) (HP.out.2 hiN) hiN
            rw [he] at this
            cases this
          · omega
        have hpos := (expr_at he).1
        have hck : chkP N = (0, 0) := by rw [chk_none (by rw [← hiN]; exact HF.out.2), he]
        obtain ⟨la, hla⟩ : ∃ la, i - 1 = la := ⟨_, rfl⟩
        have hl1 : (i : Int) - 1 = (la : Int) := by omega
        have hl0 : (0 : Int) ≤ (la : Int) := by omega
        have hlt2 : (la : Int) < (i : Int) := by omega
        obtain ⟨gk, rfl, q1, q2, hgk⟩ := hcell la (by omega)
        have hne : gk ≠ w.heap.size := by omega
        have HC := Lib.hid hck
        have HXr := Lib.hid hXr
        have H9 := Lib.hid h9
        have HL := Lib.hid (show la = N.length - 1 by omega)
        have HI := Lib.hid hiN
        have HPO := Lib.hid hpos
        have hi9 : i ≤ 2932031007402 := by omega
        clear hck hcell hla hiN hpos he
        go_wp2_with (first
          | (refine wpList_store_cb rfl 43 (.tmp 2) (.tmp 37) rfl w.heap.size _ #[.pointer (some ⟨x, 0, none⟩), .int .i64 (la : Nat)] rfl rfl h9 rfl (by kernel_rfl) (by kernel_rfl) ?_; intro w9 k9 t9)
          | fail)
        refine bodyPost_ret (v := .tuple #[.agg #[.pointer (some ⟨x, 0, none⟩), .int .i64 (la : Nat)], .int .i64 0, .int .i64 0]) (results_ctt rfl _ _ _ _ _ _ rfl rfl rfl k9 Tryd.underlying43 rfl (by kernel_rfl)) rfl ?_
        refine ⟨hz.trans (t9.below (Nat.le_refl _)), _, _, by rw [HC.out]; rfl, fun _ => ⟨x, f, d, F, D, rfl, by rw [HL.out], HPO.out, ?_, by rw [← HI.out]; exact HK.out, HGE.out⟩⟩
        exact HXr.out.keep (t9.others _ (CB.ne HXr.out.cb H9.out (by decide))) (t9.others _ (CB.ne HXr.out.fb H9.out (by decide))) (t9.others _ (CB.ne HXr.out.db H9.out (by decide)))
end Go.Proofs.YtmbiompmhaiehaaDoor
