/- Rows of raw nodes of the call's own, appended (as print's PrOwn); over, under: an operation's nodes. -/
import Derived.Test.YtpgljmkemmikhaaDoorExAw
import Derived.Test.YtpgljmkemmikhaaDoorExGb
import Derived.Test.YtpgljmkemmikhaaDoorExGx
import Derived.Laws.OwnMore
import Derived.ArgAppend
namespace Go.Proofs.YtpgljmkemmikhaaDoor
open Go.RowKit

/-- raw nodes in a row of the call's own -/
def OwnRn (w : World) (B : Nat) (A : Option Addr) (c : Nat) (l : List Rn) : Prop := w.ownsRow B 37 5 (.slice A l.length c) l.length (flatR rnC l)
theorem infoRn : (Tryd.prog.info? 37).map (fun i => (i.zero, i.size, i.bytes)) = some (some (.agg #[.int .i64 0, .int .i64 0, .int .u64 0, .string ⟨#[]⟩, .int .i64 0]), 5, 48) := by kernel_rfl
theorem OwnRn.nil (w : World) (B : Nat) : OwnRn w B none 0 [] := World.ownsRow_nil w B _ 5
theorem OwnRn.rn {w : World} {B c : Nat} {A : Option Addr} {l : List Rn} (h : OwnRn w B A c l) : RN w w.heap.size A l := by
  rcases h.2 with ⟨hv, h0⟩ | ⟨g, cap, cur, hv, hg, hc, rest⟩
  · exact .inl (List.length_eq_zero_iff.1 h0)
  · injection hv with e1 e2 e3
    subst e1
    refine .inr ⟨g, 0, rfl, (Array.getElem?_eq_some_iff.1 hc).1, fun i x hx j v hv => ?_⟩
    have hj : j < 5 := (Array.getElem?_eq_some_iff.1 hv).1
    have hf := flatR_at (f := rnC) (s := 5) (fun _ => rfl) l i x hx j hj
    rw [hv] at hf
    have := World.ownsRow.cells h (g := g) rfl (i * 5 + j) _ hf
    rw [Addr.add_lit, Nat.zero_add] at this
    rw [Nat.zero_add]
    exact this
theorem rnC_one (x : Rn) : ∀ u ∈ (rnC x).toList, u.oneCell' = true := by
  intro u hu
  simp only [rnC, List.mem_cons, List.not_mem_nil, or_false] at hu
  rcases hu with rfl | rfl | rfl | rfl | rfl <;> rfl
theorem flatRn_one (l : List Rn) : ∀ u ∈ flatR rnC l, u.oneCell' = true := by
  intro u hu
  obtain ⟨x, _, hx⟩ := List.mem_flatMap.1 hu
  exact rnC_one x u hx
/-- the cells of raw nodes that stand at an address -/
theorem RN.flat {w : World} {B : Nat} {b o : Nat} {l : List Rn} (h : RN w B (some ⟨b, o, none⟩) l) : ∀ j u, (flatR rnC l)[j]? = some u → w.cell? ((⟨b, o, none⟩ : Addr).add j) = some u := by
  intro j u hu
  have hlen : (flatR rnC l).length = l.length * 5 := flatR_len (f := rnC) (s := 5) (fun _ => rfl) l
  have hj : j < l.length * 5 := by rw [← hlen]; exact (List.getElem?_eq_some_iff.1 hu).1
  have hi : j / 5 < l.length := by omega
  have hx : l[j / 5]? = some l[j / 5] := List.getElem?_eq_getElem hi
  have hf := flatR_at (f := rnC) (s := 5) (fun _ => rfl) l (j / 5) _ hx (j % 5) (by omega)
  rw [show j / 5 * 5 + j % 5 = j by omega, hu] at hf
  obtain ⟨b', o', e, _, hc⟩ := h.at_ hx
  cases e
  have := hc (j % 5) u hf.symm
  rw [Addr.add_lit]
  rwa [show o + j / 5 * 5 + j % 5 = o + j by omega] at this
theorem run_app_rn {w : World} {B B' c cS : Nat} {A S : Option Addr} {l N : List Rn} (h : OwnRn w B A c l) (hS : RN w B' S N) (h0 : N ≠ []) (hl : (l.length + N.length) * 48 ≤ 140737488355328) (hB : B ≤ w.heap.size) :
    ∃ g c' w', (Builtin.append_ #[22, 22] 22 #[.slice A l.length c, .slice S N.length cS]).run Tryd.prog w = .ok (.slice (some ⟨g, 0, none⟩) (l.length + N.length) c') w' ∧
      OwnRn w' B (some ⟨g, 0, none⟩) c' (l ++ N) ∧ w.grownBy w' (obk A) ∧ Below B w w' := by
  obtain ⟨i, hi, hz, hs, hb⟩ := info_three infoRn
  have hpos := List.length_pos_iff.2 h0
  obtain ⟨b, o, rfl, _, _⟩ := hS.at_ (List.getElem?_eq_getElem hpos)
  obtain ⟨g, c', w', hr, hown, hg, hat, hlt⟩ := run_append_lies (P := Tryd.prog) w 22 22 B 37 i _ 5 48 Tryd.underlying22 hi hz hs hb rfl (by decide) _ l.length (flatR rnC l) h ⟨b, o, none⟩ N.length cS (flatR rnC N)
    (flatR_len (f := rnC) (s := 5) (fun _ => rfl) N) (RN.flat hS) (flatRn_one N) hpos (by simp only [maxLen]; omega) hl hB _ rfl
  rw [obk_own] at hg
  refine ⟨g, c', w', hr, ?_, hg, ⟨hg.os, hg.tape, hg.output, hg.size, fun k hk => hg.block k (by omega) fun e => ?_⟩⟩
  · unfold OwnRn
    rw [List.length_append, flatR, List.flatMap_append]
    exact hown
  · have := World.ownsRow.lt h k (by rw [obk_own]; exact e.symm)
    omega
theorem run_first {w : World} {B' cS : Nat} {S : Option Addr} {N : List Rn} (hS : RN w B' S N) (h0 : N ≠ []) (hl : N.length ≤ 2932031007402) :
    ∃ g c' w', (Builtin.append_ #[22, 22] 22 #[.slice none 0 0, .slice S N.length cS]).run Tryd.prog w = .ok (.slice (some ⟨g, 0, none⟩) N.length c') w' ∧ OwnRn w' w.heap.size (some ⟨g, 0, none⟩) c' N ∧ Below w.heap.size w w' := by
  obtain ⟨g, c', w', hr, ho, _, hb⟩ := run_app_rn (OwnRn.nil w w.heap.size) hS h0 (by simp only [List.length_nil]; omega) (Nat.le_refl _) (cS := cS)
  rw [List.nil_append] at ho
  rw [show ([] : List Rn).length + N.length = N.length by simp] at hr
  exact ⟨g, c', w', hr, ho, hb⟩
theorem few_snoc {N : List Rn} {x : Rn} (hN : Few N) (hl : N.length + 1 ≤ 2932031007402) (hx : x.n ≤ 9223372036854775807 ∧ x.num < 18446744073709551616 ∧ x.t.length ≤ 9223372036854775807) : Few (N ++ [x]) := by
  refine ⟨by simp only [List.length_append, List.length_cons, List.length_nil]; omega, fun y hy => ?_, fun y hy => ?_⟩
  · simp only [List.mem_append, List.mem_singleton] at hy
    rcases hy with hy | rfl
    · exact hN.n y hy
    · exact hx.1
  · simp only [List.mem_append, List.mem_singleton] at hy
    rcases hy with hy | rfl
    · exact hN.num y hy
    · exact hx.2
theorem few_both {N M : List Rn} (hN : Few N) (hM : Few M) (hl : N.length + M.length ≤ 2932031007402) : Few (N ++ M) := by
  refine ⟨by rw [List.length_append]; omega, fun y hy => ?_, fun y hy => ?_⟩
  · rcases List.mem_append.1 hy with hy | hy
    · exact hN.n y hy
    · exact hM.n y hy
  · rcases List.mem_append.1 hy with hy | hy
    · exact hN.num y hy
    · exact hM.num y hy
theorem OwnRn.below {w w' : World} {B c : Nat} {A : Option Addr} {l : List Rn} (h : OwnRn w B A c l) (hb : Below w.heap.size w w') : OwnRn w' B A c l :=
  ownsRow_keep h fun k hk => hb.block k (World.ownsRow.lt h k (by rw [obk_own]; exact hk)).2

/-- an operation's node -/
def opN (o : Int) : Rn := ⟨o, 0, 0, [], 0⟩
/-- a row of nodes that is handed back -/
def Row5 (w : World) (L : List Rn) (e : Ending) (w' : World) : Prop := ∃ g c, e = .returned (.slice (some ⟨g, 0, none⟩) L.length c) ∧ Below w.heap.size w w' ∧ RN w' w'.heap.size (some ⟨g, 0, none⟩) L

section
variable {w : World} {A S : Option Addr} {N M : List Rn} {c cS : Nat}
theorem app_op {L : List Rn} {w2 : World} {g2 c2 : Nat} (h : OwnRn w2 w.heap.size (some ⟨g2, 0, none⟩) c2 L) (hb : Below w.heap.size w w2) (hl : L.length ≤ 2932031007400) (o : Int) : ∀ w3, Below w2.heap.size w2 w3 → ∃ g3 c3 w5, (Builtin.append_ #[22, 22] 22 #[.slice (some ⟨g2, 0, none⟩) L.length c2, .slice (some ⟨w3.heap.size, 0, none⟩) 1 1]).run Tryd.prog (w3.alloc (.cells #[.int .i64 o, .int .i64 0, .int .u64 0, .string ⟨#[]⟩, .int .i64 0] 37)) = .ok (.slice (some ⟨g3, 0, none⟩) (L.length + 1) c3) w5 ∧
    RN w5 w5.heap.size (some ⟨g3, 0, none⟩) (L ++ [opN o]) ∧ Below w.heap.size w w5 := fun w3 h3 => by
  have h4 : Below w3.heap.size w3 (w3.alloc (.cells #[.int .i64 o, .int .i64 0, .int .u64 0, .string ⟨#[]⟩, .int .i64 0] 37)) := (Below.refl _ w3).alloc (Nat.le_refl _) _
  have h24 := h3.trans (h4.mono h3.size)
  have hr := erows_new (f := rnC) (s := 5) (fun _ => rfl) w3 #[.int .i64 o, .int .i64 0, .int .u64 0, .string ⟨#[]⟩, .int .i64 0] 37 [opN o] rfl
  obtain ⟨g3, c3, w5, e, ho, _, hb5⟩ := run_app_rn (cS := 1) (h.below h24) hr (by simp) (by simp only [List.length_cons, List.length_nil]; omega) (Nat.le_trans hb.size h24.size)
  exact ⟨g3, c3, w5, e, ho.rn, (hb.trans (h24.mono hb.size)).trans hb5⟩

set_option maxRecDepth 100000 in
set_option maxHeartbeats 4000000 in
theorem over_any (hA : RN w w.heap.size A N) (hS : RN w w.heap.size S M) (hN : N ≠ []) (hM : M ≠ []) (hl : N.length + M.length ≤ 2932031007400) (o : Int) : Calls Tryd.prog 14 #[.slice A N.length c, .slice S M.length cS, .int .i64 o] w (Row5 w (N ++ M ++ [opN o])) := by
  obtain ⟨g1, c1, w1, hr1, ho1, hb1⟩ := run_first (cS := c) hA hN (by omega)
  obtain ⟨g2, c2, w2, hr2, ho2, _, hb2⟩ := run_app_rn (cS := cS) ho1 (hS.below hb1) hM (by omega) hb1.size
  have hb02 := hb1.trans hb2
  have hr3 := Lib.hid (app_op ho2 hb02 (by rw [List.length_append]; omega) o)
  rw [List.length_append] at hr3
  have hlen : (N ++ M ++ [opN o]).length = N.length + M.length + 1 := by simp only [List.length_append, List.length_cons, List.length_nil]
  obtain ⟨n, hn⟩ : ∃ n, N.length = n := ⟨_, rfl⟩
  obtain ⟨m, hm⟩ : ∃ m, M.length = m := ⟨_, rfl⟩
  unfold Row5
  rw [hlen]
  rw [hn] at hr1
  rw [hn, hm] at hr2 hr3
  rw [hn, hm]
  clear hA hS hN hM ho1 ho2 hb1 hb2 hlen hn hm hb02
  go_enter Tryd.func14, Tryd.ntmps14
  go_wp2_with (first
    | (at_builtin; refine wpList_append_run rfl (.tmp 8) (.tmp 9) _ rfl rfl rfl hr1 ?_)
    | (at_builtin; refine wpList_append_run rfl (.tmp 11) (.tmp 12) _ rfl rfl rfl hr2 ?_)
    | (go_at_call 25; refine (op_leaf _ _).mono ?_; rintro e w3 ⟨rfl, H3⟩; obtain ⟨g3, c3, w5, hr5, H5⟩ := hr3.out w3 H3.out; have H5 := Lib.hid H5)
    | (at_builtin; refine wpList_append_run rfl (.tmp 14) (.tmp 17) _ rfl rfl rfl hr5 ?_)
    | fail)
  go_ret
  exact ⟨g3, c3, rfl, H5.out.2, H5.out.1⟩
set_option maxRecDepth 100000 in
set_option maxHeartbeats 4000000 in
theorem under_any (hA : RN w w.heap.size A N) (hN : N ≠ []) (hl : N.length ≤ 2932031007400) (o : Int) : Calls Tryd.prog 16 #[.slice A N.length c, .int .i64 o] w (Row5 w (N ++ [opN o])) := by
  obtain ⟨g1, c1, w1, hr1, ho1, hb1⟩ := run_first (cS := c) hA hN (by omega)
  have hr3 := Lib.hid (app_op ho1 hb1 (by omega) o)
  have hlen : (N ++ [opN o]).length = N.length + 1 := by simp only [List.length_append, List.length_cons, List.length_nil]
  obtain ⟨n, hn⟩ : ∃ n, N.length = n := ⟨_, rfl⟩
  unfold Row5
  rw [hlen, hn]
  rw [hn] at hr1 hr3
  clear hA hN ho1 hb1 hlen hn
  go_enter Tryd.func16, Tryd.ntmps16
  go_wp2_with (first
    | (at_builtin; refine wpList_append_run rfl (.tmp 6) (.tmp 7) _ rfl rfl rfl hr1 ?_)
    | (go_at_call 25; refine (op_leaf _ _).mono ?_; rintro e w3 ⟨rfl, H3⟩; obtain ⟨g3, c3, w5, hr5, H5⟩ := hr3.out w3 H3.out; have H5 := Lib.hid H5)
    | (at_builtin; refine wpList_append_run rfl (.tmp 9) (.tmp 12) _ rfl rfl rfl hr5 ?_)
    | fail)
  go_ret
  exact ⟨g3, c3, rfl, H5.out.2, H5.out.1⟩
end
end Go.Proofs.YtpgljmkemmikhaaDoor
/- The walks of one and alike (gen_alike.py). -/
namespace Go.Proofs.YtpgljmkemmikhaaDoor
open Go.RowKit

set_option maxRecDepth 100000 in
set_option maxHeartbeats 4000000 in
theorem isone_any {w : World} {A : Option Addr} {N : List Rn} {c : Nat} (hR : RN w w.heap.size A N) (hF : Few N) :
    Calls Tryd.prog 13 #[.slice A N.length c] w fun e w' => e = .returned (.bool (decide (N.length ≤ 65536 ∧ (chkP N).2 = 0))) ∧ Below w.heap.size w w' := by
  have cc := check_any (c := c) hR hF
  have hf := hF.few
  obtain ⟨n, hn⟩ : ∃ n, N.length = n := ⟨_, rfl⟩
  obtain ⟨a, ha⟩ : ∃ n, (chkP N).1 = n := ⟨_, rfl⟩
  obtain ⟨e, he⟩ : ∃ n, (chkP N).2 = n := ⟨_, rfl⟩
  rw [hn, ha, he] at cc
  rw [hn, he]
  rw [hn] at hf
  clear hR hF hn ha he
  by_cases hl : n ≤ 65536
  · have hz : ¬ (65536 : Int) < (n : Int) := by omega
    by_cases h0 : e = 0
    · subst h0
      rw [decide_eq_true ⟨hl, rfl⟩]
      go_enter Tryd.func13, Tryd.ntmps13
      go_wp2_with (go_at_call 11; refine cc.mono ?_; rintro e w1 ⟨rfl, H1⟩)
      go_ret
      exact ⟨rfl, H1⟩
    · rw [decide_eq_false (fun h => h0 h.2)]
      have hz2 : ((e : Int) == 0) = false := by rw [beq_eq_false_iff_ne]; omega
      go_enter Tryd.func13, Tryd.ntmps13
      go_wp2_with (go_at_call 11; refine cc.mono ?_; rintro e w1 ⟨rfl, H1⟩)
      go_ret
      exact ⟨rfl, H1⟩
  · rw [decide_eq_false (fun h => hl h.1)]
    have hz : (65536 : Int) < (n : Int) := by omega
    go_enter Tryd.func13, Tryd.ntmps13
    go_wp2
    go_ret
    exact ⟨rfl, Below.refl _ _⟩

set_option maxRecDepth 100000 in
set_option maxHeartbeats 8000000 in
theorem xalike_any {w : World} {A S : Option Addr} {N M : List Rn} {c cS : Nat} (hK : KSt w w) (hN : RN w w.heap.size A N) (hM : RN w w.heap.size S M) (fN : Few N) (fM : Few M) (h : ∀ k : Int, 1 ≤ k → k ≤ 5 → (valV N k).e = 0 → (valV M k).e = 0 → valV N k = valV M k) :
    Calls Tryd.prog 15 #[.slice A N.length c, .slice S M.length cS] w fun e w' => e = .returned (.bool true) ∧ Below w.heap.size w w' := by
  have hl1 := fN.few
  have hl2 := fM.few
  obtain ⟨n, hn⟩ : ∃ n, N.length = n := ⟨_, rfl⟩
  obtain ⟨m, hm⟩ : ∃ n, M.length = n := ⟨_, rfl⟩
  have CV : ∀ {A : Option Addr} {N : List Rn} {c : Nat}, RN w w.heap.size A N → Few N → ∀ (K : Nat), Hid (∃ (z0 : Int) (z1 : Nat) (z2 : ByteArray) (av ev : Nat), Hid (∀ W, Below w.heap.size w W → Calls Tryd.prog 19 #[.slice A N.length c, .int .i64 (K : Nat)] W (fun e w' => e = .returned (.tuple #[.agg #[.int .i64 z0, .int .u64 (z1 : Nat), .string z2], .int .i64 (av : Nat), .int .i64 (ev : Nat)]) ∧ Hid (Below W.heap.size W w'))) ∧ Hid ((valV N (K : Nat)).k = z0 ∧ (valV N (K : Nat)).n = z1 ∧ str (valV N (K : Nat)).s = z2 ∧ (valV N (K : Nat)).e = ev)) := fun {A N c} hR hF K => by
    refine ⟨(valV N K).k, (valV N K).n, str (valV N K).s, (valV N K).at_, (valV N K).e, ?_, rfl, rfl, rfl, rfl⟩
    intro W hb
    exact value_any (c := c) (k := K) (hK.then_ hb).self ((hR.below hb).more hb.size) hF
  have C1 := CV (c := c) hN fN
  have C2 := CV (c := cS) hM fM
  simp only [hn] at C1
  simp only [hm] at C2
  rw [hn, hm]
  have HH := Lib.hid h
  have BA : Hid (∀ (W : World) o, Below w.heap.size w W → Below w.heap.size w (W.alloc o)) := fun W o h => h.trans (((Below.refl _ W).alloc (Nat.le_refl _) _).mono h.size)
  have B0 := Lib.hid (Below.refl w.heap.size w)
  clear CV hK hN hM fN fM h hn hm
  go_enter Tryd.func15, Tryd.ntmps15
  go_wp2
  go_loopw [5] (fun vk wr => ∃ (K : Nat), vk = .int .i64 K ∧ 1 ≤ K ∧ K ≤ 6 ∧ Hid (Below w.heap.size w wr)) (fun vk _ => 6 - (intOf vk).toNat)
  case atStart => exact ⟨1, rfl, by decide, by decide, B0⟩
  case round =>
    obtain ⟨K, rfl, hK1, hK6, HF⟩ := hrel
    by_cases hlt : K ≤ 5
    · have hlz : (K : Int) ≤ 5 := by omega
      obtain ⟨x0, x1, x2, a1, e1, c1, HV⟩ := (C1 K).out
      obtain ⟨y0, y1, y2, a2, e2, c2, HY⟩ := (C2 K).out
      have hh := HH.out (K : Nat) (by omega) (by omega)
      rw [HV.out.2.2.2, HY.out.2.2.2] at hh
      by_cases h1 : e1 = 0
      · by_cases h2 : e2 = 0
        · have hv := hh h1 h2
          have hy := HY.out
          rw [← hv] at hy
          obtain rfl : x0 = y0 := HV.out.1.symm.trans hy.1
          obtain rfl : x1 = y1 := HV.out.2.1.symm.trans hy.2.1
          obtain rfl : x2 = y2 := HV.out.2.2.1.symm.trans hy.2.2.1
          subst h1 h2
          clear hh HV HY hv hy C1 C2 HH
          go_wp2_with (first
            | (go_at_call 19; refine (c1.out wr HF.out).mono ?_; rintro e w4 ⟨rfl, H4⟩; have B4 := HF.out.trans (H4.out.mono HF.out.size); have B5 := BA.out w4 (.cells #[.int .i64 x0, .int .u64 (x1 : Nat), .string x2] 39) B4; have n5 := CB.new w4 39 #[.int .i64 x0, .int .u64 (x1 : Nat), .string x2]; have c2x := Lib.hid (c2.out _ B5); have hs5 : w4.heap.size < (w4.alloc (.cells #[.int .i64 x0, .int .u64 (x1 : Nat), .string x2] 39)).heap.size := (by simp); have X5 := Lib.hid (And.intro B5 (And.intro n5 hs5)); clear c1 c2 B4 B5 n5 hs5)
            | (go_at_call 19; refine c2x.out.mono ?_; rintro e w6 ⟨rfl, H6⟩; have B6 := Lib.hid (BA.out w6 (.cells #[.int .i64 x0, .int .u64 (x1 : Nat), .string x2] 39) (X5.out.1.trans (H6.out.mono X5.out.1.size))); have n7 := (X5.out.2.1.below H6.out).below ((Below.refl _ w6).alloc (Nat.le_refl _) (.cells #[.int .i64 x0, .int .u64 (x1 : Nat), .string x2] 39)); have m7 := CB.new w6 39 #[.int .i64 x0, .int .u64 (x1 : Nat), .string x2]; have q0 := n7.at_ 0; have q1 := n7.at_ 1; have q2 := n7.at_ 2; have p0 := m7.at_ 0; have p1 := m7.at_ 1; have p2 := m7.at_ 2; simp only [List.getElem?_toArray, List.getElem?_cons_zero, List.getElem?_cons_succ] at q0 q1 q2 p0 p1 p2; have hne : w4.heap.size ≠ w6.heap.size := by (have := H6.out.size; have := X5.out.2.2; omega))
            | fail)
          go_roundw
          case rel => exact ⟨K + 1, by go_num, by omega, by omega, B6⟩
          case measure => simp [intOf]; omega
        · have hz : ((e2 : Int) == 0) = false := by rw [beq_eq_false_iff_ne]; omega
          subst h1
          clear hh HV HY C1 C2 HH h2
          go_wp2_with (first
            | (go_at_call 19; refine (c1.out wr HF.out).mono ?_; rintro e w4 ⟨rfl, H4⟩; have B4 := HF.out.trans (H4.out.mono HF.out.size); have B5 := BA.out w4 (.cells #[.int .i64 x0, .int .u64 (x1 : Nat), .string x2] 39) B4; have n5 := CB.new w4 39 #[.int .i64 x0, .int .u64 (x1 : Nat), .string x2]; have c2x := Lib.hid (c2.out _ B5); have hs5 : w4.heap.size < (w4.alloc (.cells #[.int .i64 x0, .int .u64 (x1 : Nat), .string x2] 39)).heap.size := (by simp); have X5 := Lib.hid (And.intro B5 (And.intro n5 hs5)); clear c1 c2 B4 B5 n5 hs5)
            | (go_at_call 19; refine c2x.out.mono ?_; rintro e w6 ⟨rfl, H6⟩; have B6 := Lib.hid (BA.out w6 (.cells #[.int .i64 y0, .int .u64 (y1 : Nat), .string y2] 39) (X5.out.1.trans (H6.out.mono X5.out.1.size))))
            | fail)
          go_roundw
          case rel => exact ⟨K + 1, by go_num, by omega, by omega, B6⟩
          case measure => simp [intOf]; omega
      · have hz : ((e1 : Int) == 0) = false := by rw [beq_eq_false_iff_ne]; omega
        clear hh HV HY C1 C2 HH h1
        go_wp2_with (first
          | (go_at_call 19; refine (c1.out wr HF.out).mono ?_; rintro e w4 ⟨rfl, H4⟩; have B4 := HF.out.trans (H4.out.mono HF.out.size); have B5 := BA.out w4 (.cells #[.int .i64 x0, .int .u64 (x1 : Nat), .string x2] 39) B4; have n5 := CB.new w4 39 #[.int .i64 x0, .int .u64 (x1 : Nat), .string x2]; have c2x := Lib.hid (c2.out _ B5); have hs5 : w4.heap.size < (w4.alloc (.cells #[.int .i64 x0, .int .u64 (x1 : Nat), .string x2] 39)).heap.size := (by simp); have X5 := Lib.hid (And.intro B5 (And.intro n5 hs5)); clear c1 c2 B4 B5 n5 hs5)
          | (go_at_call 19; refine c2x.out.mono ?_; rintro e w6 ⟨rfl, H6⟩; have B6 := Lib.hid (BA.out w6 (.cells #[.int .i64 y0, .int .u64 (y1 : Nat), .string y2] 39) (X5.out.1.trans (H6.out.mono X5.out.1.size))))
          | fail)
        go_roundw
        case rel => exact ⟨K + 1, by go_num, by omega, by omega, B6⟩
        case measure => simp [intOf]; omega
    · obtain rfl : K = 6 := by omega
      go_wp2
      go_ret
      exact ⟨rfl, HF.out⟩
end Go.Proofs.YtpgljmkemmikhaaDoor
/- The walk of both (gen_alike.py). -/
namespace Go.Proofs.YtpgljmkemmikhaaDoor
open Go.RowKit

set_option maxRecDepth 100000 in
set_option maxHeartbeats 8000000 in
theorem xboth_any {w : World} {A S : Option Addr} {N M : List Rn} {c cS : Nat} (hK : KSt w w) (hN : RN w w.heap.size A N) (hM : RN w w.heap.size S M) (fN : Few N) (fM : Few M) (h : ∀ k : Int, 1 ≤ k → k ≤ 5 → ((valV N k).e = 0 ↔ (valV M k).e = 0) ∧ (valV N k).k = (valV M k).k ∧ (valV N k).n = (valV M k).n ∧ (valV N k).s = (valV M k).s) :
    Calls Tryd.prog 17 #[.slice A N.length c, .slice S M.length cS] w fun e w' => e = .returned (.bool true) ∧ Below w.heap.size w w' := by
  have hl1 := fN.few
  have hl2 := fM.few
  obtain ⟨n, hn⟩ : ∃ n, N.length = n := ⟨_, rfl⟩
  obtain ⟨m, hm⟩ : ∃ n, M.length = n := ⟨_, rfl⟩
  have CV : ∀ {A : Option Addr} {N : List Rn} {c : Nat}, RN w w.heap.size A N → Few N → ∀ (K : Nat), Hid (∃ (z0 : Int) (z1 : Nat) (z2 : ByteArray) (av ev : Nat), Hid (∀ W, Below w.heap.size w W → Calls Tryd.prog 19 #[.slice A N.length c, .int .i64 (K : Nat)] W (fun e w' => e = .returned (.tuple #[.agg #[.int .i64 z0, .int .u64 (z1 : Nat), .string z2], .int .i64 (av : Nat), .int .i64 (ev : Nat)]) ∧ Hid (Below W.heap.size W w'))) ∧ Hid ((valV N (K : Nat)).k = z0 ∧ (valV N (K : Nat)).n = z1 ∧ str (valV N (K : Nat)).s = z2 ∧ (valV N (K : Nat)).e = ev)) := fun {A N c} hR hF K => by
    refine ⟨(valV N K).k, (valV N K).n, str (valV N K).s, (valV N K).at_, (valV N K).e, ?_, rfl, rfl, rfl, rfl⟩
    intro W hb
    exact value_any (c := c) (k := K) (hK.then_ hb).self ((hR.below hb).more hb.size) hF
  have C1 := CV (c := c) hN fN
  have C2 := CV (c := cS) hM fM
  simp only [hn] at C1
  simp only [hm] at C2
  rw [hn, hm]
  have HH := Lib.hid h
  have BA : Hid (∀ (W : World) o, Below w.heap.size w W → Below w.heap.size w (W.alloc o)) := fun W o h => h.trans (((Below.refl _ W).alloc (Nat.le_refl _) _).mono h.size)
  have B0 := Lib.hid (Below.refl w.heap.size w)
  clear CV hK hN hM fN fM h hn hm
  go_enter Tryd.func17, Tryd.ntmps17
  go_wp2
  go_loopw [5] (fun vk wr => ∃ (K : Nat), vk = .int .i64 K ∧ 1 ≤ K ∧ K ≤ 6 ∧ Hid (Below w.heap.size w wr)) (fun vk _ => 6 - (intOf vk).toNat)
  case atStart => exact ⟨1, rfl, by decide, by decide, B0⟩
  case round =>
    obtain ⟨K, rfl, hK1, hK6, HF⟩ := hrel
    by_cases hlt : K ≤ 5
    · have hlz : (K : Int) ≤ 5 := by omega
      obtain ⟨x0, x1, x2, a1, e1, c1, HV⟩ := (C1 K).out
      obtain ⟨y0, y1, y2, a2, e2, c2, HY⟩ := (C2 K).out
      have hh := HH.out (K : Nat) (by omega) (by omega)
      rw [HV.out.2.2.2, HY.out.2.2.2] at hh
      obtain ⟨h12, hk, hn, hs⟩ := hh
      obtain rfl : x0 = y0 := HV.out.1.symm.trans (hk.trans HY.out.1)
      obtain rfl : x1 = y1 := HV.out.2.1.symm.trans (hn.trans HY.out.2.1)
      obtain rfl : x2 = y2 := HV.out.2.2.1.symm.trans ((congrArg str hs).trans HY.out.2.2.1)
      by_cases h1 : e1 = 0
      · have h2 := h12.1 h1
        subst h1 h2
        clear HV HY C1 C2 HH hk hn hs h12
        go_wp2_with (first
          | (go_at_call 19; refine (c1.out wr HF.out).mono ?_; rintro e w4 ⟨rfl, H4⟩; have B4 := HF.out.trans (H4.out.mono HF.out.size); have B5 := BA.out w4 (.cells #[.int .i64 x0, .int .u64 (x1 : Nat), .string x2] 39) B4; have n5 := CB.new w4 39 #[.int .i64 x0, .int .u64 (x1 : Nat), .string x2]; have c2x := Lib.hid (c2.out _ B5); have hs5 : w4.heap.size < (w4.alloc (.cells #[.int .i64 x0, .int .u64 (x1 : Nat), .string x2] 39)).heap.size := (by simp); have X5 := Lib.hid (And.intro B5 (And.intro n5 hs5)); clear c1 c2 B4 B5 n5 hs5)
          | (go_at_call 19; refine c2x.out.mono ?_; rintro e w6 ⟨rfl, H6⟩; have B6 := Lib.hid (BA.out w6 (.cells #[.int .i64 x0, .int .u64 (x1 : Nat), .string x2] 39) (X5.out.1.trans (H6.out.mono X5.out.1.size))); have n7 := (X5.out.2.1.below H6.out).below ((Below.refl _ w6).alloc (Nat.le_refl _) (.cells #[.int .i64 x0, .int .u64 (x1 : Nat), .string x2] 39)); have m7 := CB.new w6 39 #[.int .i64 x0, .int .u64 (x1 : Nat), .string x2]; have q0 := n7.at_ 0; have q1 := n7.at_ 1; have q2 := n7.at_ 2; have p0 := m7.at_ 0; have p1 := m7.at_ 1; have p2 := m7.at_ 2; simp only [List.getElem?_toArray, List.getElem?_cons_zero, List.getElem?_cons_succ] at q0 q1 q2 p0 p1 p2; have hne : w4.heap.size ≠ w6.heap.size := by (have := H6.out.size; have := X5.out.2.2; omega))
          | fail)
        go_roundw
        case rel => exact ⟨K + 1, by go_num, by omega, by omega, B6⟩
        case measure => simp [intOf]; omega
      · have h2 : e2 ≠ 0 := fun h => h1 (h12.2 h)
        have hz : ((e1 : Int) == 0) = false := by rw [beq_eq_false_iff_ne]; omega
        have hz2 : ((e2 : Int) == 0) = false := by rw [beq_eq_false_iff_ne]; omega
        clear HV HY C1 C2 HH hk hn hs h12 h1 h2
        go_wp2_with (first
          | (go_at_call 19; refine (c1.out wr HF.out).mono ?_; rintro e w4 ⟨rfl, H4⟩; have B4 := HF.out.trans (H4.out.mono HF.out.size); have B5 := BA.out w4 (.cells #[.int .i64 x0, .int .u64 (x1 : Nat), .string x2] 39) B4; have n5 := CB.new w4 39 #[.int .i64 x0, .int .u64 (x1 : Nat), .string x2]; have c2x := Lib.hid (c2.out _ B5); have hs5 : w4.heap.size < (w4.alloc (.cells #[.int .i64 x0, .int .u64 (x1 : Nat), .string x2] 39)).heap.size := (by simp); have X5 := Lib.hid (And.intro B5 (And.intro n5 hs5)); clear c1 c2 B4 B5 n5 hs5)
          | (go_at_call 19; refine c2x.out.mono ?_; rintro e w6 ⟨rfl, H6⟩; have B6 := Lib.hid (BA.out w6 (.cells #[.int .i64 x0, .int .u64 (x1 : Nat), .string x2] 39) (X5.out.1.trans (H6.out.mono X5.out.1.size))); have n7 := (X5.out.2.1.below H6.out).below ((Below.refl _ w6).alloc (Nat.le_refl _) (.cells #[.int .i64 x0, .int .u64 (x1 : Nat), .string x2] 39)); have m7 := CB.new w6 39 #[.int .i64 x0, .int .u64 (x1 : Nat), .string x2]; have q0 := n7.at_ 0; have q1 := n7.at_ 1; have q2 := n7.at_ 2; have p0 := m7.at_ 0; have p1 := m7.at_ 1; have p2 := m7.at_ 2; simp only [List.getElem?_toArray, List.getElem?_cons_zero, List.getElem?_cons_succ] at q0 q1 q2 p0 p1 p2; have hne : w4.heap.size ≠ w6.heap.size := by (have := H6.out.size; have := X5.out.2.2; omega))
          | fail)
        go_roundw
        case rel => exact ⟨K + 1, by go_num, by omega, by omega, B6⟩
        case measure => simp [intOf]; omega
    · obtain rfl : K = 6 := by omega
      go_wp2
      go_ret
      exact ⟨rfl, HF.out⟩
end Go.Proofs.YtpgljmkemmikhaaDoor
/- Rows of nodes that stand in later worlds; over, under, alike, both over them (gen_laws.py). -/
namespace Go.Proofs.YtpgljmkemmikhaaDoor
open Go.RowKit

/-- rows of nodes that stand in a later world -/
def Std (w W : World) (R : List (Option Addr × List Rn)) : Prop := Below w.heap.size w W ∧ ∀ p ∈ R, RN W W.heap.size p.1 p.2
theorem Std.keep {w W W' : World} {R : List (Option Addr × List Rn)} (h : Std w W R) (hb : Below W.heap.size W W') : Std w W' R :=
  ⟨h.1.trans (hb.mono h.1.size), fun p hp => ((h.2 p hp).below hb).more hb.size⟩
theorem Std.add {w W : World} {R : List (Option Addr × List Rn)} (h : Std w W R) {A : Option Addr} {L : List Rn} (hr : RN W W.heap.size A L) : Std w W ((A, L) :: R) :=
  ⟨h.1, fun p hp => by
    rcases List.mem_cons.1 hp with rfl | hp
    · exact hr
    · exact h.2 p hp⟩
/-- small rows -/
def Pk (n : Nat) (N : List Rn) : Prop := N ≠ [] ∧ N.length ≤ n ∧ Few N
theorem pk_over {n m : Nat} {N M L : List Rn} {o : Int} (hN : Pk n N) (hM : Pk m M) (h : N ++ M ++ [opN o] = L) (hl : n + m ≤ 2932031007000) : Pk (n + m + 1) L := by
  subst h
  obtain ⟨_, h2, h3⟩ := hN
  obtain ⟨_, h5, h6⟩ := hM
  refine ⟨by simp, by simp only [List.length_append, List.length_cons, List.length_nil]; omega, few_snoc (few_both h3 h6 (by omega)) (by rw [List.length_append]; omega) ⟨(show (0 : Int) ≤ 9223372036854775807 by decide), (show 0 < 18446744073709551616 by decide), Nat.zero_le _⟩⟩
theorem pk_under {n : Nat} {N L : List Rn} {o : Int} (hN : Pk n N) (h : N ++ [opN o] = L) (hl : n ≤ 2932031007000) : Pk (n + 1) L := by
  subst h
  obtain ⟨_, h2, h3⟩ := hN
  exact ⟨by simp, by simp only [List.length_append, List.length_cons, List.length_nil]; omega, few_snoc h3 (by omega) ⟨(show (0 : Int) ≤ 9223372036854775807 by decide), (show 0 < 18446744073709551616 by decide), Nat.zero_le _⟩⟩
section
variable {w W : World} {R : List (Option Addr × List Rn)} {A S : Option Addr} {N M L : List Rn} {c cS n m : Nat} {o : Int}
theorem ov_any (F : Std w W R) (hN : (A, N) ∈ R) (hM : (S, M) ∈ R) (h : N ++ M ++ [opN o] = L) (pN : Pk n N) (pM : Pk m M) (hl : n + m ≤ 2932031007000) : Calls Tryd.prog 14 #[.slice A N.length c, .slice S M.length cS, .int .i64 o] W fun e W' => ∃ g c, e = .returned (.slice (some ⟨g, 0, none⟩) L.length c) ∧ Hid (Std w W' ((some ⟨g, 0, none⟩, L) :: R)) := by
  obtain ⟨h1, h2, _⟩ := pN
  obtain ⟨h4, h5, _⟩ := pM
  refine (over_any (N := N) (M := M) (F.2 _ hN) (F.2 _ hM) h1 h4 (by omega) o).mono ?_
  rintro e W' ⟨g, c, he, hb, hr⟩
  rw [h] at he hr
  exact ⟨g, c, he, (F.keep hb).add hr⟩
theorem un_any (F : Std w W R) (hN : (A, N) ∈ R) (h : N ++ [opN o] = L) (pN : Pk n N) (hl : n ≤ 2932031007000) : Calls Tryd.prog 16 #[.slice A N.length c, .int .i64 o] W fun e W' => ∃ g c, e = .returned (.slice (some ⟨g, 0, none⟩) L.length c) ∧ Hid (Std w W' ((some ⟨g, 0, none⟩, L) :: R)) := by
  obtain ⟨h1, h2, _⟩ := pN
  refine (under_any (N := N) (F.2 _ hN) h1 (by omega) o).mono ?_
  rintro e W' ⟨g, c, he, hb, hr⟩
  rw [h] at he hr
  exact ⟨g, c, he, (F.keep hb).add hr⟩
theorem al_any (hK : KSt w w) (F : Std w W R) (hN : (A, N) ∈ R) (hM : (S, M) ∈ R) (pN : Pk n N) (pM : Pk m M) (h : Like N M) : Calls Tryd.prog 15 #[.slice A N.length c, .slice S M.length cS] W fun e W' => e = .returned (.bool true) ∧ Hid (Std w W' R) :=
  (xalike_any (hK.then_ F.1).self (F.2 _ hN) (F.2 _ hM) pN.2.2 pM.2.2 h.vals).mono fun _ _ h => ⟨h.1, F.keep h.2⟩
theorem bo_any (hK : KSt w w) (F : Std w W R) (hN : (A, N) ∈ R) (hM : (S, M) ∈ R) (pN : Pk n N) (pM : Pk m M) (h : ∀ k : Int, 1 ≤ k → k ≤ 5 → ((valV N k).e = 0 ↔ (valV M k).e = 0) ∧ (valV N k).k = (valV M k).k ∧ (valV N k).n = (valV M k).n ∧ (valV N k).s = (valV M k).s) : Calls Tryd.prog 17 #[.slice A N.length c, .slice S M.length cS] W fun e W' => e = .returned (.bool true) ∧ Hid (Std w W' R) :=
  (xboth_any (hK.then_ F.1).self (F.2 _ hN) (F.2 _ hM) pN.2.2 pM.2.2 h).mono fun _ _ h => ⟨h.1, F.keep h.2⟩
end

end Go.Proofs.YtpgljmkemmikhaaDoor
/- Value, over and a number's node, of rows that stand (gen_numlaw.py). -/
namespace Go.Proofs.YtpgljmkemmikhaaDoor
open Go.RowKit

theorem leaf_few {x : Nat} (hx : x < 18446744073709551616) : Few [leafN x] := by
  refine ⟨(show (1 : Nat) ≤ 2932031007402 by decide), fun y hy => ?_, fun y hy => ?_⟩
  · simp only [List.mem_cons, List.not_mem_nil, or_false] at hy
    subst hy
    exact (by decide : (0 : Int) ≤ 9223372036854775807)
  · simp only [List.mem_cons, List.not_mem_nil, or_false] at hy
    subst hy
    exact ⟨hx, Nat.zero_le _⟩
theorem leaf_rn (w : World) (x : Nat) : RN (w.alloc (.cells #[.int .i64 1, .int .i64 0, .int .u64 (x : Nat), .string ⟨#[]⟩, .int .i64 0] 37)) (w.alloc (.cells #[.int .i64 1, .int .i64 0, .int .u64 (x : Nat), .string ⟨#[]⟩, .int .i64 0] 37)).heap.size (some ⟨w.heap.size, 0, none⟩) [leafN x] :=
  (erows_new (f := rnC) (s := 5) (fun _ => rfl) w _ 37 [leafN x] rfl).more (by simp)
/-- a number's node, laid anew behind a call -/
theorem Std.leaf {w W W' : World} {R : List (Option Addr × List Rn)} (h : Std w W R) (hb : Below W.heap.size W W') {x : Nat} {X : Int} (hX : Hid (X = (x : Int))) : Std w (W'.alloc (.cells #[.int .i64 1, .int .i64 0, .int .u64 X, .string ⟨#[]⟩, .int .i64 0] 37)) ((some ⟨W'.heap.size, 0, none⟩, [leafN x]) :: R) := by
  rw [hX.out]
  exact ((h.keep hb).keep ((Below.refl _ W').alloc (Nat.le_refl _) _)).add (leaf_rn W' x)
theorem Std.more {w W : World} {R : List (Option Addr × List Rn)} (h : Std w W R) (o : Obj) : Std w (W.alloc o) R := h.keep ((Below.refl _ W).alloc (Nat.le_refl _) _)
/-- Value of a row that stands -/
theorem vv_any {w W : World} {R : List (Option Addr × List Rn)} {A : Option Addr} {N : List Rn} {c : Nat} {k : Int} (hK : KSt w w) (F : Std w W R) (hN : (A, N) ∈ R) (hF : Few N) : ∃ (z0 : Int) (z1 : Nat) (z2 : ByteArray) (a e : Nat), Calls Tryd.prog 19 #[.slice A N.length c, .int .i64 k] W (fun E W' => E = .returned (.tuple #[.agg #[.int .i64 z0, .int .u64 (z1 : Nat), .string z2], .int .i64 (a : Nat), .int .i64 (e : Nat)]) ∧ Hid (Below W.heap.size W W')) ∧ Hid ((valV N k).k = z0 ∧ (valV N k).n = z1 ∧ str (valV N k).s = z2 ∧ (valV N k).e = e) :=
  ⟨(valV N k).k, (valV N k).n, str (valV N k).s, (valV N k).at_, (valV N k).e, value_any (hK.then_ F.1).self (F.2 _ hN) hF, rfl, rfl, rfl, rfl⟩

theorem unb_any {w W : World} {R : List (Option Addr × List Rn)} {A : Option Addr} {N L : List Rn} {c n : Nat} {o : Int} (F : Std w W R) (hN : (A, N) ∈ R) (h : N ++ [opN o] = L) (pN : Pk n N) (hl : n ≤ 2932031007000) : Calls Tryd.prog 16 #[.slice A N.length c, .int .i64 o] W fun e W' => ∃ g c, e = .returned (.slice (some ⟨g, 0, none⟩) L.length c) ∧ Hid (Std w W' ((some ⟨g, 0, none⟩, L) :: R) ∧ Below W.heap.size W W') := by
  obtain ⟨h1, h2, _⟩ := pN
  refine (under_any (N := N) (F.2 _ hN) h1 (by omega) o).mono ?_
  rintro e W' ⟨g, c, he, hb, hr⟩
  rw [h] at he hr
  exact ⟨g, c, he, (F.keep hb).add hr, hb⟩
theorem ovb_any {w W : World} {R : List (Option Addr × List Rn)} {A S : Option Addr} {N M L : List Rn} {c cS n m : Nat} {o : Int} (F : Std w W R) (hN : (A, N) ∈ R) (hM : (S, M) ∈ R) (h : N ++ M ++ [opN o] = L) (pN : Pk n N) (pM : Pk m M) (hl : n + m ≤ 2932031007000) : Calls Tryd.prog 14 #[.slice A N.length c, .slice S M.length cS, .int .i64 o] W fun e W' => ∃ g c, e = .returned (.slice (some ⟨g, 0, none⟩) L.length c) ∧ Hid (Std w W' ((some ⟨g, 0, none⟩, L) :: R) ∧ Below W.heap.size W W') := by
  obtain ⟨h1, h2, _⟩ := pN
  obtain ⟨h4, h5, _⟩ := pM
  refine (over_any (N := N) (M := M) (F.2 _ hN) (F.2 _ hM) h1 h4 (by omega) o).mono ?_
  rintro e W' ⟨g, c, he, hb, hr⟩
  rw [h] at he hr
  exact ⟨g, c, he, (F.keep hb).add hr, hb⟩
end Go.Proofs.YtpgljmkemmikhaaDoor
