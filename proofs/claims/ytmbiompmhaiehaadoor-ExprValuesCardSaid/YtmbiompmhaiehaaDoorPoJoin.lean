/- The walk of the code: a node over its kids. -/
import Derived.Test.YtmbiompmhaiehaaDoorPoKids
import Derived.Test.YtmbiompmhaiehaaDoorExGb
namespace Go.Proofs.YtmbiompmhaiehaaDoor
open Go.RowKit

theorem bottom_take {P : List Pe} {m : Nat} (i : Nat) (hm : m < P.length) : bottom i (P.take (m + 1)) = P[m].fi := by
  rw [List.take_succ_eq_append_getElem hm]
  have : ∀ (l : List Pe) (j : Nat), bottom j (l ++ [P[m]]) = P[m].fi := by
    intro l
    induction l with
    | nil => exact fun _ => rfl
    | cons a r ih => exact fun j => ih a.fi
  exact this _ i
theorem deepest_take {P : List Pe} {m : Nat} (hm : m < P.length) : deepest (P.take (m + 1)) = max (deepest (P.take m)) P[m].dp := by
  unfold deepest
  rw [List.take_succ_eq_append_getElem hm, List.foldl_append]
  rfl
theorem bottom_at {N : List Rn} {P : List Pe} {i m : Nat} (h : pileP N i = some P) (hm : m < P.length) : bottom i (P.take m) = P[m].r + 1 ∧ P[m].fi ≤ P[m].r := by
  have := chain_drop P i m (pile_chain i P h)
  rw [List.drop_eq_getElem_cons hm] at this
  exact ⟨this.1.symm, this.2.1⟩
theorem bottom_all {N : List Rn} {P : List Pe} {i : Nat} (h : pileP N i = some P) : bottom i (P.take P.length) = 0 := by
  have := chain_drop P i P.length (pile_chain i P h)
  rw [List.drop_length] at this
  exact this

/-- both rows written at one place -/
theorem Xb.put {w : World} {x f d B : Nat} {A : Option Addr} {c : Nat} {N : List Rn} {F D : List Nat} (h : Xb w x f d A c N F D) (hBf : B ≤ f) (hBd : B ≤ d) (r u v : Nat) (v' : Int) (hv : v' = (v : Nat)) :
    Xb ((w.setCell ⟨f, r, none⟩ (.int .i64 (u : Nat))).setCell ⟨d, r, none⟩ (.int .i64 v')) x f d A c N (F.set r u) (D.set r v) ∧ Below B w ((w.setCell ⟨f, r, none⟩ (.int .i64 (u : Nat))).setCell ⟨d, r, none⟩ (.int .i64 v')) ∧
      ∀ k, k < w.heap.size → k ≠ f → k ≠ d → ((w.setCell ⟨f, r, none⟩ (.int .i64 (u : Nat))).setCell ⟨d, r, none⟩ (.int .i64 v')).heap[k]? = w.heap[k]? := by
  subst hv
  obtain ⟨n1, n2⟩ := h.xf
  have n3 := h.ne
  have g1 : Gn f w (w.setCell ⟨f, r, none⟩ (.int .i64 (u : Nat))) := (Gn.refl f w).set r _
  have g2 : Gn d (w.setCell ⟨f, r, none⟩ (.int .i64 (u : Nat))) ((w.setCell ⟨f, r, none⟩ (.int .i64 (u : Nat))).setCell ⟨d, r, none⟩ (.int .i64 (v : Nat))) := (Gn.refl d _).set r _
  have hs := g1.size
  have lx := h.cb.len
  have lf := h.fb.len
  have ld := h.db.len
  refine ⟨⟨(h.cb.keep (g1.other lx n1)).keep (g2.other (by omega) n2), ?_, ?_, by rw [List.length_set]; exact h.fl, by rw [List.length_set]; exact h.dl, n3⟩, (g1.below (by omega) hBf).trans (g2.below (by omega) hBd), fun k hk k1 k2 => (g2.other (by omega) k2).trans (g1.other hk k1)⟩
  · have a := heap_setCell_same w f r _ _ (.int .i64 (u : Nat)) h.fb
    rw [nums_set] at a
    exact CB.keep (w := w.setCell ⟨f, r, none⟩ (.int .i64 (u : Nat))) a (g2.other (by omega) n3)
  · have hd : CB (w.setCell ⟨f, r, none⟩ (.int .i64 (u : Nat))) d 3 (nums D) := h.db.keep (g1.other ld (fun e => n3 e.symm))
    have a := heap_setCell_same _ d r _ _ (.int .i64 (v : Nat)) hd
    rw [nums_set] at a
    exact a
/-- what join answers and leaves -/
def JoinAt (x f d B : Nat) (A : Option Addr) (c : Nat) (N : List Rn) (F D : List Nat) (P : List Pe) (r k : Nat) (w : World) (e : Ending) (w' : World) : Prop :=
  e = .returned (.bool (decide (k ≤ P.length))) ∧ Below B w w' ∧ (k ≤ P.length → Xb w' x f d A c N (F.set r (bottom r (P.take k))) (D.set r (deepest (P.take k) + 1))) ∧ (∀ b, b < w.heap.size → b ≠ f → b ≠ d → w'.heap[b]? = w.heap[b]?) ∧ (¬ k ≤ P.length → w' = w)

set_option maxRecDepth 100000 in
set_option maxHeartbeats 4000000 in
theorem pjoin_any {w : World} {x f d B : Nat} {A : Option Addr} {c : Nat} {N : List Rn} {F D : List Nat} {P : List Pe} {r k : Nat} (h : Xb w x f d A c N F D) (hP : pileP N r = some P) (hK : Known N F D r) (hr : r < N.length) (hN : N.length ≤ 9000000000000000000) (hk : k ≤ 9223372036854775807)
    (hBf : B ≤ f) (hBd : B ≤ d) :
    Calls Tryd.prog 43 #[.pointer (some ⟨x, 0, none⟩), .int .i64 (r : Nat), .int .i64 (k : Nat)] w (JoinAt x f d B A c N F D P r k w) := by
  have x1 : w.cell? ⟨x, 1, none⟩ = some (.slice (some ⟨f, 0, none⟩) N.length N.length) := h.cb.at_ 1
  have x2 : w.cell? ⟨x, 2, none⟩ = some (.slice (some ⟨d, 0, none⟩) N.length N.length) := h.cb.at_ 2
  have hdp := pile_dp r P hP
  have HX := Lib.hid h
  have HP := Lib.hid hP
  have HK := Lib.hid hK
  have hrz : (r : Int) < (N.length : Int) := by omega
  have hr0 : (0 : Int) ≤ (r : Int) := by omega
  have hbl := chain_len P r (pile_chain r P hP)
  clear h hP hK
  go_enter Tryd.func43, Tryd.ntmps43
  go_wp2
  go_loopw [7, 8, 11] (fun u v z wr => ∃ m bt dt : Nat, u = .int .i64 (bt : Nat) ∧ v = .int .i64 (dt : Nat) ∧ z = .int .i64 m ∧ Hid (bottom r (P.take m) = bt ∧ deepest (P.take m) = dt) ∧ m ≤ k ∧ m ≤ P.length ∧ w = wr) (fun _ _ z _ => P.length - (intOf z).toNat)
  case atStart => exact ⟨0, r, 0, rfl, rfl, rfl, ⟨rfl, rfl⟩, Nat.zero_le _, Nat.zero_le _, rfl⟩
  case round =>
    obtain ⟨m, bt, dt, rfl, rfl, rfl, HBD, hmk, hmP, rfl⟩ := hrel
    obtain ⟨hbt0, hdt0⟩ := HBD.out
    by_cases hlt : m < k
    · have hz : (m : Int) < (k : Int) := by omega
      by_cases hmp : m < P.length
      · obtain ⟨e, he⟩ : ∃ e, P[m] = e := ⟨_, rfl⟩
        obtain ⟨hb1, hb2⟩ := bottom_at HP.out hmp
        have hmem := pile_mem r P HP.out e (by rw [← he]; exact List.getElem_mem hmp)
        have hde := hdp e (by rw [← he]; exact List.getElem_mem hmp)
        have hbt := bottom_take r hmp
        have hdt := deepest_take hmp
        rw [he] at hb1 hb2 hbt hdt
        rw [hbt0] at hb1
        rw [hdt0] at hdt
        obtain ⟨q1, q2⟩ := HK.out.at_ hmem.1 hmem.2
        have q3 := nums_at HX.out.fb (i := e.r) (by rw [HX.out.fl]; omega)
        have q4 := nums_at HX.out.db (i := e.r) (by rw [HX.out.dl]; omega)
        have w3 : w.cell? ⟨f, e.r, none⟩ = some (.int .i64 (e.fi : Nat)) := by
          rw [q3]
          obtain ⟨_, z⟩ := List.getElem?_eq_some_iff.1 q1
          rw [z]
        have w4 : w.cell? ⟨d, e.r, none⟩ = some (.int .i64 (e.dp : Nat)) := by
          rw [q4]
          obtain ⟨_, z⟩ := List.getElem?_eq_some_iff.1 q2
          rw [z]
        have hne0 : ((bt : Int) == 0) = false := beq_eq_false_iff_ne.2 (by omega)
        have hsub : (bt : Int) - 1 = (e.r : Int) := by omega
        have hel : (e.r : Int) < (N.length : Int) := by omega
        have he0 : (0 : Int) ≤ (e.r : Int) := by omega
        obtain ⟨mm, hmm⟩ : ∃ mm : Nat, max dt e.dp = mm := ⟨_, rfl⟩
        have HMM : Hid ((if (e.dp : Int) > (dt : Int) then (e.dp : Int) else (dt : Int)) = (mm : Int)) := by
          unfold Hid
          split <;> omega
        have HB := Lib.hid hbt
        have HD := Lib.hid (hdt.trans hmm)
        clear he hmem hbt hdt hbt0 hdt0 q1 q2 q3 q4 hb1 hmm
        go_wp2_with (refine wpList_max rfl (.tmp 15) (.tmp 23) 3 rfl rfl (mm : Int) rfl rfl HMM.out ?_)
        go_roundw
        case rel => exact ⟨m + 1, e.fi, mm, rfl, rfl, by go_num, ⟨HB.out, HD.out⟩, by omega, by omega, trivial⟩
        case measure => simp [intOf]; omega
      · obtain rfl : m = P.length := by omega
        have hb := bottom_all HP.out
        rw [hbt0] at hb
        have hb0 : ((bt : Int) == 0) = true := by rw [hb]; rfl
        clear hb
        have hdf : decide (k ≤ P.length) = false := decide_eq_false (by omega)
        go_wp2
        go_ret
        exact ⟨by rw [hdf]; rfl, Below.refl _ _, fun z => absurd z (by omega), fun _ _ _ _ => rfl, fun _ => rfl⟩
    · obtain rfl : m = k := by omega
      have hz : ¬ (m : Int) < (m : Int) := by omega
      have hfr := HX.out.fb.frozen r
      have hdr := HX.out.db.frozen r
      obtain ⟨u1, hu1⟩ : ∃ v, w.cell? ⟨f, r, none⟩ = some v := ⟨_, nums_at HX.out.fb (by rw [HX.out.fl]; exact hr)⟩
      obtain ⟨u2, hu2⟩ : ∃ v, w.cell? ⟨d, r, none⟩ = some v := ⟨_, nums_at HX.out.db (by rw [HX.out.dl]; exact hr)⟩
      have hne := HX.out.ne
      have hdt : dt ≤ r := by
        rw [← hdt0]
        refine deepest_le fun e he => ?_
        have h1 := hdp e (List.mem_of_mem_take he)
        have h2 := (pile_mem r P HP.out e (List.mem_of_mem_take he)).1
        omega
      have hw : IntKind.i64.wrap ((dt : Int) + 1) = (dt : Int) + 1 := by
        rw [IntKind.wrap_i64]
        omega
      have END : Hid (JoinAt x f d B A c N F D P r m w (.returned (.bool true)) ((w.setCell ⟨f, r, none⟩ (.int .i64 (bt : Nat))).setCell ⟨d, r, none⟩ (.int .i64 ((dt : Int) + 1))).drew) := by
        obtain ⟨h1, h2, h3⟩ := HX.out.put hBf hBd r bt (dt + 1) ((dt : Int) + 1) (by omega)
        refine ⟨by rw [decide_eq_true hmP], Below.thenN h2 1, fun _ => ?_, fun b q1 q2 q3 => h3 b q1 q2 q3, fun z => absurd hmP z⟩
        rw [hbt0, hdt0]
        exact h1.keep rfl rfl rfl
      clear HBD hbt0 hdt0
      go_wp2
      go_region
      all_goals
        go_wp2
        go_ret
        exact END.out
end Go.Proofs.YtmbiompmhaiehaaDoor
