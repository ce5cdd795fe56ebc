/- The walk of the code: a node over its kids. -/
import Derived.Test.YtipcgmaobiobbaaGreatDoorPoGa
import Derived.Test.YtipcgmaobiobbaaGreatDoorParGb
import Derived.BigQuiet
import Derived.Deep.OwnRows
import Derived.Deep.DeepCutAuto
namespace Go.Proofs.YtipcgmaobiobbaaGreatDoor
open Go.RowKit

theorem bottom_take {P : List Pe} {m : Nat} (i : Nat) (hm : m < P.length) : bottom i (P.take (m + 1)) = P[m].fi := by
  rw [List.take_succ_eq_append_getElem hm]
  have : ∀ (l : List Pe) (j : Nat), bottom j (l ++ [P[m]]) = P[m].fi := by
    intro l
    induction l with
    | nil => exact fun _ => rfl
    | cons a r ih => exact fun j => ih a.fi
  exact this _ i
theorem deepest_take {P : List Pe} {m : Nat} (hm : m < P.length) : deepest (P.take (m + 1)) = max (deepest (P.take m)) P[m].dp := by
  unfold deepest
  rw [List.take_succ_eq_append_getElem hm, List.foldl_append]
  rfl
theorem bottom_at {N : List Rn} {P : List Pe} {i m : Nat} (h : pileP N i = some P) (hm : m < P.length) : bottom i (P.take m) = P[m].r + 1 ∧ P[m].fi ≤ P[m].r := by
  have := chain_drop P i m (pile_chain i P h)
  rw [List.drop_eq_getElem_cons hm] at this
  exact ⟨this.1.symm, this.2.1⟩
theorem bottom_all {N : List Rn} {P : List Pe} {i : Nat} (h : pileP N i = some P) : bottom i (P.take P.length) = 0 := by
  have := chain_drop P i P.length (pile_chain i P h)
  rw [List.drop_length] at this
  exact this

/-- both rows written at one place -/
theorem Xb.put {w : World} {x f d B : Nat} {A : Option Addr} {c : Nat} {N : List Rn} {F D : List Nat} (h : Xb w x f d A c N F D) (hBf : B ≤ f) (hBd : B ≤ d) (r u v : Nat) (v' : Int) (hv : v' = (v : Nat)) :
    Xb ((w.setCell ⟨f, r, none⟩ (.int .i64 (u : Nat))).setCell ⟨d, r, none⟩ (.int .i64 v')) x f d A c N (F.set r u) (D.set r v) ∧ Below B w ((w.setCell ⟨f, r, none⟩ (.int .i64 (u : Nat))).setCell ⟨d, r, none⟩ (.int .i64 v')) ∧
      ∀ k, k < w.heap.size → k ≠ f → k ≠ d → ((w.setCell ⟨f, r, none⟩ (.int .i64 (u : Nat))).setCell ⟨d, r, none⟩ (.int .i64 v')).heap[k]? = w.heap[k]? := by
  subst hv
  obtain ⟨n1, n2⟩ := h.xf
  have n3 := h.ne
  have g1 : Gn f w (w.setCell ⟨f, r, none⟩ (.int .i64 (u : Nat))) := (Gn.refl f w).set r _
  have g2 : Gn d (w.setCell ⟨f, r, none⟩ (.int .i64 (u : Nat))) ((w.setCell ⟨f, r, none⟩ (.int .i64 (u : Nat))).setCell ⟨d, r, none⟩ (.int .i64 (v : Nat))) := (Gn.refl d _).set r _
  have hs := g1.size
  have lx := h.cb.len
  have lf := h.fb.len
  have ld := h.db.len
  refine ⟨⟨(h.cb.keep (g1.other lx n1)).keep (g2.other (by omega) n2), ?_, ?_, by rw [List.length_set]; exact h.fl, by rw [List.length_set]; exact h.dl, n3⟩, (g1.below (by omega) hBf).trans (g2.below (by omega) hBd), fun k hk k1 k2 => (g2.other (by omega) k2).trans (g1.other hk k1)⟩
  · have a := heap_setCell_same w f r _ _ (.int .i64 (u : Nat)) h.fb
    rw [nums_set] at a
    exact CB.keep (w := w.setCell ⟨f, r, none⟩ (.int .i64 (u : Nat))) a (g2.other (by omega) n3)
  · have hd : CB (w.setCell ⟨f, r, none⟩ (.int .i64 (u : Nat))) d 3 (nums D) := h.db.keep (g1.other ld (fun e => n3 e.symm))
    have a := heap_setCell_same _ d r _ _ (.int .i64 (v : Nat)) hd
    rw [nums_set] at a
    exact a
/-- what join answers and leaves -/
def JoinAt (x f d B : Nat) (A : Option Addr) (c : Nat) (N : List Rn) (F D : List Nat) (P : List Pe) (r k : Nat) (w : World) (e : Ending) (w' : World) : Prop :=
  e = .returned (.bool (decide (k ≤ P.length))) ∧ Below B w w' ∧ (k ≤ P.length → Xb w' x f d A c N (F.set r (bottom r (P.take k))) (D.set r (deepest (P.take k) + 1))) ∧ (∀ b, b < w.heap.size → b ≠ f → b ≠ d → w'.heap[b]? = w.heap[b]?) ∧ (¬ k ≤ P.length → w' = w)

set_option maxRecDepth 100000 in
set_option maxHeartbeats 4000000 in
theorem pjoin_any {w : World} {x f d B : Nat} {A : Option Addr} {c : Nat} {N : List Rn} {F D : List Nat} {P : List Pe} {r k : Nat} (h : Xb w x f d A c N F D) (hP : pileP N r = some P) (hK : Known N F D r) (hr : r < N.length) (hN : N.length ≤ 9000000000000000000) (hk : k ≤ 9223372036854775807)
    (hBf : B ≤ f) (hBd : B ≤ d) :
    Calls Tryz.prog 68 #[.pointer (some ⟨x, 0, none⟩), .int .i64 (r : Nat), .int .i64 (k : Nat)] w (JoinAt x f d B A c N F D P r k w) := by
  have x1 : w.cell? ⟨x, 1, none⟩ = some (.slice (some ⟨f, 0, none⟩) N.length N.length) := h.cb.at_ 1
  have x2 : w.cell? ⟨x, 2, none⟩ = some (.slice (some ⟨d, 0, none⟩) N.length N.length) := h.cb.at_ 2
  have hdp := pile_dp r P hP
  have HX := Lib.hid h
  have HP := Lib.hid hP
  have HK := Lib.hid hK
  have hrz : (r : Int) < (N.length : Int) := by omega
  have hr0 : (0 : Int) ≤ (r : Int) := by omega
  have hbl := chain_len P r (pile_chain r P hP)
  clear h hP hK
  go_enter Tryz.func68, Tryz.ntmps68
  go_wp2
  go_loopw [7, 8, 11] (fun u v z wr => ∃ m bt dt : Nat, u = .int .i64 (bt : Nat) ∧ v = .int .i64 (dt : Nat) ∧ z = .int .i64 m ∧ Hid (bottom r (P.take m) = bt ∧ deepest (P.take m) = dt) ∧ m ≤ k ∧ m ≤ P.length ∧ w = wr) (fun _ _ z _ => P.length - (intOf z).toNat)
  case atStart => exact ⟨0, r, 0, rfl, rfl, rfl, ⟨rfl, rfl⟩, Nat.zero_le _, Nat.zero_le _, rfl⟩
  case round =>
    obtain ⟨m, bt, dt, rfl, rfl, rfl, HBD, hmk, hmP, rfl⟩ := hrel
    obtain ⟨hbt0, hdt0⟩ := HBD.out
    by_cases hlt : m < k
    · have hz : (m : Int) < (k : Int) := by omega
      by_cases hmp : m < P.length
      · obtain ⟨e, he⟩ : ∃ e, P[m] = e := ⟨_, rfl⟩
        obtain ⟨hb1, hb2⟩ := bottom_at HP.out hmp
        have hmem := pile_mem r P HP.out e (by rw [← he]; exact List.getElem_mem hmp)
        have hde := hdp e (by rw [← he]; exact List.getElem_mem hmp)
        have hbt := bottom_take r hmp
        have hdt := deepest_take hmp
        rw [he] at hb1 hb2 hbt hdt
        rw [hbt0] at hb1
        rw [hdt0] at hdt
        obtain ⟨q1, q2⟩ := HK.out.at_ hmem.1 hmem.2
        have q3 := nums_at HX.out.fb (i := e.r) (by rw [HX.out.fl]; omega)
        have q4 := nums_at HX.out.db (i := e.r) (by rw [HX.out.dl]; omega)
        have w3 : w.cell? ⟨f, e.r, none⟩ = some (.int .i64 (e.fi : Nat)) := by
          rw [q3]
          obtain ⟨_, z⟩ := List.getElem?_eq_some_iff.1 q1
          rw [z]
        have w4 : w.cell? ⟨d, e.r, none⟩ = some (.int .i64 (e.dp : Nat)) := by
          rw [q4]
          obtain ⟨_, z⟩ := List.getElem?_eq_some_iff.1 q2
          rw [z]
        have hne0 : ((bt : Int) == 0) = false := beq_eq_false_iff_ne.2 (by omega)
        have hsub : (bt : Int) - 1 = (e.r : Int) := by omega
        have hel : (e.r : Int) < (N.length : Int) := by omega
        have he0 : (0 : Int) ≤ (e.r : Int) := by omega
        obtain ⟨mm, hmm⟩ : ∃ mm : Nat, max dt e.dp = mm := ⟨_, rfl⟩
        have HMM : Hid ((if (e.dp : Int) > (dt : Int) then (e.dp : Int) else (dt : Int)) = (mm : Int)) := by
          unfold Hid
          split <;> omega
        have HB := Lib.hid hbt
        have HD := Lib.hid (hdt.trans hmm)
        clear he hmem hbt hdt hbt0 hdt0 q1 q2 q3 q4 hb1 hmm
        go_wp2_with (refine wpList_max rfl (.tmp 15) (.tmp 23) 3 rfl rfl (mm : Int) rfl rfl HMM.out ?_)
        go_roundw
        case rel => exact ⟨m + 1, e.fi, mm, rfl, rfl, by go_num, ⟨HB.out, HD.out⟩, by omega, by omega, trivial⟩
        case measure => simp [intOf]; omega
      · obtain rfl : m = P.length := by omega
        have hb := bottom_all HP.out
        rw [hbt0] at hb
        have hb0 : ((bt : Int) == 0) = true := by rw [hb]; rfl
        clear hb
        have hdf : decide (k ≤ P.length) = false := decide_eq_false (by omega)
        go_wp2
        go_ret
        exact ⟨by rw [hdf]; rfl, Below.refl _ _, fun z => absurd z (by omega), fun _ _ _ _ => rfl, fun _ => rfl⟩
    · obtain rfl : m = k := by omega
      have hz : ¬ (m : Int) < (m : Int) := by omega
      have hfr := HX.out.fb.frozen r
      have hdr := HX.out.db.frozen r
      obtain ⟨u1, hu1⟩ : ∃ v, w.cell? ⟨f, r, none⟩ = some v := ⟨_, nums_at HX.out.fb (by rw [HX.out.fl]; exact hr)⟩
      obtain ⟨u2, hu2⟩ : ∃ v, w.cell? ⟨d, r, none⟩ = some v := ⟨_, nums_at HX.out.db (by rw [HX.out.dl]; exact hr)⟩
      have hne := HX.out.ne
      have hdt : dt ≤ r := by
        rw [← hdt0]
        refine deepest_le fun e he => ?_
        have h1 := hdp e (List.mem_of_mem_take he)
        have h2 := (pile_mem r P HP.out e (List.mem_of_mem_take he)).1
        omega
      have hw : IntKind.i64.wrap ((dt : Int) + 1) = (dt : Int) + 1 := by
        rw [IntKind.wrap_i64]
        omega
      have END : Hid (JoinAt x f d B A c N F D P r m w (.returned (.bool true)) ((w.setCell ⟨f, r, none⟩ (.int .i64 (bt : Nat))).setCell ⟨d, r, none⟩ (.int .i64 ((dt : Int) + 1))).drew) := by
        obtain ⟨h1, h2, h3⟩ := HX.out.put hBf hBd r bt (dt + 1) ((dt : Int) + 1) (by omega)
        refine ⟨by rw [decide_eq_true hmP], Below.thenN h2 1, fun _ => ?_, fun b q1 q2 q3 => h3 b q1 q2 q3, fun z => absurd hmP z⟩
        rw [hbt0, hdt0]
        exact h1.keep rfl rfl rfl
      clear HBD hbt0 hdt0
      go_wp2
      go_region
      all_goals
        go_wp2
        go_ret
        exact END.out
end Go.Proofs.YtipcgmaobiobbaaGreatDoor
/- The walk of the library's Reverse, at a row of subtrees. -/
namespace Go.Proofs.YtipcgmaobiobbaaGreatDoor
open Go.RowKit

/-- reversed at both ends so far in -/
def RevI (l : List Nat) (i : Nat) (s : List Nat) : Prop := s.length = l.length ∧ ∀ k v, s[k]? = some v → (if k < i ∨ l.length ≤ k + i then l[l.length - 1 - k]? else l[k]?) = some v
theorem RevI.start (l : List Nat) : RevI l 0 l := ⟨rfl, fun k v h => by
  have := (List.getElem?_eq_some_iff.1 h).1
  rw [if_neg (by omega)]
  exact h⟩
theorem RevI.end_ {l s : List Nat} {i : Nat} (h : RevI l i s) (hi : l.length ≤ 2 * i + 1) : s = l.reverse := by
  apply List.ext_getElem?
  intro k
  by_cases hk : k < l.length
  · have hks : k < s.length := by rw [h.1]; exact hk
    have := h.2 k _ (List.getElem?_eq_getElem hks)
    rw [List.getElem?_reverse hk, List.getElem?_eq_getElem hks, ← this]
    split
    · rfl
    · have : l.length - 1 - k = k := by omega
      rw [this]
  · rw [List.getElem?_eq_none (by rw [h.1]; omega), List.getElem?_eq_none (by rw [List.length_reverse]; omega)]
theorem RevI.step {l s : List Nat} {i j a b : Nat} (h : RevI l i s) (hij : i < j) (hj : i + j + 1 = l.length) (ha : s[i]? = some a) (hb : s[j]? = some b) : RevI l (i + 1) ((s.set i b).set j a) := by
  refine ⟨by rw [List.length_set, List.length_set]; exact h.1, fun k v hk => ?_⟩
  have hl := h.1
  have hkl := (List.getElem?_eq_some_iff.1 hk).1
  rw [List.length_set, List.length_set] at hkl
  by_cases k1 : k = j
  · subst k1
    rw [List.getElem?_set_self (by rw [List.length_set]; omega)] at hk
    have := h.2 i a ha
    rw [if_neg (by omega)] at this
    rw [if_pos (by omega), show l.length - 1 - k = i by omega, this]
    exact hk
  · rw [List.getElem?_set_ne (by omega)] at hk
    by_cases k2 : k = i
    · subst k2
      rw [List.getElem?_set_self (by omega)] at hk
      have := h.2 j b hb
      rw [if_neg (by omega)] at this
      rw [if_pos (by omega), show l.length - 1 - k = j by omega, this]
      exact hk
    · rw [List.getElem?_set_ne (by omega)] at hk
      have := h.2 k v hk
      rw [← this]
      by_cases c : k < i ∨ l.length ≤ k + i
      · rw [if_pos c, if_pos (by omega)]
      · rw [if_neg c, if_neg (by omega)]

set_option maxRecDepth 100000 in
set_option maxHeartbeats 4000000 in
theorem prev_any {w : World} {gk x c : Nat} {l : List Nat} (h : KR w gk x l) (hl : l.length ≤ 9000000000000000000) (h0 : 0 < l.length) :
    Calls Tryz.prog 94 #[.slice (some ⟨gk, 0, none⟩) l.length c] w fun e w' => e = .returned (.tuple #[]) ∧ KR w' gk x l.reverse ∧ Gn gk w w' := by
  have H0 := Lib.hid h
  clear h
  go_enter Tryz.func94, Tryz.ntmps94
  go_wp2
  go_loopw [2, 3] (fun u v wr => ∃ (i : Nat) (j : Int) (s : List Nat), u = .int .i64 i ∧ v = .int .i64 j ∧ (i : Int) + j + 1 = l.length ∧ i ≤ l.length ∧ Hid (RevI l i s ∧ KR wr gk x s ∧ Gn gk w wr)) (fun u _ _ => l.length - (intOf u).toNat)
  case atStart => exact ⟨0, _, l, rfl, rfl, by omega, Nat.zero_le _, RevI.start l, H0.out, Gn.refl gk w⟩
  case round =>
    obtain ⟨i, j, s, rfl, rfl, hij, hil, HF⟩ := hrel
    by_cases hlt : (i : Int) < j
    · obtain ⟨J, rfl⟩ : ∃ J : Nat, j = (J : Int) := ⟨j.toNat, by omega⟩
      have hi0 : (0 : Int) ≤ (i : Int) := by omega
      have hj0 : (0 : Int) ≤ (J : Int) := by omega
      have hsl := HF.out.1.1
      have hiz : (i : Int) < (l.length : Int) := by omega
      have hjz : (J : Int) < (l.length : Int) := by omega
      obtain ⟨a, ha⟩ : ∃ a, s[i]? = some a := ⟨_, List.getElem?_eq_getElem (by omega)⟩
      obtain ⟨b, hb⟩ : ∃ b, s[J]? = some b := ⟨_, List.getElem?_eq_getElem (by omega)⟩
      obtain ⟨p1, p2, f1, f2⟩ := HF.out.2.1.at_ (j := i) (by omega)
      obtain ⟨q1, q2, g1, g2⟩ := HF.out.2.1.at_ (j := J) (by omega)
      rw [(List.getElem?_eq_some_iff.1 ha).2] at p2
      rw [(List.getElem?_eq_some_iff.1 hb).2] at q2
      obtain ⟨wo, rfl⟩ : ∃ wo : World, wo = wr := ⟨_, rfl⟩
      have hw2 : IntKind.i64.wrap ((J : Int) - 1) = (J : Int) - 1 := by rw [IntKind.wrap_i64]; omega
      have hnij : i * 2 ≠ J * 2 := by omega
      have hnij2 : i * 2 + 1 ≠ J * 2 + 1 := by omega
      have END : Hid (RevI l (i + 1) ((s.set i b).set J a) ∧ KR ((((wo.setCell ⟨gk, i * 2, none⟩ (.pointer (some ⟨x, 0, none⟩))).setCell ⟨gk, i * 2 + 1, none⟩ (.int .i64 (b : Nat))).setCell ⟨gk, J * 2, none⟩ (.pointer (some ⟨x, 0, none⟩))).setCell ⟨gk, J * 2 + 1, none⟩ (.int .i64 (a : Nat))).drew gk x ((s.set i b).set J a) ∧
          Gn gk w ((((wo.setCell ⟨gk, i * 2, none⟩ (.pointer (some ⟨x, 0, none⟩))).setCell ⟨gk, i * 2 + 1, none⟩ (.int .i64 (b : Nat))).setCell ⟨gk, J * 2, none⟩ (.pointer (some ⟨x, 0, none⟩))).setCell ⟨gk, J * 2 + 1, none⟩ (.int .i64 (a : Nat))).drew) := by
        refine ⟨HF.out.1.step (by omega) (by omega) ha hb, ((HF.out.2.1.set i b _ rfl).set J a _ rfl).keep rfl, ?_⟩
        have hg := ((((HF.out.2.2.set (i * 2) (.pointer (some ⟨x, 0, none⟩))).set (i * 2 + 1) (.int .i64 (b : Nat))).set (J * 2) (.pointer (some ⟨x, 0, none⟩))).set (J * 2 + 1) (.int .i64 (a : Nat)))
        exact hg.trans (Gn.of (Below.thenN (Below.refl _ _) 1))
      clear HF ha hb
      go_wp2
      go_region
      all_goals
        go_wp2
        go_roundw
        case rel => exact ⟨i + 1, _, _, by go_num, rfl, by omega, by omega, END.out⟩
        case measure => simp [intOf]; omega
    · have hr := HF.out.1.end_ (by omega)
      subst hr
      go_wp2
      go_end0
      exact ⟨rfl, HF.out.2⟩
end Go.Proofs.YtipcgmaobiobbaaGreatDoor
/- The walk of the code: a subtree's kids. -/
namespace Go.Proofs.YtipcgmaobiobbaaGreatDoor
open Go.RowKit

set_option maxRecDepth 100000 in
set_option maxHeartbeats 4000000 in
theorem prev_nil (w : World) : Calls Tryz.prog 94 #[.slice none 0 0] w fun e w' => e = .returned (.tuple #[]) ∧ w = w' := by
  go_enter Tryz.func94, Tryz.ntmps94
  go_wp2
  go_loopw [2, 3] (fun u v wr => u = .int .i64 0 ∧ v = .int .i64 (-1) ∧ w = wr) (fun _ _ _ => 0)
  case atStart => exact ⟨rfl, rfl, rfl⟩
  case round =>
    obtain ⟨rfl, rfl, rfl⟩ := hrel
    go_wp2
    go_end0
    exact ⟨rfl, rfl⟩

/-- the roots of a node's kids, the first one first -/
def kidRoots (P : List Pe) (k : Nat) : List Nat := ((P.take k).map (·.r)).reverse
/-- what kids answers -/
def KidsOut (x : Nat) (P : List Pe) (k : Nat) (w : World) (e : Ending) (w' : World) : Prop :=
  ∃ A c, e = .returned (.slice A k c) ∧ Below w.heap.size w w' ∧ (k = 0 ∨ ∃ gk, A = some ⟨gk, 0, none⟩ ∧ w.heap.size ≤ gk ∧ KR w' gk x (kidRoots P k))
theorem bottom_anti {N : List Rn} {P : List Pe} {r m k : Nat} (hP : pileP N r = some P) (hm : m ≤ k) : bottom r (P.take k) ≤ bottom r (P.take m) := by
  have hc := chain_drop P r m (pile_chain r P hP)
  have := bottom_le (P.drop m) (bottom r (P.take m)) (k - m) hc
  have e : ∀ (a b : List Pe) (i : Nat), bottom i (a ++ b) = bottom (bottom i a) b := by
    intro a
    induction a with
    | nil => exact fun _ _ => rfl
    | cons y z ih => exact fun b i => ih b y.fi
  rw [← e, ← List.take_add, show m + (k - m) = k by omega] at this
  exact this

set_option maxRecDepth 100000 in
set_option maxHeartbeats 4000000 in
theorem pkids_any {w : World} {x f d : Nat} {A : Option Addr} {c : Nat} {N : List Rn} {F D : List Nat} {r k : Nat} {P : List Pe} (h : Xb w x f d A c N F D) (hK : Known N F D N.length) (hP : pileP N r = some P) (hk : k ≤ P.length) (hF : F[r]? = some (bottom r (P.take k))) (hr : r < N.length) (hN : N.length ≤ 2932031007402) :
    Calls Tryz.prog 78 #[.agg #[.pointer (some ⟨x, 0, none⟩), .int .i64 (r : Nat)]] w (KidsOut x P k w) := by
  have hrz : (r : Int) < (N.length : Int) := by omega
  have hr0 : (0 : Int) ≤ (r : Int) := by omega
  obtain ⟨w1, hw1⟩ : ∃ w1, w.alloc (.cells #[.pointer (some ⟨x, 0, none⟩), .int .i64 (r : Nat)] 97) = w1 := ⟨_, rfl⟩
  have b1 : Below w.heap.size w w1 := by rw [← hw1]; exact (Below.refl _ w).alloc (Nat.le_refl _) _
  have s1 : w1.heap.size = w.heap.size + 1 := by rw [← hw1]; simp
  have k1 : CB w1 w.heap.size 97 #[.pointer (some ⟨x, 0, none⟩), .int .i64 (r : Nat)] := by rw [← hw1]; exact CB.new w _ _
  have h1 := h.below b1
  have hpl := chain_len P r (pile_chain r P hP)
  -- what every world in which nothing below has turned knows
  have FX : Hid (∀ W, Below (w.heap.size + 1) w1 W → W.cell? ⟨w.heap.size, 0, none⟩ = some (.pointer (some ⟨x, 0, none⟩)) ∧ W.cell? ⟨w.heap.size, 1, none⟩ = some (.int .i64 (r : Nat)) ∧ W.cell? ⟨x, 1, none⟩ = some (.slice (some ⟨f, 0, none⟩) N.length N.length) ∧
      W.cell? ⟨f, r, none⟩ = some (.int .i64 (bottom r (P.take k) : Nat)) ∧ ∀ m (hm : m < P.length), W.cell? ⟨f, (P[m]).r, none⟩ = some (.int .i64 ((P[m]).fi : Nat))) := fun W hW => by
    have hx := h1.cb.len
    have hf := h1.fb.len
    have KW := k1.keep (hW.block w.heap.size (by omega))
    have XW : Xb W x f d A c N F D := h1.keep (hW.block x (by omega)) (hW.block f (by omega)) (hW.block d (by have := h1.db.len; omega))
    refine ⟨KW.at_ 0, KW.at_ 1, XW.cb.at_ 1, ?_, fun m hm => ?_⟩
    · obtain ⟨hr2, z⟩ := List.getElem?_eq_some_iff.1 hF
      rw [nums_at XW.fb hr2, z]
    · have hmem := pile_mem r P hP P[m] (List.getElem_mem hm)
      obtain ⟨q1, _⟩ := hK.at_ (by omega) hmem.2
      obtain ⟨hr2, z⟩ := List.getElem?_eq_some_iff.1 q1
      rw [nums_at XW.fb hr2, z]
  obtain ⟨c0, c1, x1, _, _⟩ := FX.out w1 (Below.refl _ _)
  have HP := Lib.hid hP
  obtain ⟨bk, hbk⟩ : ∃ bk, bottom r (P.take k) = bk := ⟨_, rfl⟩
  have HBK := Lib.hid hbk
  rw [hbk] at FX
  clear h h1 hK hP hF k1 hbk
  go_enter Tryz.func78, Tryz.ntmps78
  go_wp2
  clear c0 c1 x1
  go_loopw [3, 5] (fun u v wr => ∃ (m bt : Nat) (As : Option Addr) (cs : Nat), u = .slice As m cs ∧ v = .int .i64 (bt : Nat) ∧ m ≤ k ∧ Hid (bottom r (P.take m) = bt) ∧ Hid (Below (w.heap.size + 1) w1 wr ∧ OwnK wr (w.heap.size + 1) As cs x ((P.take m).map (·.r)) ∧ (m = 0 → As = none ∧ cs = 0))) (fun _ v _ => (intOf v).toNat)
  case atStart => exact ⟨0, r, none, 0, rfl, rfl, Nat.zero_le _, rfl, Below.refl _ _, OwnK.nil _ _ _, fun _ => ⟨rfl, rfl⟩⟩
  case round =>
    obtain ⟨m, bt, As, cs, rfl, rfl, hmk, HB, HF⟩ := hrel
    obtain ⟨c0, c1, x1, q1, q2⟩ := FX.out wr HF.out.1
    have hlm : ((P.take m).map (·.r)).length = m := by rw [List.length_map, List.length_take]; omega
    by_cases hlt : m < k
    · have hmP : m < P.length := by omega
      obtain ⟨e, he⟩ : ∃ e, P[m] = e := ⟨_, rfl⟩
      obtain ⟨hb1, hb2⟩ := bottom_at HP.out hmP
      have hq2 := q2 m hmP
      have hmem := pile_mem r P HP.out e (by rw [← he]; exact List.getElem_mem hmP)
      have hbt := bottom_take r hmP
      rw [he] at hb1 hb2 hq2 hbt
      rw [HB.out] at hb1
      have hanti := bottom_anti (N := N) (r := r) HP.out (show m + 1 ≤ k from hlt)
      rw [hbt, HBK.out] at hanti
      have hgt : (bk : Int) < (bt : Int) := by omega
      have hsub : (bt : Int) - 1 = (e.r : Int) := by omega
      have hel : (e.r : Int) < (N.length : Int) := by omega
      have he0 : (0 : Int) ≤ (e.r : Int) := by omega
      have hs2 := HF.out.1.size
      obtain ⟨g, c', w', hrun, hown, hbl⟩ := run_app_sub HF.out.2.1 e.r (by rw [hlm]; omega) (by omega)
      rw [hlm] at hrun
      have hsnoc : (P.take m).map (·.r) ++ [e.r] = (P.take (m + 1)).map (·.r) := by rw [List.take_succ_eq_append_getElem hmP, List.map_append, he]; rfl
      rw [hsnoc] at hown
      have HRUN := Lib.hid hrun
      have HN := Lib.hid (And.intro (HF.out.1.trans hbl) (And.intro hown (show m + 1 = 0 → (some ⟨g, 0, none⟩ : Option Addr) = none ∧ c' = 0 from fun z => absurd z (Nat.succ_ne_zero m))))
      obtain ⟨_, _, _, _, q3⟩ := FX.out w' HN.out.1
      have hq3 := q3 m hmP
      rw [he] at hq3
      have HBT := Lib.hid hbt
      clear q2 q3 hmem hbt hb1 hrun hown hbl hsnoc hanti he hlm
      go_wp2_with (at_builtin; refine wpList_append_run rfl (.tmp 25) (.tmp 31) _ rfl rfl rfl HRUN.out ?_)
      go_roundw
      case rel => exact ⟨m + 1, e.fi, _, c', by simp, rfl, by omega, HBT.out, HN.out⟩
      case measure => simp [intOf]; omega
    · obtain rfl : m = k := by omega
      have hbe : bt = bk := HB.out.symm.trans HBK.out
      have hgt : ¬ (bk : Int) < (bt : Int) := by omega
      clear q2
      have HB1 := Lib.hid (b1.trans (HF.out.1.mono (by omega)))
      by_cases h0 : m = 0
      · obtain ⟨rfl, rfl⟩ := HF.out.2.2 h0
        have END : Hid (∀ W, Below w.heap.size w W → KidsOut x P m w (.returned (.slice none m 0)) W) := fun W hW => ⟨none, 0, rfl, hW, .inl h0⟩
        have cr : Calls Tryz.prog 94 #[.slice none m 0] wr fun e w' => e = .returned (.tuple #[]) ∧ wr = w' := by
          rw [h0]
          exact prev_nil wr
        clear h0 HF
        go_wp2_with (go_at_call 94; refine cr.mono ?_; rintro e w9 ⟨rfl, rfl⟩)
        go_ret
        exact END.out _ HB1.out
      · obtain ⟨gk, rfl, hgk, hgl, hkr⟩ := HF.out.2.1.kr (by rw [hlm]; omega)
        have cr := prev_any (c := cs) hkr (by rw [hlm]; omega) (by rw [hlm]; omega)
        rw [hlm] at cr
        have END : Hid (∀ W, KR W gk x ((P.take m).map (·.r)).reverse → Gn gk wr W → KidsOut x P m w (.returned (.slice (some ⟨gk, 0, none⟩) m cs)) W) := fun W h1 h2 => by
          refine ⟨_, cs, rfl, ?_, .inr ⟨gk, rfl, by omega, h1⟩⟩
          have := HB1.out.size
          exact HB1.out.trans (h2.below (by omega) (by omega))
        clear h0 HF hkr
        go_wp2_with (go_at_call 94; refine cr.mono ?_; rintro e w9 ⟨rfl, hr9, hg9⟩)
        go_ret
        exact END.out _ hr9 hg9
end Go.Proofs.YtipcgmaobiobbaaGreatDoor
/- The walks of the code: a subtree's node, its place, how deep it is. -/
namespace Go.Proofs.YtipcgmaobiobbaaGreatDoor
open Go.RowKit

/-- the subtree whose root stands there, as a value -/
abbrev sub (x r : Nat) : Value := .agg #[.pointer (some ⟨x, 0, none⟩), .int .i64 (r : Nat)]

set_option maxRecDepth 100000 in
set_option maxHeartbeats 4000000 in
theorem pdepth_any {w : World} {x f d : Nat} {A : Option Addr} {c : Nat} {N : List Rn} {F D : List Nat} {r v : Nat} (h : Xb w x f d A c N F D) (hv : D[r]? = some v) :
    Calls Tryz.prog 38 #[.agg #[.pointer (some ⟨x, 0, none⟩), .int .i64 (r : Nat)]] w fun e w' => e = .returned (.int .i64 (v : Nat)) ∧ Below w.heap.size w w' := by
  obtain ⟨hr, hv2⟩ := List.getElem?_eq_some_iff.1 hv
  have hrN : r < N.length := by rw [← h.dl]; exact hr
  have hrz : (r : Int) < (N.length : Int) := by omega
  have hr0 : (0 : Int) ≤ (r : Int) := by omega
  obtain ⟨w1, hw1⟩ : ∃ w1, w.alloc (.cells #[.pointer (some ⟨x, 0, none⟩), .int .i64 (r : Nat)] 97) = w1 := ⟨_, rfl⟩
  have b1 : Below w.heap.size w w1 := by rw [← hw1]; exact (Below.refl _ w).alloc (Nat.le_refl _) _
  have k1 : CB w1 w.heap.size 97 #[.pointer (some ⟨x, 0, none⟩), .int .i64 (r : Nat)] := by rw [← hw1]; exact CB.new w _ _
  have c0 : w1.cell? ⟨w.heap.size, 0, none⟩ = some (.pointer (some ⟨x, 0, none⟩)) := k1.at_ 0
  have c1 : w1.cell? ⟨w.heap.size, 1, none⟩ = some (.int .i64 (r : Nat)) := k1.at_ 1
  have h1 := h.below b1
  have x2 : w1.cell? ⟨x, 2, none⟩ = some (.slice (some ⟨d, 0, none⟩) N.length N.length) := h1.cb.at_ 2
  have q : w1.cell? ⟨d, r, none⟩ = some (.int .i64 (v : Nat)) := by rw [nums_at h1.db hr, hv2]
  clear k1 h h1 hv hv2 hr
  go_enter Tryz.func38, Tryz.ntmps38
  go_wp2
  go_quiet (fail)
  go_wp2
  go_ret
  exact ⟨rfl, Below.thenN b1 _⟩

set_option maxRecDepth 100000 in
set_option maxHeartbeats 4000000 in
theorem pnode_any {w : World} {x f d B : Nat} {A : Option Addr} {c : Nat} {N : List Rn} {F D : List Nat} {r : Nat} {y : Rn} (h : Xb w x f d A c N F D) (hN : RN w B A N) (hB : B ≤ w.heap.size) (hy : N[r]? = some y) :
    Calls Tryz.prog 69 #[.agg #[.pointer (some ⟨x, 0, none⟩), .int .i64 (r : Nat)]] w fun e w' => e = .returned (.agg #[.int .i64 y.op, .int .i64 y.n, .int .u64 (y.num : Nat), .string (str y.t), .int .i64 y.a]) ∧ Below w.heap.size w w' := by
  have hrN : r < N.length := (List.getElem?_eq_some_iff.1 hy).1
  have hrz : (r : Int) < (N.length : Int) := by omega
  have hr0 : (0 : Int) ≤ (r : Int) := by omega
  obtain ⟨b, o, rfl, hb, n0, n1, n2, n3, n4⟩ := RN.cells hN hy
  have hbl : b < w.heap.size := by omega
  obtain ⟨w1, hw1⟩ : ∃ w1, w.alloc (.cells #[.pointer (some ⟨x, 0, none⟩), .int .i64 (r : Nat)] 97) = w1 := ⟨_, rfl⟩
  have b1 : Below w.heap.size w w1 := by rw [← hw1]; exact (Below.refl _ w).alloc (Nat.le_refl _) _
  have s1 : w1.heap.size = w.heap.size + 1 := by rw [← hw1]; simp
  have k1 : CB w1 w.heap.size 97 #[.pointer (some ⟨x, 0, none⟩), .int .i64 (r : Nat)] := by rw [← hw1]; exact CB.new w _ _
  obtain ⟨w2, hw2⟩ : ∃ w2, w1.alloc (.cells #[.int .i64 0, .int .i64 0, .int .u64 0, .string ⟨#[]⟩, .int .i64 0] 64) = w2 := ⟨_, rfl⟩
  have b2 : Below w1.heap.size w1 w2 := by rw [← hw2]; exact (Below.refl _ w1).alloc (Nat.le_refl _) _
  have b12 : Below w.heap.size w w2 := b1.trans (b2.mono (by omega))
  have k2 := k1.below b2
  have r2 : CB w2 (w.heap.size + 1) 64 #[.int .i64 0, .int .i64 0, .int .u64 0, .string ⟨#[]⟩, .int .i64 0] := by rw [← s1, ← hw2]; exact CB.new w1 _ _
  have z0 : w2.cell? ⟨w.heap.size + 1, 0, none⟩ = some (.int .i64 0) := r2.at_ 0
  have z1 : w2.cell? ⟨w.heap.size + 1, 1, none⟩ = some (.int .i64 0) := r2.at_ 1
  have z2 : w2.cell? ⟨w.heap.size + 1, 2, none⟩ = some (.int .u64 0) := r2.at_ 2
  have z3 : w2.cell? ⟨w.heap.size + 1, 3, none⟩ = some (.string ⟨#[]⟩) := r2.at_ 3
  have z4 : w2.cell? ⟨w.heap.size + 1, 4, none⟩ = some (.int .i64 0) := r2.at_ 4
  have y0 := r2.frozen 0
  have y1 := r2.frozen 1
  have y2 := r2.frozen 2
  have y3 := r2.frozen 3
  have y4 := r2.frozen 4
  have HR2 := Lib.hid r2
  clear r2
  have h2 := (h.below b1).below b2
  have c0 : w2.cell? ⟨w.heap.size, 0, none⟩ = some (.pointer (some ⟨x, 0, none⟩)) := k2.at_ 0
  have c1 : w2.cell? ⟨w.heap.size, 1, none⟩ = some (.int .i64 (r : Nat)) := k2.at_ 1
  have x0 : w2.cell? ⟨x, 0, none⟩ = some (.slice (some ⟨b, o, none⟩) N.length c) := h2.cb.at_ 0
  have m := fun j => b12.cell (p := ⟨b, j, none⟩) hbl
  have m0 := (m _).trans n0
  have m1 := (m _).trans n1
  have m2 := (m _).trans n2
  have m3 := (m _).trans n3
  have m4 := (m _).trans n4
  clear k1 k2 h h2 hN hy m n0 n1 n2 n3 n4 b2 b1
  go_enter Tryz.func69, Tryz.ntmps69
  go_wp2
  go_region
  all_goals
    go_wp2
    have h9 : CB (((((w2.setCell ⟨w.heap.size + 1, 0, none⟩ (.int .i64 y.op)).setCell ⟨w.heap.size + 1, 1, none⟩ (.int .i64 y.n)).setCell ⟨w.heap.size + 1, 2, none⟩ (.int .u64 (y.num : Nat))).setCell ⟨w.heap.size + 1, 3, none⟩ (.string (str y.t))).setCell ⟨w.heap.size + 1, 4, none⟩ (.int .i64 y.a)).drew (w.heap.size + 1) 64 #[.int .i64 y.op, .int .i64 y.n, .int .u64 (y.num : Nat), .string (str y.t), .int .i64 y.a] :=
      HR2.out.store (cs := #[.int .i64 y.op, .int .i64 y.n, .int .u64 (y.num : Nat), .string (str y.t), .int .i64 y.a]) rfl
    have t9 : Turned (w.heap.size + 1) w2 (((((w2.setCell ⟨w.heap.size + 1, 0, none⟩ (.int .i64 y.op)).setCell ⟨w.heap.size + 1, 1, none⟩ (.int .i64 y.n)).setCell ⟨w.heap.size + 1, 2, none⟩ (.int .u64 (y.num : Nat))).setCell ⟨w.heap.size + 1, 3, none⟩ (.string (str y.t))).setCell ⟨w.heap.size + 1, 4, none⟩ (.int .i64 y.a)) :=
      (((((Turned.refl _ w2).setCell 0 _).setCell 1 _).setCell 2 _).setCell 3 _).setCell 4 _
    exact bodyPost_ret (results_cb rfl _ _ _ _ rfl h9 Tryz.underlying64 rfl (by kernel_rfl)) rfl ⟨rfl, Below.thenN (b12.trans (t9.below (Nat.le_succ _))) 1⟩
end Go.Proofs.YtipcgmaobiobbaaGreatDoor
/- The walk of the code: the subtrees of nodes. -/
namespace Go.Proofs.YtipcgmaobiobbaaGreatDoor
open Go.RowKit

theorem expr_top {N : List Rn} {e : Pe} {P : List Pe} (h : pileP N N.length = some (e :: P)) : exprP N = if e.fi = 0 then some e else none := by
  have hc := (pile_chain _ _ h).2.2
  unfold exprP
  rw [h]
  cases P with
  | nil =>
    have : e.fi = 0 := hc
    rw [if_pos this]
  | cons a r =>
    have : a.r + 1 = e.fi := hc.1
    rw [if_neg (by omega)]
theorem expr_none {N : List Rn} (i : Nat) (h : pileP N i = none) (hi : i ≤ N.length) : exprP N = none := by
  unfold exprP
  rw [pile_none h _ hi]
theorem push_arity {N : List Rn} {i : Nat} {x : Rn} {P : List Pe} (hP : pileP N i = some P) (hx : N[i]? = some x) : pileP N (i + 1) = pushP i x P := by
  conv => lhs; unfold pileP
  rw [hP, hx]
theorem known_push {N : List Rn} {i k : Nat} {x : Rn} {P : List Pe} {F D : List Nat} (hP : pileP N i = some P) (hx : N[i]? = some x) (ha : arity x = some k) (hk : k ≤ P.length) (hK : Known N F D i) (hF : F.length = N.length) (hD : D.length = N.length) :
    Known N (F.set i (bottom i (P.take k))) (D.set i (deepest (P.take k) + 1)) (i + 1) ∧ ∃ Q, pileP N (i + 1) = some Q := by
  have hq : pileP N (i + 1) = some (overP i x (P.take k) :: P.drop k) := by
    rw [push_arity hP hx]
    unfold pushP
    rw [ha]
    dsimp only
    rw [if_pos hk]
  have hi : i < N.length := (List.getElem?_eq_some_iff.1 hx).1
  refine ⟨fun j hj => ?_, _, hq⟩
  by_cases hji : j = i
  · subst hji
    refine ⟨_, ⟨_, hq⟩, ?_, ?_⟩
    · rw [List.getElem?_set_self (by omega)]
      rfl
    · rw [List.getElem?_set_self (by omega)]
      rfl
  · obtain ⟨e, h1, h2, h3⟩ := hK j (by omega)
    exact ⟨e, h1, by rw [List.getElem?_set_ne (by omega)]; exact h2, by rw [List.getElem?_set_ne (by omega)]; exact h3⟩

theorem arity_le {x : Rn} {k : Nat} (h : arity x = some k) (hx : x.n ≤ 9223372036854775807) : k ≤ 9223372036854775807 := by
  unfold arity at h
  repeat' split at h
  all_goals first
    | (cases h; omega)
    | (cases h; done)
/-- a struct in a block and a value: what is answered -/
theorem results_cv {P : Program} {fn : Func} {s t : Tmp} {T : TypeId} (h : fn.results = #[.cell s T, .tmp t]) (tmps : Array Value) (w : World) (b : Nat) (cs : Array Value) (u : Value)
    (hp : tmps.getD s undef = .pointer (some ⟨b, 0, none⟩)) (he : tmps.getD t undef = u) (hb : CB w b T cs) {d : TypeDesc} (hu : P.underlying T = some d) (hd : d.isRow = true) (hi : (P.info? T).map (·.size) = some cs.size) : (results fn tmps).run P w = .ok (.tuple #[.agg cs, u]) w := by
  unfold results
  rw [h]
  have hp' : tmps[s]?.getD undef = .pointer (some ⟨b, 0, none⟩) := by simpa [Array.getD_eq_getD_getElem?] using hp
  have he' : tmps[t]?.getD undef = u := by simpa [Array.getD_eq_getD_getElem?] using he
  simp [hp', he', asAddr, hb.load hu hd hi]
theorem nums_zero (n : Nat) : (madeCells #[Value.int .i64 0] n) = nums (List.replicate n 0) := by
  apply Array.ext
  · rw [size_madeCells, nums_size, List.length_replicate]
  · intro i h1 h2
    simp [madeCells, nums, Nat.mod_one]

/-- what Subtrees answers -/
def SubsAt (A : Option Addr) (c : Nat) (N : List Rn) (w : World) (e : Ending) (w' : World) : Prop :=
  ∃ (m : Nat) (As : Option Addr) (cs : Nat), e = .returned (.tuple #[.slice As m cs, .bool (exprP N).isSome]) ∧ Hid (Below w.heap.size w w' ∧ m ≤ N.length ∧ (∃ P, pileP N m = some P) ∧ (m < N.length → pileP N (m + 1) = none) ∧
    ∃ x f d F D, Xb w' x f d A c N F D ∧ Known N F D m ∧ (w.heap.size ≤ x ∧ w.heap.size ≤ f ∧ w.heap.size ≤ d) ∧ OwnK w' w.heap.size As cs x (List.range m))
/-- the frame of Subtrees: the expression's blocks -/
structure Wf (w0 w : World) (x f d : Nat) (A : Option Addr) (c : Nat) (N : List Rn) (F D : List Nat) : Prop where
  xb : Xb w x f d A c N F D
  bl : Below w0.heap.size w0 w
  ge : w0.heap.size ≤ x ∧ w0.heap.size ≤ f ∧ w0.heap.size ≤ d
  lt : x < w0.heap.size + 3 ∧ f < w0.heap.size + 3 ∧ d < w0.heap.size + 3

theorem wf_start (w : World) (A : Option Addr) (c : Nat) (N : List Rn) (f d : Nat) (hfd : f = w.heap.size ∧ d = w.heap.size + 1 ∨ f = w.heap.size + 1 ∧ d = w.heap.size) :
    Wf w (((w.alloc (.cells (madeCells #[.int .i64 0] N.length) 3)).alloc (.cells (madeCells #[.int .i64 0] N.length) 3)).alloc (.cells #[.slice A N.length c, .slice (some ⟨f, 0, none⟩) N.length N.length, .slice (some ⟨d, 0, none⟩) N.length N.length] 119)).drew
      (w.heap.size + 1 + 1) f d A c N (List.replicate N.length 0) (List.replicate N.length 0) := by
  rw [nums_zero]
  obtain ⟨w2, h2⟩ : ∃ w2, w2 = w.alloc (.cells (nums (List.replicate N.length 0)) 3) := ⟨_, rfl⟩
  obtain ⟨w3, h3⟩ : ∃ w3, w3 = w2.alloc (.cells (nums (List.replicate N.length 0)) 3) := ⟨_, rfl⟩
  obtain ⟨w4, h4⟩ : ∃ w4, w4 = w3.alloc (.cells #[.slice A N.length c, .slice (some ⟨f, 0, none⟩) N.length N.length, .slice (some ⟨d, 0, none⟩) N.length N.length] 119) := ⟨_, rfl⟩
  rw [← h2, ← h3, ← h4]
  have s2 : w2.heap.size = w.heap.size + 1 := by rw [h2]; simp
  have s3 : w3.heap.size = w.heap.size + 1 + 1 := by rw [h3]; simp [s2]
  have b2 : Below w.heap.size w w2 := by rw [h2]; exact (Below.refl _ w).alloc (Nat.le_refl _) _
  have b3 : Below w2.heap.size w2 w3 := by rw [h3]; exact (Below.refl _ w2).alloc (Nat.le_refl _) _
  have b4 : Below w3.heap.size w3 w4 := by rw [h4]; exact (Below.refl _ w3).alloc (Nat.le_refl _) _
  have r2 : CB w2 w.heap.size 3 (nums (List.replicate N.length 0)) := by rw [h2]; exact CB.new w _ _
  have r3 : CB w3 (w.heap.size + 1) 3 (nums (List.replicate N.length 0)) := by rw [← s2, h3]; exact CB.new w2 _ _
  have r4 : CB w4 (w.heap.size + 1 + 1) 119 #[.slice A N.length c, .slice (some ⟨f, 0, none⟩) N.length N.length, .slice (some ⟨d, 0, none⟩) N.length N.length] := by rw [← s3, h4]; exact CB.new w3 _ _
  have k2 := (r2.below b3).below b4
  have k3 := r3.below b4
  have hx : Xb w4 (w.heap.size + 1 + 1) f d A c N (List.replicate N.length 0) (List.replicate N.length 0) := by
    rcases hfd with ⟨rfl, rfl⟩ | ⟨rfl, rfl⟩
    · exact ⟨r4, k2, k3, List.length_replicate, List.length_replicate, by omega⟩
    · exact ⟨r4, k3, k2, List.length_replicate, List.length_replicate, by omega⟩
  exact ⟨hx.keep rfl rfl rfl, Below.thenN ((b2.trans (b3.mono (by omega))).trans (b4.mono (by omega))) 1, by omega, by omega⟩

set_option maxRecDepth 100000 in
set_option maxHeartbeats 4000000 in
theorem psubs_any {w : World} {A : Option Addr} {c : Nat} {N : List Rn} (h : RN w w.heap.size A N) (hN : N.length ≤ 2932031007402) (hn : ∀ x ∈ N, x.n ≤ 9223372036854775807) :
    Calls Tryz.prog 37 #[.slice A N.length c] w (SubsAt A c N w) := by
  have hmk := run_make_row' (P := Tryz.prog) 117 3 (.int .i64 0) 8 Tryz.underlying117 (by kernel_rfl) rfl .i64 .i64 N.length (by omega) (by omega)
  have HR := Lib.hid h
  have HN := Lib.hid hn
  clear h hn
  go_enter Tryz.func37, Tryz.ntmps37
  go_wp2
  go_cut [4] (fun s4 wx => ∃ x : Nat, s4 = .pointer (some ⟨x, 0, none⟩) ∧ Hid (∃ f d, Wf w wx x f d A c N (List.replicate N.length 0) (List.replicate N.length 0)))
  case first =>
    go_region
    all_goals
      go_wp2_with fail
      go_meet
      first
      | exact ⟨_, rfl, _, _, wf_start w A c N _ _ (.inr ⟨rfl, rfl⟩)⟩
      | exact ⟨_, rfl, _, _, wf_start w A c N _ _ (.inl ⟨rfl, rfl⟩)⟩
  case rest =>
    obtain ⟨x, rfl, f, d, hw0⟩ := hcut
    have HW0 := Lib.hid hw0
    clear hw0 hmk
    go_wp2
    go_loopw [5, 21] (fun v u wr => ∃ (i : Nat) (As : Option Addr) (cs : Nat) (F D : List Nat), v = .slice As i cs ∧ u = .int .i64 i ∧ i ≤ N.length ∧ Hid (Wf w wr x f d A c N F D ∧ Known N F D i ∧ (∃ P, pileP N i = some P) ∧ OwnK wr (w.heap.size + 3) As cs x (List.range i))) (fun _ u _ => N.length - (intOf u).toNat)
    case atStart => exact ⟨0, none, 0, _, _, rfl, rfl, Nat.zero_le _, HW0.out, fun j hj => absurd hj (Nat.not_lt_zero j), ⟨[], rfl⟩, OwnK.nil _ _ _⟩
    case round =>
      clear HW0
      obtain ⟨i, As, cs, F, D, rfl, rfl, hil, HF⟩ := hrel
      have hlr : (List.range i).length = i := List.length_range
      have ENDX : Hid (∀ (W : World) (b : Bool), Wf w W x f d A c N F D → OwnK W (w.heap.size + 3) As cs x (List.range i) → (i < N.length → pileP N (i + 1) = none) → (exprP N).isSome = b → SubsAt A c N w (.returned (.tuple #[.slice As i cs, .bool b])) W) := fun W b hW hO hp hb => by
        refine ⟨i, As, cs, by rw [hb], hW.bl, hil, HF.out.2.2.1, hp, x, f, d, F, D, hW.xb, HF.out.2.1, hW.ge, ?_⟩
        exact ownsRow_low hO (by omega)
      by_cases hlt : i < N.length
      · have hiz : (i : Int) < (N.length : Int) := by omega
        have hi0 : (0 : Int) ≤ (i : Int) := by omega
        obtain ⟨y, hy⟩ : ∃ y, N[i]? = some y := ⟨_, List.getElem?_eq_getElem hlt⟩
        have hyn := HN.out y (List.mem_of_getElem? hy)
        obtain ⟨b, o, rfl, hbw, n0, n1, n2, n3, n4⟩ := RN.cells (HR.out.below HF.out.1.bl) hy
        obtain ⟨P, hP⟩ := HF.out.2.2.1
        have hws := HF.out.1.bl.size
        have hblt : b < wr.heap.size := by omega
        have hba : Below wr.heap.size wr (wr.alloc (.cells #[.int .i64 y.op, .int .i64 y.n, .int .u64 (y.num : Nat), .string (str y.t), .int .i64 y.a] 64)) := (Below.refl _ wr).alloc (Nat.le_refl _) _
        have hsa : (wr.alloc (.cells #[.int .i64 y.op, .int .i64 y.n, .int .u64 (y.num : Nat), .string (str y.t), .int .i64 y.a] 64)).heap.size = wr.heap.size + 1 := by simp
        have hca : CB (wr.alloc (.cells #[.int .i64 y.op, .int .i64 y.n, .int .u64 (y.num : Nat), .string (str y.t), .int .i64 y.a] 64)) wr.heap.size 64 #[.int .i64 y.op, .int .i64 y.n, .int .u64 (y.num : Nat), .string (str y.t), .int .i64 y.a] := CB.new wr _ _
        have c0 : (wr.alloc (.cells #[.int .i64 y.op, .int .i64 y.n, .int .u64 (y.num : Nat), .string (str y.t), .int .i64 y.a] 64)).cell? ⟨wr.heap.size, 0, none⟩ = some (.int .i64 y.op) := hca.at_ 0
        have c1 : (wr.alloc (.cells #[.int .i64 y.op, .int .i64 y.n, .int .u64 (y.num : Nat), .string (str y.t), .int .i64 y.a] 64)).cell? ⟨wr.heap.size, 1, none⟩ = some (.int .i64 y.n) := hca.at_ 1
        have c2 : (wr.alloc (.cells #[.int .i64 y.op, .int .i64 y.n, .int .u64 (y.num : Nat), .string (str y.t), .int .i64 y.a] 64)).cell? ⟨wr.heap.size, 2, none⟩ = some (.int .u64 (y.num : Nat)) := hca.at_ 2
        have c3 : (wr.alloc (.cells #[.int .i64 y.op, .int .i64 y.n, .int .u64 (y.num : Nat), .string (str y.t), .int .i64 y.a] 64)).cell? ⟨wr.heap.size, 3, none⟩ = some (.string (str y.t)) := hca.at_ 3
        have c4 : (wr.alloc (.cells #[.int .i64 y.op, .int .i64 y.n, .int .u64 (y.num : Nat), .string (str y.t), .int .i64 y.a] 64)).cell? ⟨wr.heap.size, 4, none⟩ = some (.int .i64 y.a) := hca.at_ 4
        have CK := Lib.hid (kidsOf_any (wr.alloc (.cells #[.int .i64 y.op, .int .i64 y.n, .int .u64 (y.num : Nat), .string (str y.t), .int .i64 y.a] 64)) y)
        have hwx : Hid (∀ W, Below wr.heap.size wr W → Wf w W x f d (some ⟨b, o, none⟩) c N F D ∧ OwnK W (w.heap.size + 3) As cs x (List.range i)) := fun W hW => ⟨⟨HF.out.1.xb.below hW, HF.out.1.bl.trans (hW.mono (by omega)), HF.out.1.ge, HF.out.1.lt⟩, HF.out.2.2.2.keep fun k _ hk => hW.block k hk⟩
        clear hca
        cases har : arity y with
        | none =>
          have hpn : pileP N (i + 1) = none := by rw [push_arity hP hy]; unfold pushP; rw [har]
          have HE : Hid ((exprP N).isSome = false ∧ pileP N (i + 1) = none) := ⟨by rw [expr_none (i + 1) hpn hlt]; rfl, hpn⟩
          have ck : Calls Tryz.prog 67 #[.agg #[.int .i64 y.op, .int .i64 y.n, .int .u64 (y.num : Nat), .string (str y.t), .int .i64 y.a]] (wr.alloc (.cells #[.int .i64 y.op, .int .i64 y.n, .int .u64 (y.num : Nat), .string (str y.t), .int .i64 y.a] 64)) fun e w' => ∃ k : Int, e = .returned (.tuple #[.int .i64 k, .bool false]) ∧ Below (wr.alloc (.cells #[.int .i64 y.op, .int .i64 y.n, .int .u64 (y.num : Nat), .string (str y.t), .int .i64 y.a] 64)).heap.size (wr.alloc (.cells #[.int .i64 y.op, .int .i64 y.n, .int .u64 (y.num : Nat), .string (str y.t), .int .i64 y.a] 64)) w' := CK.out.mono fun e w' h => by
            obtain ⟨k, bb, he, hb, h1, h2⟩ := h
            cases bb with
            | false => exact ⟨k, he, hb⟩
            | true => obtain ⟨n, _, hh⟩ := h1 rfl; rw [har] at hh; cases hh
          clear hy hP har CK hpn
          go_wp2_with (go_at_call 67; refine ck.mono ?_; rintro e w3 ⟨kk, rfl, hb3⟩; have F3 := hwx.out w3 (hba.trans (hb3.mono (by omega))))
          refine bodyPost_ret (v := .tuple #[.slice As i cs, .bool false]) (results_2 rfl _ _ _ _ rfl rfl) rfl ?_
          exact ENDX.out _ _ F3.1 F3.2 (fun _ => HE.out.2) HE.out.1
        | some n =>
          have hn9 := arity_le har hyn
          have ck : Calls Tryz.prog 67 #[.agg #[.int .i64 y.op, .int .i64 y.n, .int .u64 (y.num : Nat), .string (str y.t), .int .i64 y.a]] (wr.alloc (.cells #[.int .i64 y.op, .int .i64 y.n, .int .u64 (y.num : Nat), .string (str y.t), .int .i64 y.a] 64)) fun e w' => e = .returned (.tuple #[.int .i64 (n : Nat), .bool true]) ∧ Below (wr.alloc (.cells #[.int .i64 y.op, .int .i64 y.n, .int .u64 (y.num : Nat), .string (str y.t), .int .i64 y.a] 64)).heap.size (wr.alloc (.cells #[.int .i64 y.op, .int .i64 y.n, .int .u64 (y.num : Nat), .string (str y.t), .int .i64 y.a] 64)) w' := CK.out.mono fun e w' h => by
            obtain ⟨k, bb, he, hb, h1, h2⟩ := h
            cases bb with
            | false => have := h2 rfl; rw [har] at this; cases this
            | true =>
              obtain ⟨m, hm, hh⟩ := h1 rfl
              rw [har] at hh
              cases hh
              subst hm
              exact ⟨he, hb⟩
          by_cases hle : n ≤ P.length
          · have hdt : decide (n ≤ P.length) = true := decide_eq_true hle
            obtain ⟨hk2, hq2⟩ := known_push hP hy har hle HF.out.2.1 HF.out.1.xb.fl HF.out.1.xb.dl
            have CJ : Hid (∀ W, Below wr.heap.size wr W → Calls Tryz.prog 68 #[.pointer (some ⟨x, 0, none⟩), .int .i64 (i : Nat), .int .i64 (n : Nat)] W fun e w' => e = .returned (.bool true) ∧
                ∃ g c' w5, Hid ((Builtin.append_ #[92, 92] 92 #[.slice As i cs, .slice (some ⟨w'.heap.size, 0, none⟩) 1 1]).run Tryz.prog (w'.alloc (.cells #[.pointer (some ⟨x, 0, none⟩), .int .i64 (i : Nat)] 97)) = .ok (.slice (some ⟨g, 0, none⟩) (i + 1) c') w5) ∧
                Hid (∃ F' D', Wf w w5 x f d (some ⟨b, o, none⟩) c N F' D' ∧ Known N F' D' (i + 1) ∧ (∃ Q, pileP N (i + 1) = some Q) ∧ OwnK w5 (w.heap.size + 3) (some ⟨g, 0, none⟩) c' x (List.range (i + 1)))) := fun W hW => by
              obtain ⟨FW, OW⟩ := hwx.out W hW
              obtain ⟨g1, g2, g3⟩ := FW.ge
              obtain ⟨l1, l2, l3⟩ := FW.lt
              obtain ⟨e1, e2⟩ := FW.xb.xf
              have e3 := FW.xb.ne
              have m1 := FW.xb.cb.len
              have m2 := FW.xb.fb.len
              have m3 := FW.xb.db.len
              refine (pjoin_any (B := w.heap.size) FW.xb hP HF.out.2.1 hlt (by omega) hn9 g2 g3).mono ?_
              rintro e w' ⟨he, h1, h2, h3, _⟩
              have hX := h2 hle
              have n1 := hX.cb.len
              have n2 := hX.fb.len
              have n3 := hX.db.len
              have hO' : OwnK w' (w.heap.size + 3) As cs x (List.range i) := OW.keep fun k hk hk2 => h3 k hk2 (by omega) (by omega)
              obtain ⟨g, c', w5, hrun, hown, hbl⟩ := run_app_sub hO' i (by rw [hlr]; omega) (by omega)
              rw [hlr] at hrun
              rw [← List.range_succ] at hown
              refine ⟨by rw [he, hdt], g, c', w5, hrun, _, _, ⟨hX.keep (hbl.block x (by omega)) (hbl.block f (by omega)) (hbl.block d (by omega)), FW.bl.trans (h1.trans (hbl.mono (by omega))), FW.ge, FW.lt⟩, hk2, hq2, hown⟩
            clear hk2 hq2 hdt hle hy hP har CK hn9
            go_wp2_with (first
            | (go_at_call 67; refine ck.mono ?_; rintro e w3 ⟨rfl, hb3⟩; have h3 : Below wr.heap.size wr w3 := hba.trans (hb3.mono (by omega)))
            | (go_at_call 68; refine (CJ.out w3 h3).mono ?_; rintro e w4 ⟨rfl, g, c', w5, HRUN, H5⟩)
            | (at_builtin; refine wpList_append_run rfl (.tmp 41) (.tmp 45) _ rfl rfl rfl HRUN.out ?_))
            obtain ⟨F', D', hh⟩ := H5.out
            go_roundw
            case rel => exact ⟨i + 1, _, c', F', D', by simp, by go_num, by omega, hh⟩
            case measure => simp [intOf]; omega
          · have hdf : decide (n ≤ P.length) = false := decide_eq_false hle
            have hpn : pileP N (i + 1) = none := by rw [push_arity hP hy]; unfold pushP; rw [har]; dsimp only; rw [if_neg hle]
            have HE : Hid ((exprP N).isSome = false ∧ pileP N (i + 1) = none) := ⟨by rw [expr_none (i + 1) hpn hlt]; rfl, hpn⟩
            have CJ : Hid (∀ W, Below wr.heap.size wr W → Calls Tryz.prog 68 #[.pointer (some ⟨x, 0, none⟩), .int .i64 (i : Nat), .int .i64 (n : Nat)] W fun e w' => e = .returned (.bool false) ∧ Hid (Wf w w' x f d (some ⟨b, o, none⟩) c N F D ∧ OwnK w' (w.heap.size + 3) As cs x (List.range i))) := fun W hW => by
              obtain ⟨FW, OW⟩ := hwx.out W hW
              obtain ⟨g1, g2, g3⟩ := FW.ge
              refine (pjoin_any (B := w.heap.size) FW.xb hP HF.out.2.1 hlt (by omega) hn9 g2 g3).mono ?_
              rintro e w' ⟨he, _, _, _, h4⟩
              obtain rfl := h4 hle
              exact ⟨by rw [he, hdf], FW, OW⟩
            clear hdf hle hy hP har CK hn9 hpn
            go_wp2_with (first
            | (go_at_call 67; refine ck.mono ?_; rintro e w3 ⟨rfl, hb3⟩; have h3 : Below wr.heap.size wr w3 := hba.trans (hb3.mono (by omega)))
            | (go_at_call 68; refine (CJ.out w3 h3).mono ?_; rintro e w4 ⟨rfl, H4⟩))
            refine bodyPost_ret (v := .tuple #[.slice As i cs, .bool false]) (results_2 rfl _ _ _ _ rfl rfl) rfl ?_
            exact ENDX.out _ _ H4.out.1 H4.out.2 (fun _ => HE.out.2) HE.out.1
      · obtain rfl : i = N.length := by omega
        have hiz : ¬ (N.length : Int) < (N.length : Int) := by omega
        by_cases h0 : N.length = 0
        · have HE : Hid ((exprP N).isSome = false) := by unfold Hid; rw [expr_nil h0]; rfl
          have hgz : decide ((0 : Int) < (N.length : Int)) = false := decide_eq_false (by omega)
          have hgn : decide (0 < N.length) = false := decide_eq_false (by omega)
          clear h0
          go_wp2
          go_quiet (fail)
          go_wp2
          refine bodyPost_ret (v := .tuple #[.slice As N.length cs, .bool false]) (results_2 rfl _ _ _ _ rfl rfl) rfl ?_
          exact ENDX.out _ _ ⟨HF.out.1.xb.keep rfl rfl rfl, Below.thenN HF.out.1.bl _, HF.out.1.ge, HF.out.1.lt⟩ HF.out.2.2.2 (fun z => absurd z (Nat.lt_irrefl _)) HE.out
        · have hgz : decide ((0 : Int) < (N.length : Int)) = true := decide_eq_true (by omega)
          have hgn : decide (0 < N.length) = true := decide_eq_true (by omega)
          obtain ⟨la, hla⟩ : ∃ la : Nat, N.length - 1 = la := ⟨_, rfl⟩
          have hlaz : (N.length : Int) - 1 = (la : Int) := by omega
          have hla0 : (0 : Int) ≤ (la : Int) := by omega
          have hlal : (la : Int) < (N.length : Int) := by omega
          have x1 : wr.cell? ⟨x, 1, none⟩ = some (.slice (some ⟨f, 0, none⟩) N.length N.length) := HF.out.1.xb.cb.at_ 1
          obtain ⟨P, hP⟩ := HF.out.2.2.1
          obtain ⟨e, hpe, hF, hD⟩ := HF.out.2.1 la (by omega)
          obtain ⟨P', hP'⟩ := hpe
          have hex := expr_top (N := N) (e := e) (P := P') (by rw [show N.length = la + 1 by omega]; exact hP')
          have q := nums_at HF.out.1.xb.fb (i := la) (by rw [HF.out.1.xb.fl]; omega)
          have q1 : wr.cell? ⟨f, la, none⟩ = some (.int .i64 (e.fi : Nat)) := by
            rw [q]
            obtain ⟨_, z⟩ := List.getElem?_eq_some_iff.1 hF
            rw [z]
          have HEX := Lib.hid hex
          clear hex hP hP' hF hD q hla h0
          by_cases hz : e.fi = 0
          · have hzz : ((e.fi : Int) == 0) = true := by rw [hz]; rfl
            have HE : Hid ((exprP N).isSome = true) := by unfold Hid; rw [HEX.out, if_pos hz]; rfl
            clear hz
            go_wp2
            go_quiet (fail)
            go_wp2
            refine bodyPost_ret (v := .tuple #[.slice As N.length cs, .bool true]) (results_2 rfl _ _ _ _ rfl rfl) rfl ?_
            exact ENDX.out _ _ ⟨HF.out.1.xb.keep rfl rfl rfl, Below.thenN HF.out.1.bl _, HF.out.1.ge, HF.out.1.lt⟩ HF.out.2.2.2 (fun z => absurd z (Nat.lt_irrefl _)) HE.out
          · have hzz : ((e.fi : Int) == 0) = false := beq_eq_false_iff_ne.2 (by omega)
            have HE : Hid ((exprP N).isSome = false) := by unfold Hid; rw [HEX.out, if_neg hz]; rfl
            clear hz
            go_wp2
            go_quiet (fail)
            go_wp2
            refine bodyPost_ret (v := .tuple #[.slice As N.length cs, .bool false]) (results_2 rfl _ _ _ _ rfl rfl) rfl ?_
            exact ENDX.out _ _ ⟨HF.out.1.xb.keep rfl rfl rfl, Below.thenN HF.out.1.bl _, HF.out.1.ge, HF.out.1.lt⟩ HF.out.2.2.2 (fun z => absurd z (Nat.lt_irrefl _)) HE.out
end Go.Proofs.YtipcgmaobiobbaaGreatDoor
