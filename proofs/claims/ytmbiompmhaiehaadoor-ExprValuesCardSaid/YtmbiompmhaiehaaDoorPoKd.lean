/- The walk of the code: a subtree's kids. -/
import Derived.Test.YtmbiompmhaiehaaDoorPoRev
import Derived.Test.YtmbiompmhaiehaaDoorPoJoin
namespace Go.Proofs.YtmbiompmhaiehaaDoor
open Go.RowKit

set_option maxRecDepth 100000 in
set_option maxHeartbeats 4000000 in
theorem prev_nil (w : World) : Calls Tryd.prog 86 #[.slice none 0 0] w fun e w' => e = .returned (.tuple #[]) ∧ w = w' := by
  go_enter Tryd.func86, Tryd.ntmps86
  go_wp2
  go_loopw [2, 3] (fun u v wr => u = .int .i64 0 ∧ v = .int .i64 (-1) ∧ w = wr) (fun _ _ _ => 0)
  case atStart => exact ⟨rfl, rfl, rfl⟩
  case round =>
    obtain ⟨rfl, rfl, rfl⟩ := hrel
    go_wp2
    go_end0
    exact ⟨rfl, rfl⟩

/-- the roots of a node's kids, the first one first -/
def kidRoots (P : List Pe) (k : Nat) : List Nat := ((P.take k).map (·.r)).reverse
/-- what kids answers -/
def KidsOut (x : Nat) (P : List Pe) (k : Nat) (w : World) (e : Ending) (w' : World) : Prop :=
  ∃ A c, e = .returned (.slice A k c) ∧ Below w.heap.size w w' ∧ (k = 0 ∨ ∃ gk, A = some ⟨gk, 0, none⟩ ∧ w.heap.size ≤ gk ∧ KR w' gk x (kidRoots P k))
theorem bottom_anti {N : List Rn} {P : List Pe} {r m k : Nat} (hP : pileP N r = some P) (hm : m ≤ k) : bottom r (P.take k) ≤ bottom r (P.take m) := by
  have hc := chain_drop P r m (pile_chain r P hP)
  have := bottom_le (P.drop m) (bottom r (P.take m)) (k - m) hc
  have e : ∀ (a b : List Pe) (i : Nat), bottom i (a ++ b) = bottom (bottom i a) b := by
    intro a
    induction a with
    | nil => exact fun _ _ => rfl
    | cons y z ih => exact fun b i => ih b y.fi
  rw [← e, ← List.take_add, show m + (k - m) = k by omega] at this
  exact this

set_option maxRecDepth 100000 in
set_option maxHeartbeats 4000000 in
theorem pkids_any {w : World} {x f d : Nat} {A : Option Addr} {c : Nat} {N : List Rn} {F D : List Nat} {r k : Nat} {P : List Pe} (h : Xb w x f d A c N F D) (hK : Known N F D N.length) (hP : pileP N r = some P) (hk : k ≤ P.length) (hF : F[r]? = some (bottom r (P.take k))) (hr : r < N.length) (hN : N.length ≤ 2932031007402) :
    Calls Tryd.prog 74 #[.agg #[.pointer (some ⟨x, 0, none⟩), .int .i64 (r : Nat)]] w (KidsOut x P k w) := by
  have hrz : (r : Int) < (N.length : Int) := by omega
  have hr0 : (0 : Int) ≤ (r : Int) := by omega
  obtain ⟨w1, hw1⟩ : ∃ w1, w.alloc (.cells #[.pointer (some ⟨x, 0, none⟩), .int .i64 (r : Nat)] 43) = w1 := ⟨_, rfl⟩
  have b1 : Below w.heap.size w w1 := by rw [← hw1]; exact (Below.refl _ w).alloc (Nat.le_refl _) _
  have s1 : w1.heap.size = w.heap.size + 1 := by rw [← hw1]; simp
  have k1 : CB w1 w.heap.size 43 #[.pointer (some ⟨x, 0, none⟩), .int .i64 (r : Nat)] := by rw [← hw1]; exact CB.new w _ _
  have h1 := h.below b1
  have hpl := chain_len P r (pile_chain r P hP)
  -- what every world in which nothing below has turned knows
  have FX : Hid (∀ W, Below (w.heap.size + 1) w1 W → W.cell? ⟨w.heap.size, 0, none⟩ = some (.pointer (some ⟨x, 0, none⟩)) ∧ W.cell? ⟨w.heap.size, 1, none⟩ = some (.int .i64 (r : Nat)) ∧ W.cell? ⟨x, 1, none⟩ = some (.slice (some ⟨f, 0, none⟩) N.length N.length) ∧
      W.cell? ⟨f, r, none⟩ = some (.int .i64 (bottom r (P.take k) : Nat)) ∧ ∀ m (hm : m < P.length), W.cell? ⟨f, (P[m]).r, none⟩ = some (.int .i64 ((P[m]).fi : Nat))) := fun W hW => by
    have hx := h1.cb.len
    have hf := h1.fb.len
    have KW := k1.keep (hW.block w.heap.size (by omega))
    have XW : Xb W x f d A c N F D := h1.keep (hW.block x (by omega)) (hW.block f (by omega)) (hW.block d (by have := h1.db.len; omega))
    refine ⟨KW.at_ 0, KW.at_ 1, XW.cb.at_ 1, ?_, fun m hm => ?_⟩
    · obtain ⟨hr2, z⟩ := List.getElem?_eq_some_iff.1 hF
      rw [nums_at XW.fb hr2, z]
    · have hmem := pile_mem r P hP P[m] (List.getElem_mem hm)
      obtain ⟨q1, _⟩ := hK.at_ (by omega) hmem.2
      obtain ⟨hr2, z⟩ := List.getElem?_eq_some_iff.1 q1
      rw [nums_at XW.fb hr2, z]
  obtain ⟨c0, c1, x1, _, _⟩ := FX.out w1 (Below.refl _ _)
  have HP := Lib.hid hP
  obtain ⟨bk, hbk⟩ : ∃ bk, bottom r (P.take k) = bk := ⟨_, rfl⟩
  have HBK := Lib.hid hbk
  rw [hbk] at FX
  clear h h1 hK hP hF k1 hbk
  go_enter Tryd.func74, Tryd.ntmps74
  go_wp2
  clear c0 c1 x1
  go_loopw [3, 5] (fun u v wr => ∃ (m bt : Nat) (As : Option Addr) (cs : Nat), u = .slice As m cs ∧ v = .int .i64 (bt : Nat) ∧ m ≤ k ∧ Hid (bottom r (P.take m) = bt) ∧ Hid (Below (w.heap.size + 1) w1 wr ∧ OwnK wr (w.heap.size + 1) As cs x ((P.take m).map (·.r)) ∧ (m = 0 → As = none ∧ cs = 0))) (fun _ v _ => (intOf v).toNat)
  case atStart => exact ⟨0, r, none, 0, rfl, rfl, Nat.zero_le _, rfl, Below.refl _ _, OwnK.nil _ _ _, fun _ => ⟨rfl, rfl⟩⟩
  case round =>
    obtain ⟨m, bt, As, cs, rfl, rfl, hmk, HB, HF⟩ := hrel
    obtain ⟨c0, c1, x1, q1, q2⟩ := FX.out wr HF.out.1
    have hlm : ((P.take m).map (·.r)).length = m := by rw [List.length_map, List.length_take]; omega
    by_cases hlt : m < k
    · have hmP : m < P.length := by omega
      obtain ⟨e, he⟩ : ∃ e, P[m] = e := ⟨_, rfl⟩
      obtain ⟨hb1, hb2⟩ := bottom_at HP.out hmP
      have hq2 := q2 m hmP
      have hmem := pile_mem r P HP.out e (by rw [← he]; exact List.getElem_mem hmP)
      have hbt := bottom_take r hmP
      rw [he] at hb1 hb2 hq2 hbt
      rw [HB.out] at hb1
      have hanti := bottom_anti (N := N) (r := r) HP.out (show m + 1 ≤ k from hlt)
      rw [hbt, HBK.out] at hanti
      have hgt : (bk : Int) < (bt : Int) := by omega
      have hsub : (bt : Int) - 1 = (e.r : Int) := by omega
      have hel : (e.r : Int) < (N.length : Int) := by omega
      have he0 : (0 : Int) ≤ (e.r : Int) := by omega
      have hs2 := HF.out.1.size
      obtain ⟨g, c', w', hrun, hown, hbl⟩ := run_app_sub HF.out.2.1 e.r (by rw [hlm]; omega) (by omega)
      rw [hlm] at hrun
      have hsnoc : (P.take m).map (·.r) ++ [e.r] = (P.take (m + 1)).map (·.r) := by rw [List.take_succ_eq_append_getElem hmP, List.map_append, he]; rfl
      rw [hsnoc] at hown
      have HRUN := Lib.hid hrun
      have HN := Lib.hid (And.intro (HF.out.1.trans hbl) (And.intro hown (show m + 1 = 0 → (some ⟨g, 0, none⟩ : Option Addr) = none ∧ c' = 0 from fun z => absurd z (Nat.succ_ne_zero m))))
      obtain ⟨_, _, _, _, q3⟩ := FX.out w' HN.out.1
      have hq3 := q3 m hmP
      rw [he] at hq3
      have HBT := Lib.hid hbt
      clear q2 q3 hmem hbt hb1 hrun hown hbl hsnoc hanti he hlm
      go_wp2_with (at_builtin; refine wpList_append_run rfl (.tmp 25) (.tmp 31) _ rfl rfl rfl HRUN.out ?_)
      go_roundw
      case rel => exact ⟨m + 1, e.fi, _, c', by simp, rfl, by omega, HBT.out, HN.out⟩
      case measure => simp [intOf]; omega
    · obtain rfl : m = k := by omega
      have hbe : bt = bk := HB.out.symm.trans HBK.out
      have hgt : ¬ (bk : Int) < (bt : Int) := by omega
      clear q2
      have HB1 := Lib.hid (b1.trans (HF.out.1.mono (by omega)))
      by_cases h0 : m = 0
      · obtain ⟨rfl, rfl⟩ := HF.out.2.2 h0
        have END : Hid (∀ W, Below w.heap.size w W → KidsOut x P m w (.returned (.slice none m 0)) W) := fun W hW => ⟨none, 0, rfl, hW, .inl h0⟩
        have cr : Calls Tryd.prog 86 #[.slice none m 0] wr fun e w' => e = .returned (.tuple #[]) ∧ wr = w' := by
          rw [h0]
          exact prev_nil wr
        clear h0 HF
        go_wp2_with (go_at_call 86; refine cr.mono ?_; rintro e w9 ⟨rfl, rfl⟩)
        go_ret
        exact END.out _ HB1.out
      · obtain ⟨gk, rfl, hgk, hgl, hkr⟩ := HF.out.2.1.kr (by rw [hlm]; omega)
        have cr := prev_any (c := cs) hkr (by rw [hlm]; omega) (by rw [hlm]; omega)
        rw [hlm] at cr
        have END : Hid (∀ W, KR W gk x ((P.take m).map (·.r)).reverse → Gn gk wr W → KidsOut x P m w (.returned (.slice (some ⟨gk, 0, none⟩) m cs)) W) := fun W h1 h2 => by
          refine ⟨_, cs, rfl, ?_, .inr ⟨gk, rfl, by omega, h1⟩⟩
          have := HB1.out.size
          exact HB1.out.trans (h2.below (by omega) (by omega))
        clear h0 HF hkr
        go_wp2_with (go_at_call 86; refine cr.mono ?_; rintro e w9 ⟨rfl, hr9, hg9⟩)
        go_ret
        exact END.out _ hr9 hg9
end Go.Proofs.YtmbiompmhaiehaaDoor
