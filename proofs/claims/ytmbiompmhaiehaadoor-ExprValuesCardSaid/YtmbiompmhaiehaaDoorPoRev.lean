/- The walk of the library's Reverse, at a row of subtrees. -/
import Derived.Test.YtmbiompmhaiehaaDoorPoOwn
namespace Go.Proofs.YtmbiompmhaiehaaDoor
open Go.RowKit

/-- reversed at both ends so far in -/
def RevI (l : List Nat) (i : Nat) (s : List Nat) : Prop := s.length = l.length ∧ ∀ k v, s[k]? = some v → (if k < i ∨ l.length ≤ k + i then l[l.length - 1 - k]? else l[k]?) = some v
theorem RevI.start (l : List Nat) : RevI l 0 l := ⟨rfl, fun k v h => by
  have := (List.getElem?_eq_some_iff.1 h).1
  rw [if_neg (by omega)]
  exact h⟩
theorem RevI.end_ {l s : List Nat} {i : Nat} (h : RevI l i s) (hi : l.length ≤ 2 * i + 1) : s = l.reverse := by
  apply List.ext_getElem?
  intro k
  by_cases hk : k < l.length
  · have hks : k < s.length := by rw [h.1]; exact hk
    have := h.2 k _ (List.getElem?_eq_getElem hks)
    rw [List.getElem?_reverse hk, List.getElem?_eq_getElem hks, ← this]
    split
    · rfl
    · have : l.length - 1 - k = k := by omega
      rw [this]
  · rw [List.getElem?_eq_none (by rw [h.1]; omega), List.getElem?_eq_none (by rw [List.length_reverse]; omega)]
theorem RevI.step {l s : List Nat} {i j a b : Nat} (h : RevI l i s) (hij : i < j) (hj : i + j + 1 = l.length) (ha : s[i]? = some a) (hb : s[j]? = some b) : RevI l (i + 1) ((s.set i b).set j a) := by
  refine ⟨by rw [List.length_set, List.length_set]; exact h.1, fun k v hk => ?_⟩
  have hl := h.1
  have hkl := (List.getElem?_eq_some_iff.1 hk).1
  rw [List.length_set, List.length_set] at hkl
  by_cases k1 : k = j
  · subst k1
    rw [List.getElem?_set_self (by rw [List.length_set]; omega)] at hk
    have := h.2 i a ha
    rw [if_neg (by omega)] at this
    rw [if_pos (by omega), show l.length - 1 - k = i by omega, this]
    exact hk
  · rw [List.getElem?_set_ne (by omega)] at hk
    by_cases k2 : k = i
    · subst k2
      rw [List.getElem?_set_self (by omega)] at hk
      have := h.2 j b hb
      rw [if_neg (by omega)] at this
      rw [if_pos (by omega), show l.length - 1 - k = j by omega, this]
      exact hk
    · rw [List.getElem?_set_ne (by omega)] at hk
      have := h.2 k v hk
      rw [← this]
      by_cases c : k < i ∨ l.length ≤ k + i
      · rw [if_pos c, if_pos (by omega)]
      · rw [if_neg c, if_neg (by omega)]

set_option maxRecDepth 100000 in
set_option maxHeartbeats 4000000 in
theorem prev_any {w : World} {gk x c : Nat} {l : List Nat} (h : KR w gk x l) (hl : l.length ≤ 9000000000000000000) (h0 : 0 < l.length) :
    Calls Tryd.prog 86 #[.slice (some ⟨gk, 0, none⟩) l.length c] w fun e w' => e = .returned (.tuple #[]) ∧ KR w' gk x l.reverse ∧ Gn gk w w' := by
  have H0 := Lib.hid h
  clear h
  go_enter Tryd.func86, Tryd.ntmps86
  go_wp2
  go_loopw [2, 3] (fun u v wr => ∃ (i : Nat) (j : Int) (s : List Nat), u = .int .i64 i ∧ v = .int .i64 j ∧ (i : Int) + j + 1 = l.length ∧ i ≤ l.length ∧ Hid (RevI l i s ∧ KR wr gk x s ∧ Gn gk w wr)) (fun u _ _ => l.length - (intOf u).toNat)
  case atStart => exact ⟨0, _, l, rfl, rfl, by omega, Nat.zero_le _, RevI.start l, H0.out, Gn.refl gk w⟩
  case round =>
    obtain ⟨i, j, s, rfl, rfl, hij, hil, HF⟩ := hrel
    by_cases hlt : (i : Int) < j
    · obtain ⟨J, rfl⟩ : ∃ J : Nat, j = (J : Int) := ⟨j.toNat, by omega⟩
      have hi0 : (0 : Int) ≤ (i : Int) := by omega
      have hj0 : (0 : Int) ≤ (J : Int) := by omega
      have hsl := HF.out.1.1
      have hiz : (i : Int) < (l.length : Int) := by omega
      have hjz : (J : Int) < (l.length : Int) := by omega
      obtain ⟨a, ha⟩ : ∃ a, s[i]? = some a := ⟨_, List.getElem?_eq_getElem (by omega)⟩
      obtain ⟨b, hb⟩ : ∃ b, s[J]? = some b := ⟨_, List.getElem?_eq_getElem (by omega)⟩
      obtain ⟨p1, p2, f1, f2⟩ := HF.out.2.1.at_ (j := i) (by omega)
      obtain ⟨q1, q2, g1, g2⟩ := HF.out.2.1.at_ (j := J) (by omega)
      rw [(List.getElem?_eq_some_iff.1 ha).2] at p2
      rw [(List.getElem?_eq_some_iff.1 hb).2] at q2
      obtain ⟨wo, rfl⟩ : ∃ wo : World, wo = wr := ⟨_, rfl⟩
      have hw2 : IntKind.i64.wrap ((J : Int) - 1) = (J : Int) - 1 := by rw [IntKind.wrap_i64]; omega
      have hnij : i * 2 ≠ J * 2 := by omega
      have hnij2 : i * 2 + 1 ≠ J * 2 + 1 := by omega
      have END : Hid (RevI l (i + 1) ((s.set i b).set J a) ∧ KR ((((wo.setCell ⟨gk, i * 2, none⟩ (.pointer (some ⟨x, 0, none⟩))).setCell ⟨gk, i * 2 + 1, none⟩ (.int .i64 (b : Nat))).setCell ⟨gk, J * 2, none⟩ (.pointer (some ⟨x, 0, none⟩))).setCell ⟨gk, J * 2 + 1, none⟩ (.int .i64 (a : Nat))).drew gk x ((s.set i b).set J a) ∧
          Gn gk w ((((wo.setCell ⟨gk, i * 2, none⟩ (.pointer (some ⟨x, 0, none⟩))).setCell ⟨gk, i * 2 + 1, none⟩ (.int .i64 (b : Nat))).setCell ⟨gk, J * 2, none⟩ (.pointer (some ⟨x, 0, none⟩))).setCell ⟨gk, J * 2 + 1, none⟩ (.int .i64 (a : Nat))).drew) := by
        refine ⟨HF.out.1.step (by omega) (by omega) ha hb, ((HF.out.2.1.set i b _ rfl).set J a _ rfl).keep rfl, ?_⟩
        have hg := ((((HF.out.2.2.set (i * 2) (.pointer (some ⟨x, 0, none⟩))).set (i * 2 + 1) (.int .i64 (b : Nat))).set (J * 2) (.pointer (some ⟨x, 0, none⟩))).set (J * 2 + 1) (.int .i64 (a : Nat)))
        exact hg.trans (Gn.of (Below.thenN (Below.refl _ _) 1))
      clear HF ha hb
      go_wp2
      go_region
      all_goals
        go_wp2
        go_roundw
        case rel => exact ⟨i + 1, _, _, by go_num, rfl, by omega, by omega, END.out⟩
        case measure => simp [intOf]; omega
    · have hr := HF.out.1.end_ (by omega)
      subst hr
      go_wp2
      go_end0
      exact ⟨rfl, HF.out.2⟩
end Go.Proofs.YtmbiompmhaiehaaDoor
