/- The walk of KindExact. -/
import Derived.Test.YtcodamhoanfanaaDoorKindLives
import Derived.Test.YtcodamhoanfanaaDoorKindOpen
import Derived.Deep.RegionHeld3
import Derived.Deep.QuietTactic
import Derived.BigQuiet
namespace Go.Proofs.YtcodamhoanfanaaDoor
open Go.RowKit

set_option maxRecDepth 100000 in
set_option maxHeartbeats 4000000 in
theorem exact_any {w : World} (h : KAll w w) {A : Option Addr} {l : List Val} (c : Nat) (hA : VRow w w.heap.size A l) (hl : l.length ≤ 140737488355328) :
    Calls Tryd.prog 4 #[.slice A l.length c] w (Yes w) := by
  have HA := Lib.hid hA
  clear hA
  go_enter Tryd.func4, Tryd.ntmps4
  go_wp2_with (go_at_call 9; refine (awake_any h).mono ?_; rintro e w' ⟨rfl, hst⟩)
  go_loopw [3] (fun vi wr => KAll w wr ∧ ∃ i : Nat, vi = .int .i64 i ∧ i ≤ l.length) (fun vi _ => l.length - (intOf vi).toNat)
  case atStart => exact ⟨by assumption, 0, rfl, Nat.zero_le _⟩
  case round =>
    clear h
    obtain ⟨hst, i, rfl, hi⟩ := hrel
    by_cases hlt : i < l.length
    · obtain ⟨r, hr⟩ : ∃ r, l[i]? = some r := ⟨l[i], List.getElem?_eq_getElem hlt⟩
      obtain ⟨g, o, rfl, hg, h0, h1, h2, hfit, hsz⟩ := HA.out i r hr
      have hltz : (i : Int) < (l.length : Int) := by omega
      have v0 := fun {w1 : World} (q : KAll w w1) => q.ofK (fun z => kvalid_any z r hfit hsz)
      have v1 := fun {w1 : World} (q : KAll w w1) => q.ofK (fun z => rkvalid_any z r hfit hsz)
      have o0 := fun {w1 : World} (q : KAll w w1) => q.ofK (fun z => order_any z r r hfit hfit)
      have ho : ordV r r = 0 := (ord_zero hfit hfit).2 ⟨rfl, rfl, rfl⟩
      obtain ⟨V, hV⟩ : ∃ V, okV r = V := ⟨_, rfl⟩
      simp only [hV] at v0 v1
      simp only [ho] at o0
      have i64 : (0 : Int) ≤ (i : Int) := by omega
      obtain ⟨k, n, s⟩ := r
      simp only [vv] at v0 v1 o0
      dsimp only at h0 h1 h2
      have HC : Hid (∀ W, KAll w W → (KAll w W ∧ W.cell? ⟨g, o + i * 3, none⟩ = some (.int .i64 k) ∧ W.cell? ⟨g, o + i * 3 + 1, none⟩ = some (.int .u64 n) ∧ W.cell? ⟨g, o + i * 3 + 2, none⟩ = some (.string s))) := fun W hW => ⟨hW, (hW.below.cell (p := ⟨g, _, none⟩) hg).trans h0, (hW.below.cell (p := ⟨g, _, none⟩) hg).trans h1, (hW.below.cell (p := ⟨g, _, none⟩) hg).trans h2⟩
      clear h0 h1 h2 hV ho
      have HR := Lib.hid hr
      have HF := Lib.hid hfit
      have HZ := Lib.hid hsz
      clear hr hfit hsz
      go_wp2
      go_region_held3 (fun W => KAll w W ∧ W.cell? ⟨g, o + i * 3, none⟩ = some (.int .i64 k) ∧ W.cell? ⟨g, o + i * 3 + 1, none⟩ = some (.int .u64 n) ∧ W.cell? ⟨g, o + i * 3 + 2, none⟩ = some (.string s))
        (first | (exact HC.out _ (by assumption)) | (exact HC.out _ (KAll.drew (by assumption))))
        (first
          | (go_at_call 14; with_reducible refine (v0 (by first | assumption | exact KAll.drew (by assumption) | exact And.left (by assumption))).mono ?_; rintro e w' ⟨rfl, hst⟩)
          | (go_at_call 15; with_reducible refine (v1 (by first | assumption | exact KAll.drew (by assumption) | exact And.left (by assumption))).mono ?_; rintro e w' ⟨rfl, hst⟩)
          | (go_at_call 16; with_reducible refine (o0 (by first | assumption | exact KAll.drew (by assumption) | exact And.left (by assumption))).mono ?_; rintro e w' ⟨rfl, hst⟩))
      go_wp2
      clear v0 v1 o0
      by_cases i0 : i = 0
      · have z0 : decide ((0 : Int) < (i : Int)) = false := decide_eq_false (by omega)
        have z1 : decide (0 < i) = false := decide_eq_false (by omega)
        have z2 : ¬ 0 < i := by omega
        have z3 : ¬ (0 : Int) < (i : Int) := by omega
        clear i0
        go_quiet (fail)
        go_wp2
        go_roundw
        case rel => exact ⟨by first | assumption | exact KAll.newN (by assumption) _, i + 1, by go_num, by omega⟩
        case measure => simp [intOf]; omega
      · obtain ⟨j, hj⟩ : ∃ j, i = j + 1 := ⟨i - 1, by omega⟩
        obtain ⟨r', hr'⟩ : ∃ r, l[j]? = some r := ⟨l[j], List.getElem?_eq_getElem (by omega)⟩
        obtain ⟨g', o', hgo, hg', h0, h1, h2, hfit', hsz'⟩ := HA.out j r' hr'
        simp only [Option.some.injEq, Addr.mk.injEq, and_true] at hgo
        obtain ⟨rfl, rfl⟩ := hgo
        have o1 := fun {w1 : World} (q : KAll w w1) => q.ofK (fun z => order_any z r' ⟨k, n, s⟩ hfit' HF.out)
        have o2 := fun {w1 : World} (q : KAll w w1) => q.ofK (fun z => rorder_any z r' ⟨k, n, s⟩ hfit' HF.out hsz' HZ.out)
        have o3 := fun {w1 : World} (q : KAll w w1) => q.ofK (fun z => order_any z ⟨k, n, s⟩ r' HF.out hfit')
        have o4 := fun {w1 : World} (q : KAll w w1) => q.ofK (fun z => rorder_any z ⟨k, n, s⟩ r' HF.out hfit' HZ.out hsz')
        obtain ⟨P, hP⟩ : ∃ P, ordV r' ⟨k, n, s⟩ = P := ⟨_, rfl⟩
        obtain ⟨Q, hQ⟩ : ∃ Q, ordV ⟨k, n, s⟩ r' = Q := ⟨_, rfl⟩
        simp only [hP] at o1 o2
        simp only [hQ] at o3 o4
        clear hP hQ
        obtain ⟨k', n', s'⟩ := r'
        simp only [vv] at o1 o2 o3 o4
        dsimp only at h0 h1 h2
        have HD : Hid (∀ W, KAll w W → (KAll w W ∧ (W.cell? ⟨g, o + i * 3, none⟩ = some (.int .i64 k) ∧ W.cell? ⟨g, o + i * 3 + 1, none⟩ = some (.int .u64 n) ∧ W.cell? ⟨g, o + i * 3 + 2, none⟩ = some (.string s)) ∧ W.cell? ⟨g, o + j * 3, none⟩ = some (.int .i64 k') ∧ W.cell? ⟨g, o + j * 3 + 1, none⟩ = some (.int .u64 n') ∧ W.cell? ⟨g, o + j * 3 + 2, none⟩ = some (.string s'))) := fun W hW => ⟨hW, (HC.out W hW).2, (hW.below.cell (p := ⟨g, _, none⟩) hg).trans h0, (hW.below.cell (p := ⟨g, _, none⟩) hg).trans h1, (hW.below.cell (p := ⟨g, _, none⟩) hg).trans h2⟩
        have j0 : (0 : Int) ≤ (j : Int) := by omega
        have j1 : (j : Int) < (l.length : Int) := by omega
        have jw : IntKind.i64.wrap ((i : Int) - 1) = (j : Int) := by rw [IntKind.wrap_i64]; omega
        have z0 : decide ((0 : Int) < (i : Int)) = true := decide_eq_true (by omega)
        have z1 : decide (0 < i) = true := decide_eq_true (by omega)
        have z2 : 0 < i := by omega
        have z3 : (0 : Int) < (i : Int) := by omega
        have HJ := Lib.hid hj
        clear h0 h1 h2 hr' hfit' hsz' hj i0 HC
        go_region_held3 (fun W => KAll w W ∧ (W.cell? ⟨g, o + i * 3, none⟩ = some (.int .i64 k) ∧ W.cell? ⟨g, o + i * 3 + 1, none⟩ = some (.int .u64 n) ∧ W.cell? ⟨g, o + i * 3 + 2, none⟩ = some (.string s)) ∧ W.cell? ⟨g, o + j * 3, none⟩ = some (.int .i64 k') ∧ W.cell? ⟨g, o + j * 3 + 1, none⟩ = some (.int .u64 n') ∧ W.cell? ⟨g, o + j * 3 + 2, none⟩ = some (.string s'))
          (first | (exact HD.out _ (by assumption)) | (exact HD.out _ (KAll.drew (by assumption))))
          (first
            | (go_at_call 16; with_reducible refine (o1 (by first | assumption | exact KAll.drew (by assumption) | exact And.left (by assumption))).mono ?_; rintro e w' ⟨rfl, hst⟩)
            | (go_at_call 16; with_reducible refine (o3 (by first | assumption | exact KAll.drew (by assumption) | exact And.left (by assumption))).mono ?_; rintro e w' ⟨rfl, hst⟩)
            | (go_at_call 17; with_reducible refine (o2 (by first | assumption | exact KAll.drew (by assumption) | exact And.left (by assumption))).mono ?_; rintro e w' ⟨rfl, hst⟩)
            | (go_at_call 17; with_reducible refine (o4 (by first | assumption | exact KAll.drew (by assumption) | exact And.left (by assumption))).mono ?_; rintro e w' ⟨rfl, hst⟩))
        go_wp2
        go_roundw
        case rel => exact ⟨by first | assumption | exact KAll.drew (by assumption), i + 1, by go_num, by omega⟩
        case measure => simp [intOf]; omega
    · go_wp2
      go_ret
      exact ⟨rfl, hst.below⟩
end Go.Proofs.YtcodamhoanfanaaDoor
