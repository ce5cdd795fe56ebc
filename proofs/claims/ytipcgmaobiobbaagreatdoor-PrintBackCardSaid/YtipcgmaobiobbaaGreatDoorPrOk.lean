/- The walks of the code: whether texts are names, whether they are empty. -/
import Derived.Test.YtipcgmaobiobbaaGreatDoorPrTree
import Derived.Test.YtipcgmaobiobbaaGreatDoorLexCodeM
namespace Go.Proofs.YtipcgmaobiobbaaGreatDoor
open Go.RowKit

set_option maxHeartbeats 4000000 in
set_option maxRecDepth 100000 in
theorem pnames_any {w : World} {b c : Nat} {l : List (List UInt8)} (hr : TxRow w b l) (hs : ∀ x ∈ l, x.length ≤ 9223372036854775806) (hl : l.length ≤ 100) (hc : c = l.length) :
    Calls Tryz.prog 41 #[.slice (some ⟨b, 0, none⟩) l.length c] w fun e w' => e = .returned (.bool (l.all nmB)) ∧ Below w.heap.size w w' := by
  subst hc
  obtain ⟨bb, hbb0⟩ : ∃ bb, l.all nmB = bb := ⟨_, rfl⟩
  rw [hbb0]
  have HBB := Lib.hid hbb0
  clear hbb0
  have HR := Lib.hid hr
  have hbb := hr.len
  clear hr
  go_enter Tryz.func41, Tryz.ntmps41
  go_wp2
  go_loopw [7] (fun u wr => ∃ (i : Nat), u = .int .i64 i ∧ i ≤ l.length ∧ Hid ((l.take i).all nmB = true ∧ Below w.heap.size w wr)) (fun u _ => l.length - (intOf u).toNat)
  case atStart => exact ⟨0, rfl, Nat.zero_le _, rfl, Below.refl _ _⟩
  case round =>
    obtain ⟨i, rfl, hil, HF⟩ := hrel
    by_cases hlt : i < l.length
    · have hiz : (i : Int) < (l.length : Int) := by omega
      have hi0 : (0 : Int) ≤ (i : Int) := by omega
      have hrw : TxRow wr b l := HR.out.below HF.out.2
      have hc := hrw.at_ hlt
      have hsz := hs _ (List.getElem_mem hlt)
      have hmem : l[i] ∈ l := List.getElem_mem hlt
      have hall : (l.take (i + 1)).all nmB = nmB l[i] := by rw [List.take_succ_eq_append_getElem hlt, List.all_append, HF.out.1]; simp
      obtain ⟨x, hx⟩ : ∃ x, l[i] = x := ⟨_, rfl⟩
      rw [hx] at hc hsz hall hmem
      have cn := name_any wr (str x) (by rw [str_size]; exact hsz)
      rw [ls_str] at cn
      obtain ⟨n, hn⟩ : ∃ n, nameL x = n := ⟨_, rfl⟩
      rw [hn] at cn
      cases n with
      | false =>
        have hf : l.all nmB = false := by
          rw [List.all_eq_false]
          exact ⟨x, hmem, by unfold nmB; rw [hn]; simp⟩
        obtain rfl : bb = _ := HBB.out.symm.trans hf
        clear hx hrw hall hn hf
        go_wp2_with (go_at_call 74; refine cn.mono ?_; rintro e w5 ⟨rfl, h5⟩)
        go_ret
        exact ⟨rfl, HF.out.2.trans (h5.mono HF.out.2.size)⟩
      | true =>
        have ci := fun W => isWord_any W x
        obtain ⟨k, hk⟩ : ∃ k, decide (x ∈ words) = k := ⟨_, rfl⟩
        rw [hk] at ci
        have hnm : nmB x = !k := by unfold nmB; rw [hn, hk]; rfl
        cases k with
        | true =>
          have hf : l.all nmB = false := by
            rw [List.all_eq_false]
            exact ⟨x, hmem, by rw [hnm]; decide⟩
          obtain rfl : bb = _ := HBB.out.symm.trans hf
          clear hx hrw hall hn hf hk hnm
          go_wp2_with (first
            | (go_at_call 74; refine cn.mono ?_; rintro e w5 ⟨rfl, h5⟩)
            | (go_at_call 75; refine (ci _).mono ?_; rintro e w6 ⟨rfl, rfl⟩))
          go_ret
          exact ⟨rfl, HF.out.2.trans (h5.mono HF.out.2.size)⟩
        | false =>
          rw [hnm] at hall
          clear hx hrw hn hk hnm
          have HA := Lib.hid hall
          clear hall
          go_wp2_with (first
            | (go_at_call 74; refine cn.mono ?_; rintro e w5 ⟨rfl, h5⟩)
            | (go_at_call 75; refine (ci _).mono ?_; rintro e w6 ⟨rfl, rfl⟩))
          go_roundw
          case rel => exact ⟨i + 1, by go_num, by omega, HA.out, HF.out.2.trans (h5.mono HF.out.2.size)⟩
          case measure => simp [intOf]; omega
    · obtain rfl : i = l.length := by omega
      have hiz : ¬ (l.length : Int) < (l.length : Int) := by omega
      have e1 : l.take l.length = l := List.take_length
      rw [e1] at HF
      have hf : l.all nmB = true := HF.out.1
      obtain rfl : bb = _ := HBB.out.symm.trans hf
      clear hf
      go_wp2
      go_ret
      exact ⟨rfl, HF.out.2⟩

set_option maxHeartbeats 4000000 in
set_option maxRecDepth 100000 in
theorem pempty_any {w : World} {b c : Nat} {l : List (List UInt8)} (hr : TxRow w b l) (hl : l.length ≤ 100) (hc : c = l.length) :
    Calls Tryz.prog 76 #[.slice (some ⟨b, 0, none⟩) l.length c] w fun e w' => e = .returned (.bool (l.all emB)) ∧ w = w' := by
  subst hc
  obtain ⟨bb, hbb0⟩ : ∃ bb, l.all emB = bb := ⟨_, rfl⟩
  rw [hbb0]
  have HBB := Lib.hid hbb0
  clear hbb0
  have HR := Lib.hid hr
  have hbb := hr.len
  clear hr
  go_enter Tryz.func76, Tryz.ntmps76
  go_wp2
  go_loopw [7] (fun u wr => ∃ (i : Nat), u = .int .i64 i ∧ i ≤ l.length ∧ Hid ((l.take i).all emB = true) ∧ w = wr) (fun u _ => l.length - (intOf u).toNat)
  case atStart => exact ⟨0, rfl, Nat.zero_le _, rfl, rfl⟩
  case round =>
    obtain ⟨i, rfl, hil, HF, hw⟩ := hrel
    subst hw
    by_cases hlt : i < l.length
    · have hiz : (i : Int) < (l.length : Int) := by omega
      have hi0 : (0 : Int) ≤ (i : Int) := by omega
      have hc := HR.out.at_ hlt
      have hmem : l[i] ∈ l := List.getElem_mem hlt
      have hall : (l.take (i + 1)).all emB = emB l[i] := by rw [List.take_succ_eq_append_getElem hlt, List.all_append, HF.out]; simp
      obtain ⟨x, hx⟩ : ∃ x, l[i] = x := ⟨_, rfl⟩
      rw [hx] at hc hall hmem
      cases x with
      | nil =>
        have HA : Hid ((l.take (i + 1)).all emB = true) := by unfold Hid; rw [hall]; rfl
        have hs0 : (Value.string (str [])) = .string ⟨#[]⟩ := rfl
        rw [hs0] at hc
        clear hx hall
        go_wp2
        go_roundw
        case rel => exact ⟨i + 1, by go_num, by omega, HA, trivial⟩
        case measure => simp [intOf]; omega
      | cons y r =>
        have hf : l.all emB = false := by
          rw [List.all_eq_false]
          exact ⟨_, hmem, by simp [emB]⟩
        obtain rfl : bb = _ := HBB.out.symm.trans hf
        have hne : (str (y :: r)).toList.isEmpty = false := by rw [ByteArray.toList_eq]; rfl
        obtain ⟨z, hz⟩ : ∃ z, str (y :: r) = z := ⟨_, rfl⟩
        rw [hz] at hc hne
        clear hx hall hf hz
        go_wp2
        go_ret
        exact ⟨rfl, rfl⟩
    · obtain rfl : i = l.length := by omega
      have hiz : ¬ (l.length : Int) < (l.length : Int) := by omega
      have e1 : l.take l.length = l := List.take_length
      rw [e1] at HF
      have hf : l.all emB = true := HF.out
      obtain rfl : bb = _ := HBB.out.symm.trans hf
      clear hf
      go_wp2
      go_ret
      exact ⟨rfl, rfl⟩
end Go.Proofs.YtipcgmaobiobbaaGreatDoor
