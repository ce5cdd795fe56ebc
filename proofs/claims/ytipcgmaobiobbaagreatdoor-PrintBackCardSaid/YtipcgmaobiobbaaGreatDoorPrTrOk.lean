/- The walk of the code: whether raw events are a tree. -/
import Derived.Test.YtipcgmaobiobbaaGreatDoorPrEvOk
namespace Go.Proofs.YtipcgmaobiobbaaGreatDoor
open Go.RowKit

def okMe (m : Me) : Bool := okE m.e
theorem okT_of (l : List Me) : okT (l.map Me.e) = l.all okMe := by
  unfold okT okMe
  simp [List.all_map, Function.comp_def]

set_option maxHeartbeats 4000000 in
set_option maxRecDepth 100000 in
theorem pistree_any {w : World} {B c : Nat} {A : Option Addr} {l : List Me} (h : MtAt w B A l) (hB : B ≤ w.heap.size) :
    Calls Tryz.prog 13 #[.agg #[.slice A l.length c]] w fun e w' => e = .returned (.bool (okT (l.map Me.e))) ∧ Below w.heap.size w w' := by
  rw [okT_of]
  obtain ⟨bb, hbb⟩ : ∃ bb, l.all okMe = bb := ⟨_, rfl⟩
  rw [hbb]
  have HQ := Lib.hid hbb
  obtain ⟨n, hn⟩ : ∃ n, l.length = n := ⟨_, rfl⟩
  have hvl : n ≤ 140737488355328 := by rw [← hn]; exact h.len
  rw [hn]
  have HN := Lib.hid hn
  have CL : Hid (∀ {W : World}, Below w.heap.size w W → MtAt W B A l) := fun hW => h.below (hW.mono hB)
  obtain ⟨w1, hw1⟩ : ∃ w1, w.alloc (.cells #[.slice A n c] 24) = w1 := ⟨_, rfl⟩
  have b1 : Below w.heap.size w w1 := by rw [← hw1]; exact (Below.refl _ w).alloc (Nat.le_refl _) _
  have k1 : w1.cell? ⟨w.heap.size, 0, none⟩ = some (.slice A n c) := by rw [← hw1]; exact (CB.new w 24 #[.slice A n c]).at_ 0
  have B1 := Lib.hid b1
  clear hbb hn h b1
  go_enter Tryz.func13, Tryz.ntmps13
  go_wp2
  go_loopw [8] (fun u wr => ∃ (i : Nat), u = .int .i64 i ∧ i ≤ n ∧ Hid ((l.take i).all okMe = true ∧ Below w.heap.size w wr)) (fun u _ => n - (intOf u).toNat)
  case atStart => exact ⟨0, rfl, Nat.zero_le _, rfl, B1.out⟩
  case round =>
    obtain ⟨i, rfl, hil, HF⟩ := hrel
    by_cases hlt : i < n
    · have hiz : (i : Int) < (n : Int) := by omega
      have hi0 : (0 : Int) ≤ (i : Int) := by omega
      have hlv : i < l.length := by rw [HN.out]; exact hlt
      have hgi : l[i]? = some l[i] := List.getElem?_eq_getElem hlv
      have hall : (l.take (i + 1)).all okMe = okMe l[i] := by rw [List.take_succ_eq_append_getElem hlv, List.all_append, HF.out.1]; simp
      have hmem : l[i] ∈ l := List.getElem_mem hlv
      obtain ⟨x, hx⟩ : ∃ x, l[i] = x := ⟨_, rfl⟩
      rw [hx] at hgi hall hmem
      obtain ⟨gb, go, hA, _, ⟨x0, x1, x2⟩, hX⟩ := (CL.out HF.out.2).cells hgi
      subst hA
      obtain ⟨ob, hob⟩ : ∃ ob, okMe x = ob := ⟨_, rfl⟩
      have CI : Hid (Calls Tryz.prog 24 #[.agg x.C] (wr.alloc (.cells x.C 48)) fun e w' => e = .returned (.bool ob) ∧ Hid (Below w.heap.size w w')) := by
        have hb : Below wr.heap.size wr (wr.alloc (.cells x.C 48)) := (Below.refl _ wr).alloc (Nat.le_refl _) _
        have hwr := HF.out.2
        refine (pisevent_any (hX.below (hb.mono (Nat.le_trans hB hwr.size))) (Nat.le_trans hB (Nat.le_trans hwr.size hb.size))).mono ?_
        rintro e w' ⟨rfl, h2⟩
        exact ⟨by rw [← hob]; rfl, hwr.trans ((hb.trans (h2.mono hb.size)).mono hwr.size)⟩
      clear hX hx hgi
      cases ob with
      | false =>
        obtain rfl : bb = false := by
          rw [← HQ.out, List.all_eq_false]
          exact ⟨x, hmem, by rw [hob]; simp⟩
        clear hall hmem hob
        go_wp2_with (go_at_call 24; refine CI.out.mono ?_; rintro e w5 ⟨rfl, H5⟩)
        go_ret
        exact ⟨rfl, H5.out⟩
      | true =>
        rw [hob] at hall
        have HAJ := Lib.hid hall
        clear hall hmem hob
        go_wp2_with (go_at_call 24; refine CI.out.mono ?_; rintro e w5 ⟨rfl, H5⟩)
        go_roundw
        case rel => exact ⟨i + 1, by go_num, by omega, HAJ.out, H5.out⟩
        case measure => simp [intOf]; omega
    · obtain rfl : i = n := by omega
      have hiz : ¬ (i : Int) < (i : Int) := by omega
      have e1 : l.take i = l := by rw [← HN.out]; exact List.take_length
      rw [e1] at HF
      obtain rfl : bb = true := HQ.out.symm.trans HF.out.1
      go_wp2
      go_ret
      exact ⟨rfl, HF.out.2⟩
end Go.Proofs.YtipcgmaobiobbaaGreatDoor
