/- The walks of the reference's read, text, number, Apply. -/
import Derived.Test.YtijgcfnjbfaelaaDoorConvRef
import Derived.Test.YtijgcfnjbfaelaaDoorConvFacts
import Derived.Test.YtijgcfnjbfaelaaDoorKindRValid
namespace Go.Proofs.YtijgcfnjbfaelaaDoor
open Go.RowKit

theorem allD_take {l : List UInt8} {k : Nat} {x : UInt8} (h : allD (l.take k) = true) (hx : l[k]? = some x) (hd : isD x = true) : allD (l.take (k + 1)) = true := by
  rw [List.take_add_one, hx, allD_app, h]
  unfold allD
  simp [hd]
theorem allD_no {l : List UInt8} {k : Nat} {x : UInt8} (hx : l[k]? = some x) (hd : isD x = false) : allD l = false := by
  unfold allD
  rw [List.all_eq_false]
  exact ⟨x, List.mem_of_getElem? hx, by rw [hd]; decide⟩
theorem isD_lo {x : UInt8} (h : (x.toNat : Int) < 48) : isD x = false := by
  unfold isD; rw [decide_eq_false (show ¬ 48 ≤ x.toNat by omega), Bool.false_and]
theorem isD_hi {x : UInt8} (h : (57 : Int) < x.toNat) : isD x = false := by
  unfold isD; rw [decide_eq_false (show ¬ x.toNat ≤ 57 by omega), Bool.and_false]
theorem isD_in {x : UInt8} (h : (48 : Int) ≤ x.toNat) (h2 : (x.toNat : Int) ≤ 57) : isD x = true := by
  unfold isD; rw [decide_eq_true (show 48 ≤ x.toNat by omega), decide_eq_true (show x.toNat ≤ 57 by omega)]; rfl
theorem isD_get {l : List UInt8} (h : allD l = true) {k : Nat} {x : UInt8} (hx : l[k]? = some x) : 48 ≤ x.toNat ∧ x.toNat ≤ 57 := by
  have := List.all_eq_true.1 h x (List.mem_of_getElem? hx)
  simpa [isD] using this

set_option maxRecDepth 100000 in
set_option maxHeartbeats 2000000 in
theorem rread_any (w : World) (s : ByteArray) (most : Nat) (hs : s.size ≤ 140737488355328) (h9 : 9 ≤ most) (hm : most < 18446744073709551616) :
    Calls Tryd.prog 57 #[.string s, .int .u64 most] w fun e w' => e = .returned (.tuple #[.int .u64 (rdN most (ls s) : Nat), .int .i64 (rdE most (ls s))]) ∧ Below w.heap.size w w' := by
  have hl : (ls s).length = s.size := (Go.Lib.size_eq s).symm
  by_cases h0 : s.size = 0
  · obtain rfl := ba_empty h0
    have := rd_bad (most := most) (l := ls ⟨#[]⟩) (.inl rfl)
    rw [this.1, this.2]
    clear this
    go_enter Tryd.func57, Tryd.ntmps57
    go_wp2
    go_ret2
    exact ⟨rfl, Below.refl _ _⟩
  · obtain ⟨N, hN⟩ : ∃ N, rdN most (ls s) = N := ⟨_, rfl⟩
    obtain ⟨E, hE⟩ : ∃ E, rdE most (ls s) = E := ⟨_, rfl⟩
    rw [hN, hE]
    have HNE := Lib.hid (And.intro hN hE)
    have hne : s.toList.isEmpty = false := by
      rw [Lib.toList_data, List.isEmpty_eq_false_iff]
      intro e
      exact h0 (by rw [Go.Lib.size_eq, e]; rfl)
    have HL := Lib.hid hl
    have HZ : Hid (ls s ≠ []) := fun e => h0 (by rw [← hl, e]; rfl)
    clear hN hE hl
    go_enter Tryd.func57, Tryd.ntmps57
    go_wp2
    go_loop [6] (fun i => ∃ k : Nat, i = .int .i64 k ∧ k ≤ s.size ∧ Hid (allD ((ls s).take k) = true)) (fun i => s.size - (intOf i).toNat)
    case atStart => exact ⟨0, rfl, Nat.zero_le _, rfl⟩
    case round =>
      obtain ⟨k, rfl, hk, HA⟩ := hrel
      by_cases hlt : k < s.size
      · have hltz : (k : Int) < (s.size : Int) := by omega
        obtain ⟨x, hx⟩ : ∃ x, s[k]'hlt = x := ⟨_, rfl⟩
        have HX : Hid ((ls s)[k]? = some x) := by
          unfold Hid
          rw [List.getElem?_eq_getElem (by rw [HL.out]; exact hlt)]
          exact congrArg some hx
        by_cases h1 : (x.toNat : Int) < 48
        · have hb := rd_bad (most := most) (.inr (allD_no HX.out (isD_lo h1)))
          have HE : Hid (N = 0 ∧ E = 61) := ⟨HNE.out.1.symm.trans hb.2, HNE.out.2.symm.trans hb.1⟩
          clear hb
          go_wp2
          go_ret2
          exact ⟨by rw [HE.out.1, HE.out.2]; rfl, Below.refl _ _⟩
        · by_cases h2 : (57 : Int) < x.toNat
          · have hb := rd_bad (most := most) (.inr (allD_no HX.out (isD_hi h2)))
            have HE : Hid (N = 0 ∧ E = 61) := ⟨HNE.out.1.symm.trans hb.2, HNE.out.2.symm.trans hb.1⟩
            clear hb
            go_wp2
            go_ret2
            exact ⟨by rw [HE.out.1, HE.out.2]; rfl, Below.refl _ _⟩
          · have HA2 := Lib.hid (allD_take HA.out HX.out (isD_in (by omega) (by omega)))
            go_wp2
            go_round
            case rel => exact ⟨k + 1, by go_num, by omega, HA2⟩
            case measure => simp [intOf]; omega
      · have HA2 : Hid (allD (ls s) = true) := by
          have := HA.out
          rwa [List.take_of_length_le (by rw [HL.out]; omega)] at this
        clear HA
        go_wp2
        go_loop [7, 8] (fun n i => ∃ a k : Nat, n = .int .u64 a ∧ i = .int .i64 k ∧ k ≤ s.size ∧ a ≤ most ∧ Hid (dva ((ls s).take k) = a)) (fun _ i => s.size - (intOf i).toNat)
        case atStart => exact ⟨0, 0, rfl, rfl, Nat.zero_le _, Nat.zero_le _, rfl⟩
        case round =>
          obtain ⟨a, k, rfl, rfl, hk, ha, HV⟩ := hrel
          by_cases hlt : k < s.size
          · have hltz : (k : Int) < (s.size : Int) := by omega
            obtain ⟨x, hx⟩ : ∃ x, s[k]'hlt = x := ⟨_, rfl⟩
            have HX : Hid ((ls s)[k]? = some x) := by
              unfold Hid
              rw [List.getElem?_eq_getElem (by rw [HL.out]; exact hlt)]
              exact congrArg some hx
            obtain ⟨x1, x2⟩ := isD_get HA2.out HX.out
            obtain ⟨d, hd⟩ : ∃ d : Nat, (x.toNat : Int) = 48 + d := ⟨x.toNat - 48, by omega⟩
            have hd9 : d ≤ 9 := by omega
            have HT : Hid (dva ((ls s).take (k + 1)) = a * 10 + d) := by
              unfold Hid; rw [dva_take HX.out, HV.out]; congr 1; omega
            have hge := dva_ge (ls s) (k + 1)
            rw [HT.out] at hge
            by_cases h1 : most / 10 < a
            · have hb := rd_big HZ.out HA2.out (show most < dva (ls s) by omega)
              have HE : Hid (N = 0 ∧ E = 60) := ⟨HNE.out.1.symm.trans hb.2, HNE.out.2.symm.trans hb.1⟩
              have h1z : (most : Int) / 10 < (a : Int) := by omega
              clear hb hge
              go_wp2
              go_ret2
              exact ⟨by rw [HE.out.1, HE.out.2]; rfl, Below.refl _ _⟩
            · have h1z : ¬ (most : Int) / 10 < (a : Int) := by omega
              by_cases h2 : most < a * 10 + d
              · have hb := rd_big HZ.out HA2.out (show most < dva (ls s) by omega)
                have HE : Hid (N = 0 ∧ E = 60) := ⟨HNE.out.1.symm.trans hb.2, HNE.out.2.symm.trans hb.1⟩
                have h2z : (most : Int) - (d : Int) < (a : Int) * 10 := by omega
                clear hb hge
                go_wp2
                go_ret2
                exact ⟨by rw [HE.out.1, HE.out.2]; rfl, Below.refl _ _⟩
              · have h2z : ¬ (most : Int) - (d : Int) < (a : Int) * 10 := by omega
                clear hge
                go_wp2
                go_round
                case rel => exact ⟨a * 10 + d, k + 1, by go_num, by go_num, by omega, by omega, HT⟩
                case measure => simp [intOf]; omega
          · have hv : dva (ls s) = a := by
              have := HV.out
              rwa [List.take_of_length_le (by rw [HL.out]; omega)] at this
            have hb := rd_good HZ.out HA2.out (show dva (ls s) ≤ most by omega)
            have HE : Hid (N = a ∧ E = 0) := ⟨HNE.out.1.symm.trans (hb.2.trans hv), HNE.out.2.symm.trans hb.1⟩
            clear hb hv
            go_wp2
            go_ret2
            exact ⟨by rw [HE.out.1, HE.out.2]; rfl, Below.refl _ _⟩
end Go.Proofs.YtijgcfnjbfaelaaDoor
