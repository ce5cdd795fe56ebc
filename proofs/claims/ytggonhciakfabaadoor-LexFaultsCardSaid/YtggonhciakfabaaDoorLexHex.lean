/- The library's ParseUint of two bytes, by base 16 at 8 bits: walked here. -/
import Derived.Test.YtggonhciakfabaaDoorLexBld
import Derived.Test.YtggonhciakfabaaDoorLexRefE
namespace Go.Proofs.YtggonhciakfabaaDoor
open Go.RowKit

/-- the number that digits of base 16 spell behind a number; none: one of them is no digit -/
def hexF : Nat → List UInt8 → Option Nat
  | x, [] => some x
  | x, c :: r => if dv c.toNat = 16 then none else hexF (x * 16 + dv c.toNat) r
theorem low_cases : ∀ n : Fin 256, ((97 ≤ n.val ∧ n.val ≤ 102) → bits .or .u8 (n.val : Int) 32 = (n.val : Int)) ∧ ((65 ≤ n.val ∧ n.val ≤ 70) → bits .or .u8 (n.val : Int) 32 = (n.val : Int) + 32) ∧
    (dv n.val = 16 → bits .or .u8 (n.val : Int) 32 < 97 ∨ 103 ≤ bits .or .u8 (n.val : Int) 32) := by decide +kernel
/-- what is answered -/
def hexA : Option Nat → Value
  | some x => .tuple #[.int .u64 (x : Nat), .nilIface]
  | none => .tuple #[.int .u64 0, .iface 65 (.int .i64 2)]

set_option maxRecDepth 100000 in
set_option maxHeartbeats 32000000 in
theorem pu16_any (w : World) (t : ByteArray) (h2 : t.size = 2) :
    Calls Tryd.prog 53 #[.string t, .int .i64 16, .int .i64 8] w fun e w' => e = .returned (hexA (hexF 0 (ls t))) ∧ Below w.heap.size w w' := by
  have hemp : t.toList.isEmpty = false := by
    rw [← decide_eq_emptyBytes]
    exact decide_eq_false (fun h => by rw [h] at h2; cases h2)
  have hcv := Lib.run_convert_string_bytes (P := Tryd.prog) w 9 41 5 t (u := .string) Tryd.underlying9 Tryd.underlying41 Tryd.underlying5
  have hB : ∀ j, j < t.size → (Lib.bytesWorld w 5 t).cell? ⟨w.heap.size, j, none⟩ = some (.int .u8 ((ls t).getD j 0).toNat) := fun j hj => Lib.bytesWorld_cell w 5 t j hj
  have hbel := Lib.bytesWorld_below w 5 t
  obtain ⟨W1, hW1⟩ : ∃ W1, W1 = Lib.bytesWorld w 5 t := ⟨_, rfl⟩
  rw [← hW1] at hcv hB hbel
  clear hW1
  obtain ⟨bs, hL⟩ : ∃ bs, bs = ls t := ⟨_, rfl⟩
  have hLn : bs.length = t.size := by rw [hL, ls_size]
  rw [← hL] at hB ⊢
  clear hL
  obtain ⟨R, hR⟩ : ∃ R, hexF 0 bs = R := ⟨_, rfl⟩
  rw [hR]
  have HR : Hid (hexF 0 (bs.drop 0) = R) := by unfold Hid; rw [List.drop_zero]; exact hR
  have hmv : IntKind.u64.wrap (IntKind.u64.wrap 256 - 1) = 255 := by
    rw [IntKind.wrap_u64, IntKind.wrap_u64]
    decide
  clear hR
  go_enter Tryd.func53, Tryd.ntmps53
  go_wp2
  go_loop [12, 13, 101] (fun vu vn vi => ∃ (k acc : Nat) (a : Int), vu = .bool false ∧ vn = .int .u64 a ∧ vi = .int .i64 k ∧ k ≤ t.size ∧ Hid (a = (acc : Int) ∧ acc ≤ 255 ∧ (k ≤ 1 → acc ≤ 15) ∧ (k = 0 → acc = 0) ∧ hexF acc (bs.drop k) = R))
    (fun _ _ vi => t.size - (intOf vi).toNat)
  case atStart => exact ⟨0, 0, 0, rfl, rfl, rfl, by omega, rfl, by omega, fun _ => by omega, fun _ => rfl, HR.out⟩
  case round =>
    obtain ⟨k, acc, a, rfl, rfl, rfl, hk, hh⟩ := hrel
    obtain ⟨ha, hacc, hacc1, hk1, hdec⟩ := hh.out
    clear hh
    have a0 : 0 ≤ a := by omega
    have a1 : a ≤ 255 := by omega
    by_cases hkn : k < t.size
    · have hc := hB k hkn
      have a15 : acc ≤ 15 := hacc1 (by omega)
      have a2 : a ≤ 15 := by omega
      have hdrop : bs.drop k = bs[k]'(by omega) :: bs.drop (k + 1) := List.drop_eq_getElem_cons (by omega)
      have hget : bs.getD k 0 = bs[k]'(by omega) := by simp [List.getD, List.getElem?_eq_getElem (show k < bs.length by omega)]
      rw [hdrop] at hdec
      rw [hget] at hc
      generalize bs[k]'(by omega) = c at hc hdec
      have hc256 : c.toNat < 256 := c.toNat_lt
      have hlow := low_cases ⟨c.toNat, hc256⟩
      dsimp only at hlow
      obtain ⟨l1, l2, l3⟩ := hlow
      clear hB hdrop hget
      unfold hexF at hdec
      by_cases hbad : dv c.toNat = 16
      · rw [if_pos hbad] at hdec
        subst hdec
        have hv := l3 hbad
        have hnd : ¬ (48 ≤ c.toNat ∧ c.toNat ≤ 57) := fun h => by rw [dv_num h] at hbad; omega
        have hv0 := bits_lo_u8 .or (c.toNat : Int) 32
        have hv1 := bits_hi_u8 .or (c.toNat : Int) 32
        have l4 : bits .or .u8 95 32 = 127 := by decide +kernel
        have l5 : c.toNat = 95 → bits .or .u8 (c.toNat : Int) 32 = 127 := fun h => by rw [h]; exact l4
        clear l1 l2 l3 hbad hacc hacc1 hk1 ha a15 l4
        generalize hvv : bits .or .u8 (c.toNat : Int) 32 = v at hv hv0 hv1 l5
        have cl := fun W => Tryd.internal_strconv_lower (c.toNat : Nat) W
        simp only [hvv] at cl
        clear hvv
        by_cases hz : 97 ≤ v ∧ v ≤ 122
        · obtain ⟨z1, z2⟩ := hz
          have hv3 : 103 ≤ v := by omega
          have h95 : ((c.toNat : Int) == 95) = false := beq_eq_false_iff_ne.2 (fun h => by have := l5 (by omega); omega)
          clear hv l5
          by_cases q : 48 ≤ c.toNat
          · have q2 : ¬ c.toNat ≤ 57 := by omega
            clear hnd
            go_wp2_with (go_at_call 57; refine (cl _).mono ?_; rintro e w' ⟨rfl, rfl⟩)
            go_ret2
            exact ⟨rfl, hbel⟩
          · clear hnd
            go_wp2_with (go_at_call 57; refine (cl _).mono ?_; rintro e w' ⟨rfl, rfl⟩)
            go_ret2
            exact ⟨rfl, hbel⟩
        · by_cases q95 : c.toNat = 95
          · obtain rfl : v = 127 := l5 q95
            rw [q95] at hc
            simp only [q95] at cl
            clear l5 hnd hv q95
            go_wp2_with (go_at_call 57; refine (cl _).mono ?_; rintro e w' ⟨rfl, rfl⟩)
            all_goals go_ret2
            all_goals exact ⟨rfl, hbel⟩
          · have h95 : ((c.toNat : Int) == 95) = false := beq_eq_false_iff_ne.2 (by omega)
            clear l5 hv q95
            by_cases q : 48 ≤ c.toNat
            · have q2 : ¬ c.toNat ≤ 57 := by omega
              clear hnd
              go_wp2_with (go_at_call 57; refine (cl _).mono ?_; rintro e w' ⟨rfl, rfl⟩)
              all_goals go_ret2
              all_goals exact ⟨rfl, hbel⟩
            · clear hnd
              go_wp2_with (go_at_call 57; refine (cl _).mono ?_; rintro e w' ⟨rfl, rfl⟩)
              all_goals go_ret2
              all_goals exact ⟨rfl, hbel⟩
      · rw [if_neg hbad] at hdec
        obtain ⟨d, hd⟩ : ∃ d, dv c.toNat = d := ⟨_, rfl⟩
        have hd16 := dv_le c.toNat
        rw [hd] at hdec hbad hd16
        have hk0 : k ≤ 1 := by omega
        have HN : Hid (a * 16 + (d : Int) = ((acc * 16 + d : Nat) : Int) ∧ acc * 16 + d ≤ 255 ∧ (k + 1 ≤ 1 → acc * 16 + d ≤ 15) ∧ (k + 1 = 0 → acc * 16 + d = 0) ∧ hexF (acc * 16 + d) (bs.drop (k + 1)) = R) := Lib.hid ⟨by omega, by omega, fun h => by have := hk1 (by omega); omega, fun h => by omega, hdec⟩
        by_cases hdig : 48 ≤ c.toNat ∧ c.toNat ≤ 57
        · rw [dv_num hdig] at hd
          have hcd : (c.toNat : Int) - 48 = (d : Int) := by omega
          have hd9 : (d : Int) ≤ 9 := by omega
          obtain ⟨q1, q2⟩ := hdig
          clear l1 l2 l3 hbad hacc hacc1 hk1 a15 hdec ha hd hd16
          go_wp2
          refine ⟨⟨k + 1, acc * 16 + d, a * 16 + (d : Int), rfl, (by first | rfl | (congr 1; omega)), (by first | rfl | (congr 1; omega)), by omega, HN⟩, by simp [intOf]; omega⟩
        · have hnd := hdig
          clear hdig
          have hv0 := bits_lo_u8 .or (c.toNat : Int) 32
          have hv1 := bits_hi_u8 .or (c.toNat : Int) 32
          have hlet : (97 ≤ c.toNat ∧ c.toNat ≤ 102) ∨ (65 ≤ c.toNat ∧ c.toNat ≤ 70) := by
            by_cases q : 97 ≤ c.toNat ∧ c.toNat ≤ 102
            · exact .inl q
            · by_cases q2 : 65 ≤ c.toNat ∧ c.toNat ≤ 70
              · exact .inr q2
              · exact absurd (hd ▸ dv_no hnd q q2) hbad
          have cl := fun W => Tryd.internal_strconv_lower (c.toNat : Nat) W
          have hv : bits .or .u8 (c.toNat : Int) 32 = (d : Int) + 87 := by
            rcases hlet with q | q
            · rw [l1 q, ← hd, dv_low q]; omega
            · rw [l2 q, ← hd, dv_upp q]; omega
          have h95 : ((c.toNat : Int) == 95) = false := beq_eq_false_iff_ne.2 (by omega)
          have hd10 : 10 ≤ d := by
            rcases hlet with q | q
            · rw [← hd, dv_low q]; omega
            · rw [← hd, dv_upp q]; omega
          have hq1 : ¬ (c.toNat : Int) ≤ 57 := by omega
          have hd15 : (d : Int) ≤ 15 := by omega
          have hd10z : (10 : Int) ≤ (d : Int) := by omega
          simp only [hv] at cl
          clear l1 l2 l3 hbad hacc hacc1 hk1 a15 hdec ha hd hd16 hlet hnd hv hv0 hv1 hd10
          go_wp2_with (go_at_call 57; refine (cl _).mono ?_; rintro e w' ⟨rfl, rfl⟩)
          refine ⟨⟨k + 1, acc * 16 + d, a * 16 + (d : Int), rfl, (by first | rfl | (congr 1; omega)), (by first | rfl | (congr 1; omega)), by omega, HN⟩, by simp [intOf]; omega⟩
    · have hkk : k = t.size := by omega
      subst hkk
      rw [List.drop_eq_nil_of_le (by omega)] at hdec
      obtain rfl : some acc = R := hdec
      subst ha
      clear hacc hacc1 hk1 a0 a1
      go_wp2
      go_ret2
      exact ⟨rfl, hbel⟩

set_option maxRecDepth 100000 in
set_option maxHeartbeats 4000000 in
/-- strconv.ParseUint of two bytes, by base 16 at 8 bits -/
theorem parse16_any (w : World) (t : ByteArray) (h2 : t.size = 2) (hE : EV w) :
    Calls Tryd.prog 47 #[.string t, .int .i64 16, .int .i64 8] w fun e w' => Below w.heap.size w w' ∧ match hexF 0 (ls t) with
      | some x => e = .returned (.tuple #[.int .u64 (x : Nat), .nilIface])
      | none => ∃ T p, e = .returned (.tuple #[.int .u64 0, .iface T p]) := by
  have ci := pu16_any w t h2
  cases hR : hexF 0 (ls t) with
  | some x =>
    rw [hR] at ci
    change Calls _ _ _ _ (fun e w' => e = .returned (.tuple #[.int .u64 (x : Nat), .nilIface]) ∧ _) at ci
    clear hR
    go_enter Tryd.func47, Tryd.ntmps47
    go_wp2_with (go_at_call 53; refine ci.mono ?_; rintro e w2 ⟨rfl, hb2⟩)
    go_ret2
    exact ⟨hb2, rfl⟩
  | none =>
    rw [hR] at ci
    change Calls _ _ _ _ (fun e w' => e = .returned (.tuple #[.int .u64 0, .iface 65 (.int .i64 2)]) ∧ _) at ci
    clear hR
    go_enter Tryd.func47, Tryd.ntmps47
    go_wp2_with (go_at_call 53; refine ci.mono ?_)
    rintro e w2 ⟨rfl, hb2⟩
    obtain ⟨⟨te, pe, hv⟩, _⟩ := hE.below hb2
    go_wp2_with (go_at_call 54; refine (Tryd.strconv_toError_syntax ⟨#[80, 97, 114, 115, 101, 85, 105, 110, 116]⟩ t 16 8 _ w2 (by omega) hv (.inr ⟨te, pe, rfl⟩)).mono ?_)
    rintro e w3 ⟨N, rfl, _, _, hb3⟩
    go_wp2
    go_ret2
    exact ⟨hb2.trans (hb3.mono hb2.size), _, _, rfl⟩
end Go.Proofs.YtggonhciakfabaaDoor
