/- The walk of the code: an expression's value as a value of a kind, walked. -/
import Derived.Test.YtmbiompmhaiehaaDoorExValOf
namespace Go.Proofs.YtmbiompmhaiehaaDoor
open Go.RowKit

set_option maxRecDepth 100000 in
set_option maxHeartbeats 8000000 in
theorem valueOf_any {w : World} {x f d : Nat} {A : Option Addr} {c : Nat} {N : List Rn} {F D : List Nat} {r : Nat} {k : Int} (hK : KSt w w) (hE : Ex w x f d A c N F D) (hr : r < N.length) (hk : 1 ≤ k ∧ k ≤ 5) :
    Calls Tryd.prog 17 #[.agg #[.pointer (some ⟨x, 0, none⟩), .int .i64 (r : Nat)], .int .i64 k] w fun e w' => e = endV r k (resAt N r) ∧ Below w.heap.size w w' := by
  obtain ⟨w2, hw2, b2, s2, k0, k1⟩ := val_start w x r
  have c0 : w2.cell? ⟨w.heap.size, 0, none⟩ = some (.pointer (some ⟨x, 0, none⟩)) := k0.at_ 0
  have c1 : w2.cell? ⟨w.heap.size, 1, none⟩ = some (.int .i64 (r : Nat)) := k0.at_ 1
  have co := reckon_all r hr (hE.below b2)
  have hok : ∀ t, resAt N r = .ok t → t.Ok := fun t ht => res_ok (fun y hy => (hE.num y hy).1) ht
  have hK2 := hK.self.then_ b2
  obtain ⟨z, hz⟩ : ∃ z, resAt N r = z := ⟨_, rfl⟩
  rw [hz] at co hok
  rw [hz]
  clear hz hE hr hK
  cases z with
  | error z =>
    obtain ⟨za, ze⟩ := z
    have he : endR (.error (za, ze)) = .panicked [faultV za ze] := rfl
    rw [he] at co
    have CO := Lib.hid co
    have K := Lib.hid (And.intro k0 k1)
    clear k0 k1 hok co he hK2
    show Calls _ _ _ _ fun e w' => e = .panicked [faultV za ze] ∧ _
    go_enter Tryd.func17, Tryd.ntmps17
    go_wp2_with (go_at_call 26; refine CO.out.mono ?_; rintro e w3 ⟨rfl, hb3⟩)
    exact ⟨rfl, rfl, b2.trans (hb3.mono b2.size)⟩
  | ok t =>
    have hok := hok t rfl
    obtain ⟨so, hs⟩ : ∃ so, t.sort = so := ⟨_, rfl⟩
    obtain ⟨v, hv⟩ : ∃ v, t.n = v := ⟨_, rfl⟩
    obtain ⟨bl, hbl⟩ : ∃ bl, decide (v < 0) = bl := ⟨_, rfl⟩
    obtain ⟨nn, hnn⟩ : ∃ nn, v.natAbs = nn := ⟨_, rfl⟩
    obtain ⟨S, hS⟩ : ∃ S, str t.s = S := ⟨_, rfl⟩
    have he : endR (.ok t) = .returned (.agg #[.int .i64 so, .bool bl, .int .u64 (nn : Nat), .string S]) := by rw [← hs, ← hbl, ← hnn, ← hv, ← hS]; rfl
    rw [he] at co
    have CO := Lib.hid co
    have hvR : -9223372036854775808 ≤ v ∧ v < 18446744073709551616 := by
      rw [← hv]
      cases t with
      | num u => exact hok
      | text s => exact ⟨(by decide : (-9223372036854775808 : Int) ≤ 0), (by decide : (0 : Int) < 18446744073709551616)⟩
      | truth b => cases b <;> exact ⟨by decide, by decide⟩
      | bytes s => exact ⟨(by decide : (-9223372036854775808 : Int) ≤ 0), (by decide : (0 : Int) < 18446744073709551616)⟩
    have hSz : S.size ≤ 4096 := by
      rw [← hS, str_size]
      cases t with
      | num u => exact Nat.zero_le _
      | text s => exact hok
      | truth b => exact Nat.zero_le _
      | bytes s => exact hok
    -- what stands behind the reckoning
    have AX : Hid (∀ w3, Below w2.heap.size w2 w3 → ∃ w4, w3.alloc (.cells #[.int .i64 so, .bool bl, .int .u64 (nn : Nat), .string S] 64) = w4 ∧ ∀ W, Below w4.heap.size w4 W → (W.cell? ⟨w.heap.size, 0, none⟩ = some (.pointer (some ⟨x, 0, none⟩)) ∧ W.cell? ⟨w.heap.size, 1, none⟩ = some (.int .i64 (r : Nat))) ∧
        (W.cell? ⟨w3.heap.size, 0, none⟩ = some (.int .i64 so) ∧ W.cell? ⟨w3.heap.size, 1, none⟩ = some (.bool bl) ∧ W.cell? ⟨w3.heap.size, 2, none⟩ = some (.int .u64 (nn : Nat)) ∧ W.cell? ⟨w3.heap.size, 3, none⟩ = some (.string S)) ∧
        CB W (w.heap.size + 1) 31 #[.int .i64 0, .int .u64 0, .string ⟨#[]⟩] ∧ Below w.heap.size w W ∧ KSt W W) := fun w3 hb => by
      have hb4 : Below w3.heap.size w3 (w3.alloc (.cells #[.int .i64 so, .bool bl, .int .u64 (nn : Nat), .string S] 64)) := (Below.refl _ w3).alloc (Nat.le_refl _) _
      refine ⟨_, rfl, fun W hW => ?_⟩
      have a0 := ((k0.below hb).below hb4).below hW
      have a1 := ((k1.below hb).below hb4).below hW
      have a2 := (CB.new w3 64 #[.int .i64 so, .bool bl, .int .u64 (nn : Nat), .string S]).below hW
      have h2W : Below w2.heap.size w2 W := Below.both hb (Below.both hb4 hW)
      exact ⟨⟨a0.at_ 0, a0.at_ 1⟩, ⟨a2.at_ 0, a2.at_ 1, a2.at_ 2, a2.at_ 3⟩, a1, b2.trans (h2W.mono b2.size), (hK2.self.then_ h2W).self⟩
    have SO : Hid (∀ W, KSt W W → Calls Tryd.prog 28 #[.int .i64 k] W fun e w' => e = .returned (.int .i64 (sortK k)) ∧ w' = W) := fun W h => (sortOf_any h.k k).mono fun e w' h => ⟨h.1, h.2.symm⟩
    obtain ⟨sk, hsk⟩ : ∃ sk, sortK k = sk := ⟨_, rfl⟩
    rw [hsk] at SO
    by_cases hq : so = sk
    · have hlast := lastV_yes hk hok (by rw [hs, hsk]; exact hq)
      subst hq
      have hzz : (so == so) = true := beq_self_eq_true so
      obtain ⟨bn, hbn⟩ : ∃ bn, bitsV v = bn := ⟨_, rfl⟩
      obtain ⟨hb, hhb⟩ : ∃ hb, hasN k v = hb := ⟨_, rfl⟩
      obtain ⟨ob, hob⟩ : ∃ ob, okV ⟨k, (bn : Nat), S⟩ = ob := ⟨_, rfl⟩
      rw [hv, hbn, hhb, hS, hob] at hlast
      have hend : endV r k (.ok t) = if hb && ob then .returned (.agg #[.int .i64 k, .int .u64 (bn : Nat), .string S]) else .panicked [faultV r 111] := by
        show endL r k (lastV t k) = _
        rw [hlast]
        cases hb && ob
        · rfl
        · rw [if_pos rfl, if_pos rfl, ← hS]; rfl
      obtain ⟨EE, hEE⟩ : ∃ EE, endV r k (.ok t) = EE := ⟨_, rfl⟩
      rw [hEE]
      have HEE := Lib.hid (hEE.symm.trans hend)
      have hbb : bn < 18446744073709551616 := by rw [← hbn]; unfold bitsV; split <;> omega
      have WY : Hid (∀ W, Calls Tryd.prog 27 #[.agg #[.pointer (some ⟨x, 0, none⟩), .int .i64 (r : Nat)], .bool true] W fun q w' => q = .returned (.tuple #[]) ∧ Below W.heap.size W w') := fun W => want_yes W x r
      have BX : Hid (∀ W, Calls Tryd.prog 29 #[.agg #[.bool bl, .int .u64 (nn : Nat)]] W fun q w' => q = .returned (.int .u64 (bn : Nat)) ∧ Below W.heap.size W w') := fun W => by
        have := bitsOf_any W v hvR
        unfold numC at this
        rw [hbl, hnn, hbn] at this
        exact this
      have LX : Hid (∀ W, Calls Tryd.prog 30 #[.string S] W fun q w' => q = .returned (.string S) ∧ Below W.heap.size W w') := fun W => cloneE_any W S (by omega)
      have NX : Hid (∀ W, KSt W W → Calls Tryd.prog 31 #[.int .i64 k, .agg #[.bool bl, .int .u64 (nn : Nat)]] W fun q w' => q = .returned (.bool hb) ∧ Below W.heap.size W w') := fun W h => by
        have := hasNumber_any h.k k v
        unfold numC at this
        rw [hbl, hnn, hhb] at this
        exact this
      have VX : Hid (∀ W, KSt W W → Calls Tryd.prog 13 #[.agg #[.int .i64 k, .int .u64 (bn : Nat), .string S]] W fun q w' => q = .returned (.bool ob) ∧ Below W.heap.size W w') := fun W h => by
        have := kvalid_any h ⟨k, (bn : Nat), S⟩ ⟨by show (0 : Int) ≤ ((bn : Nat) : Int); omega, by show ((bn : Nat) : Int) ≤ 18446744073709551615; omega⟩ (by show S.size ≤ _; omega)
        rw [hob] at this
        exact this.mono fun e w' h => ⟨h.1, h.2.below⟩
      have GX : Hid (∀ W, Calls Tryd.prog 32 #[.agg #[.pointer (some ⟨x, 0, none⟩), .int .i64 (r : Nat)], .int .i64 111] W fun q w' => q = .panicked [faultV r 111] ∧ Below W.heap.size W w') := fun W => give_any W x r 111
      clear hok hs hv hbl hnn hS he co hvR hSz k0 k1 hK2 hk hsk hlast hend hEE hbn hhb hob hbb
      go_enter Tryd.func17, Tryd.ntmps17
      go_wp2_with (first
        | (go_at_call 26; refine CO.out.mono ?_; rintro e w3 ⟨rfl, hb3⟩; obtain ⟨w4, hw4, FX⟩ := AX.out w3 hb3; have FX := Lib.hid FX)
        | fail)
      have hB : Below w4.heap.size w4 w4.drew := Below.thenN (Below.refl _ _) 1
      obtain ⟨⟨p0, p1⟩, ⟨q0, q1, q2, q3⟩, _, _, hKK⟩ := FX.out _ hB
      have cs := SO.out _ hKK
      refine wp_region_still_tail 6 (by kernel_rfl) (by kernel_rfl) ?_
      simp only [List.take_succ_cons, List.take_zero, List.drop_succ_cons, List.drop_zero]
      repeat still_step
      still_call cs
      repeat still_step
      refine wpStill_nil ?_
      clear cs
      go_wp2_with (go_at_call 27; refine (WY.out _).mono ?_; rintro e w5 ⟨rfl, hb5⟩; have hB5 : Below w4.heap.size w4 w5 := Below.both hB hb5; clear p0 p1 q0 q1 q2 q3 hKK)
      go_cut [6] (fun s6 wc => ∃ g : Nat, s6 = .pointer (some ⟨g, 0, none⟩) ∧ Hid (CB wc g 31 #[.int .i64 k, .int .u64 (bn : Nat), .string S] ∧ Below w5.heap.size w5 wc))
      case first =>
        have h0 : Below w5.heap.size w5 w5.drew := Below.thenN (Below.refl _ _) 1
        have hAL : AL w5 (w5.alloc (.cells #[.int .i64 0, .int .u64 0, .string ⟨#[]⟩] 31)).drew w5.heap.size := (AL.new (Below.refl _ w5)).below (Below.thenN (Below.refl _ _) 1)
        have h0a := hAL.bl
        obtain ⟨z0', z1', z2', y0', y1', y2'⟩ := AL.cells hAL
        have SX : Hid (∀ W, Below w5.heap.size w5 W → W.cell? ⟨w3.heap.size, 1, none⟩ = some (.bool bl) ∧ W.cell? ⟨w3.heap.size, 2, none⟩ = some (.int .u64 (nn : Nat)) ∧ W.cell? ⟨w3.heap.size, 3, none⟩ = some (.string S)) := fun W hW => by
          obtain ⟨_, ⟨_, q1, q2, q3⟩, _⟩ := FX.out W (Below.both hB5 hW)
          exact ⟨q1, q2, q3⟩
        go_region_held3 (fun W => W.cell? ⟨w3.heap.size, 1, none⟩ = some (.bool bl) ∧ W.cell? ⟨w3.heap.size, 2, none⟩ = some (.int .u64 (nn : Nat)) ∧ W.cell? ⟨w3.heap.size, 3, none⟩ = some (.string S)) (first | (with_reducible refine SX.out _ ?_; first | (with_reducible assumption) | (with_reducible exact bl_alloc (by assumption) _) | (with_reducible exact (AL.set (by assumption) _ _ _).2)) | fail)
          (first
            | (go_at_call 29; (with_reducible refine (BX.out _).mono ?_); rintro e wb ⟨rfl, hbb⟩; have hBb : Below w5.heap.size w5 wb := Below.both (by first | (with_reducible assumption) | (with_reducible exact bl_alloc (by assumption) _)) hbb; have hSb := SX.out wb hBb; (first | (have hA := AL.below (AL.new (w5 := w5) (by assumption)) hbb; obtain ⟨z0, z1, z2, y0, y1, y2⟩ := AL.cells hA) | (have hA := AL.below (by assumption : AL w5 _ _) hbb; obtain ⟨z0, z1, z2, y0, y1, y2⟩ := AL.cells hA) | skip))
            | (go_at_call 30; (with_reducible refine (LX.out _).mono ?_); rintro e wl ⟨rfl, hbl⟩; have hBl : Below w5.heap.size w5 wl := Below.both (by first | (with_reducible assumption) | (with_reducible exact bl_alloc (by assumption) _)) hbl; have hSl := SX.out wl hBl; (first | (have hA := AL.below (AL.new (w5 := w5) (by assumption)) hbl; obtain ⟨z0, z1, z2, y0, y1, y2⟩ := AL.cells hA) | (have hA := AL.below (by assumption : AL w5 _ _) hbl; obtain ⟨z0, z1, z2, y0, y1, y2⟩ := AL.cells hA) | skip))
            | fail)
        all_goals
          go_wp2_with fail
          go_meet
          first
          | (exact ⟨_, rfl, AL.last (by assumption) _ _ _⟩)
          | (exact ⟨_, rfl, AL.set (by assumption) _ _ _⟩)
      case rest =>
        obtain ⟨g, rfl, hgx⟩ := hcut
        obtain ⟨hg, hbx⟩ := hgx
        have hBx : Below w4.heap.size w4 wc := Below.both hB5 hbx
        have GV : Hid (∀ W, Below wc.heap.size wc W → (W.cell? ⟨w.heap.size, 0, none⟩ = some (.pointer (some ⟨x, 0, none⟩)) ∧ W.cell? ⟨w.heap.size, 1, none⟩ = some (.int .i64 (r : Nat))) ∧ (W.cell? ⟨g, 0, none⟩ = some (.int .i64 k) ∧ W.cell? ⟨g, 1, none⟩ = some (.int .u64 (bn : Nat)) ∧ W.cell? ⟨g, 2, none⟩ = some (.string S)) ∧
            CB W (w.heap.size + 1) 31 #[.int .i64 0, .int .u64 0, .string ⟨#[]⟩] ∧ Below w.heap.size w W ∧ KSt W W) := fun W hW => by
          obtain ⟨a, _, b, c, d⟩ := FX.out W (Below.both hBx hW)
          have hgW := hg.below hW
          exact ⟨a, ⟨hgW.at_ 0, hgW.at_ 1, hgW.at_ 2⟩, b, c, d⟩
        obtain ⟨_, ⟨q0, q1, q2, q3⟩, _⟩ := FX.out wc hBx
        obtain ⟨⟨p0, p1⟩, ⟨g0, g1, g2⟩, h9, hz9, hkx⟩ := GV.out wc (Below.refl _ _)
        have cn := NX.out wc hkx
        clear hg hbx hB5 hb5 hB hBx
        cases hb with
        | false =>
          have he : EE = .panicked [faultV r 111] := HEE.out
          have HE9 := Lib.hid he
          clear he
          go_wp2_with (first
            | (go_at_call 31; refine cn.mono ?_; rintro e w6 ⟨rfl, hb6⟩; clear p0 p1 q0 q1 q2 q3 g0 g1 g2; obtain ⟨⟨p0, p1⟩, ⟨g0, g1, g2⟩, h9, hz9, hkx⟩ := GV.out w6 hb6)
            | (go_at_call 32; refine (GX.out w6).mono ?_; rintro e w7 ⟨rfl, hb7⟩; obtain ⟨_, _, _, hz, _⟩ := GV.out w7 (Below.both hb6 hb7))
            | fail)
          exact ⟨rfl, HE9.out.symm, hz⟩
        | true =>
          cases ob with
          | false =>
            have he : EE = .panicked [faultV r 111] := HEE.out
            have HE9 := Lib.hid he
            clear he
            go_wp2_with (first
              | (go_at_call 31; refine cn.mono ?_; rintro e w6 ⟨rfl, hb6⟩; clear p0 p1 q0 q1 q2 q3 g0 g1 g2; obtain ⟨⟨p0, p1⟩, ⟨g0, g1, g2⟩, h9, hz9, hkx⟩ := GV.out w6 hb6; have cv := VX.out w6 hkx)
              | (go_at_call 13; refine cv.mono ?_; rintro e w8 ⟨rfl, hb8⟩; clear p0 p1 g0 g1 g2; have hB8 := Below.both hb6 hb8; obtain ⟨⟨p0, p1⟩, ⟨g0, g1, g2⟩, h9, hz9, hkx⟩ := GV.out w8 hB8)
              | (go_at_call 32; refine (GX.out w8).mono ?_; rintro e w7 ⟨rfl, hb7⟩; obtain ⟨_, _, _, hz, _⟩ := GV.out w7 (Below.both hB8 hb7))
              | fail)
            exact ⟨rfl, HE9.out.symm, hz⟩
          | true =>
            have he : EE = .returned (.agg #[.int .i64 k, .int .u64 (bn : Nat), .string S]) := HEE.out
            have HE9 := Lib.hid he
            clear he
            go_wp2_with (first
              | (go_at_call 31; refine cn.mono ?_; rintro e w6 ⟨rfl, hb6⟩; clear p0 p1 q0 q1 q2 q3 g0 g1 g2; obtain ⟨⟨p0, p1⟩, ⟨g0, g1, g2⟩, h9, hz9, hkx⟩ := GV.out w6 hb6; have cv := VX.out w6 hkx)
              | (go_at_call 13; refine cv.mono ?_; rintro e w8 ⟨rfl, hb8⟩; clear p0 p1 g0 g1 g2; have hB8 := Below.both hb6 hb8; obtain ⟨⟨p0, p1⟩, ⟨g0, g1, g2⟩, h9, hz9, hkx⟩ := GV.out w8 hB8)
              | (refine wpList_store_cb rfl 31 (.tmp 4) (.tmp 36) rfl (w.heap.size + 1) _ #[.int .i64 k, .int .u64 (bn : Nat), .string S] rfl rfl h9 rfl (by kernel_rfl) (by kernel_rfl) ?_; intro w9 k9 t9)
              | fail)
            exact bodyPost_ret (results_cb rfl _ _ _ _ rfl k9 Tryd.underlying31 rfl (by kernel_rfl)) rfl ⟨HE9.out.symm, hz9.trans (t9.below (by omega))⟩
    · have hlast := lastV_no hk (t := t) (by rw [hs, hsk]; exact hq)
      have hend : endV r k (.ok t) = .panicked [faultV r 110] := by show endL r k (lastV t k) = _; rw [hlast]; rfl
      rw [hend]
      have hzz : (so == sk) = false := beq_eq_false_iff_ne.2 hq
      have WN : Hid (∀ W, Calls Tryd.prog 27 #[.agg #[.pointer (some ⟨x, 0, none⟩), .int .i64 (r : Nat)], .bool false] W fun q w' => q = .panicked [faultV r 110] ∧ Below W.heap.size W w') := fun W => want_no W x r
      clear hok hs hv hbl hnn hS he co hvR hSz k0 k1 hK2 hk hsk hlast hend hq
      go_enter Tryd.func17, Tryd.ntmps17
      go_wp2_with (first
        | (go_at_call 26; refine CO.out.mono ?_; rintro e w3 ⟨rfl, hb3⟩; obtain ⟨w4, hw4, FX⟩ := AX.out w3 hb3; have FX := Lib.hid FX)
        | fail)
      have hB : Below w4.heap.size w4 w4.drew := Below.thenN (Below.refl _ _) 1
      obtain ⟨⟨p0, p1⟩, ⟨q0, q1, q2, q3⟩, _, _, hKK⟩ := FX.out _ hB
      have cs := SO.out _ hKK
      refine wp_region_still_tail 6 (by kernel_rfl) (by kernel_rfl) ?_
      simp only [List.take_succ_cons, List.take_zero, List.drop_succ_cons, List.drop_zero]
      repeat still_step
      still_call cs
      repeat still_step
      refine wpStill_nil ?_
      go_wp2_with (go_at_call 27; refine (WN.out _).mono ?_; rintro e w5 ⟨rfl, hb5⟩; obtain ⟨_, _, _, hz, _⟩ := FX.out w5 (Below.both hB hb5))
      exact ⟨rfl, rfl, hz⟩
end Go.Proofs.YtmbiompmhaiehaaDoor
