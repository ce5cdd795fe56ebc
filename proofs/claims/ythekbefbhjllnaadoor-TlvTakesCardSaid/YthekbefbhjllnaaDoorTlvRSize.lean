/- The walks of the reference's payload, key, length, Check, Size. -/
import Derived.Test.YthekbefbhjllnaaDoorTlvCheck
import Derived.Test.YthekbefbhjllnaaDoorKindRValid
import Derived.Deep.RegionHeld3
namespace Go.Proofs.YthekbefbhjllnaaDoor
open Go.RowKit
open Go.Lib (byteCells uvarint)

theorem pay_bool {v : Val} (h : okV v = true) (hf : Fit v) (hk : v.k = 3) : pay v = [v.n.toNat.toUInt8] := by
  have h1 := ok_bool h hk
  have h0 := hf.1
  unfold pay pnum
  rw [hk, if_pos (by rfl), if_neg (by omega), Go.Lib.uvarint_small (by omega)]

set_option maxRecDepth 100000 in
set_option maxHeartbeats 1000000 in
theorem rpay_any (w : World) (v : Val) (hok : okV v = true) (hf : Fit v) :
    Calls Tryd.prog 35 #[.agg (vvC v)] w fun e w' => e = .returned (.int .i64 ((pay v).length : Nat)) ∧ Below w.heap.size w w' := by
  have hB : Below w.heap.size w (w.alloc (.cells (vvC v) 39)) := (Below.refl _ _).alloc (Nat.le_refl _) _
  have hk := ok_kind hok
  have hps := pay_size v
  have hpt := pay_text v
  have hpb := pay_bool hok hf
  have hpr := pnum_range hf
  have hws := wrap_sgn2 v.n hf.1 hf.2
  have hsr := sgn_range hf.1 hf.2
  have hn0 := hf.1
  have hn1 := hf.2
  have h5 : v.k = 1 ∨ v.k = 2 ∨ v.k = 3 ∨ v.k = 4 ∨ v.k = 5 := by omega
  obtain ⟨L, hL⟩ : ∃ L, (pay v).length = L := ⟨_, rfl⟩
  have hpb2 : v.k = 3 → L = 1 := fun q => by rw [← hL, hpb q]; rfl
  rw [hL] at hps hpt ⊢
  clear hpb hL hk
  rcases h5 with g | g | g | g | g
  · have h1 := hps (by rw [g]; rfl)
    unfold pnum at h1 hpr
    rw [if_neg (by omega)] at h1 hpr
    obtain ⟨k, n, s⟩ := v
    dsimp only at g h1 hn0 hn1
    obtain ⟨N, rfl⟩ := Int.eq_ofNat_of_zero_le hn0
    subst g
    have H1 := Lib.hid h1
    have hN : N ≤ 18446744073709551615 := by omega
    unfold vvC at hB ⊢
    dsimp only at hB ⊢
    clear hps hpt hpb2 hws hsr hpr h1 hok hf
    go_enter Tryd.func35, Tryd.ntmps35
    go_wp2_with (go_at_call 46; refine (rsize_any _ _ hN).mono ?_; rintro e w' ⟨rfl, rfl⟩)
    go_ret
    exact ⟨ret_int (by have := H1.out; simp at this; omega), hB⟩
  · have h1 := hps (by rw [g]; rfl)
    unfold pnum at h1 hpr
    rw [if_pos g] at h1 hpr
    obtain ⟨k, n, s⟩ := v
    dsimp only at g h1 hn0 hn1 hws hsr hpr
    have cz := fun W => rzig_any (sgn n) W hsr.1 hsr.2
    obtain ⟨S, hS⟩ : ∃ S, sgn n = S := ⟨_, rfl⟩
    rw [hS] at hws hsr h1 hpr
    simp only [hS] at cz
    obtain ⟨Z, hZ⟩ := Int.eq_ofNat_of_zero_le hpr.1
    rw [hZ] at h1 hpr
    simp only [hZ] at cz
    subst g
    have H1 := Lib.hid h1
    have hN : Z ≤ 18446744073709551615 := by omega
    unfold vvC at hB ⊢
    dsimp only at hB ⊢
    clear hps hpt hpb2 hpr h1 hok hf hS hZ
    go_enter Tryd.func35, Tryd.ntmps35
    go_wp2_with (first
      | (go_at_call 36; refine (cz _).mono ?_; rintro e w' ⟨rfl, rfl⟩)
      | (go_at_call 46; refine (rsize_any _ _ hN).mono ?_; rintro e w' ⟨rfl, rfl⟩))
    go_ret
    exact ⟨ret_int (by have := H1.out; simp at this; omega), hB⟩
  · have H1 := Lib.hid (hpb2 g)
    obtain ⟨k, n, s⟩ := v
    dsimp only at g
    subst g
    unfold vvC at hB ⊢
    dsimp only at hB ⊢
    clear hps hpt hpb2 hpr hok hf hws hsr
    go_enter Tryd.func35, Tryd.ntmps35
    go_wp2
    go_ret
    exact ⟨ret_int (by have := H1.out; omega), hB⟩
  all_goals
    have H1 := Lib.hid (hpt (by rw [g]; rfl))
    obtain ⟨k, n, s⟩ := v
    dsimp only at g H1
    subst g
    unfold vvC at hB ⊢
    dsimp only at hB ⊢
    clear hps hpt hpb2 hpr hok hf hws hsr
    go_enter Tryd.func35, Tryd.ntmps35
    go_wp2
    go_ret
    exact ⟨ret_int (by have := H1.out; omega), hB⟩

set_option maxRecDepth 100000 in
set_option maxHeartbeats 1000000 in
theorem rkey_any (w : World) (f : Fd) (t0 : 0 ≤ f.t) (t1 : f.t ≤ 65535) (k0 : 0 ≤ f.v.k) (k1 : f.v.k ≤ 5) :
    Calls Tryd.prog 34 #[.agg (ffC f)] w fun e w' => e = .returned (.int .u64 (keyF f)) ∧ Below w.heap.size w w' := by
  obtain ⟨t, k, n, s⟩ := f
  unfold ffC keyF
  dsimp only at t0 t1 k0 k1 ⊢
  go_enter Tryd.func34, Tryd.ntmps34
  go_wp2
  go_ret
  exact ⟨rfl, (Below.refl _ _).alloc (Nat.le_refl _) _⟩

/-- what the reference's length answers -/
def rlen (l : List Fd) : Nat := if 16777215 < (enc l).length then 16777216 else (enc l).length
theorem rlen_take {l : List Fd} {k : Nat} (h : 16777215 < (enc (l.take k)).length) : rlen l = 16777216 := by
  have h1 := enc_app (l.take k) (l.drop k)
  rw [List.take_append_drop] at h1
  have h2 := congrArg List.length h1
  rw [List.length_append] at h2
  unfold rlen; rw [if_pos (by omega)]

set_option maxRecDepth 100000 in
set_option maxHeartbeats 1000000 in
theorem rlen_any {w : World} {A : Option Addr} {l : List Fd} (c : Nat) (hA : FRow w w.heap.size A l) (hg : Good l) (hl : Light l) (hi : Is 0 l) :
    Calls Tryd.prog 31 #[.slice A l.length c] w fun e w' => e = .returned (.int .i64 (rlen l)) ∧ Below w.heap.size w w' := by
  obtain ⟨R, hR⟩ : ∃ R, rlen l = R := ⟨_, rfl⟩
  rw [hR]
  have HR := Lib.hid hR
  have HG := Lib.hid hg
  have hl0 := hl.len
  have HL := Lib.hid hl
  have HA := Lib.hid hA
  have HI := Lib.hid hi
  clear hR hg hl hA hi
  go_enter Tryd.func31, Tryd.ntmps31
  go_wp2
  go_loopw [3, 4] (fun n i wr => ∃ k z : Nat, n = .int .i64 z ∧ i = .int .i64 k ∧ k ≤ l.length ∧ z ≤ 16777215 ∧ Below w.heap.size w wr ∧ Hid (z = (enc (l.take k)).length)) (fun _ i _ => l.length - (intOf i).toNat)
  case atStart => exact ⟨0, 0, rfl, rfl, Nat.zero_le _, Nat.zero_le _, Below.refl _ _, by unfold Hid; rfl⟩
  case round =>
    obtain ⟨k, z, rfl, rfl, hk, hz, hB, HZ⟩ := hrel
    by_cases hlt : k < l.length
    · obtain ⟨f, hf⟩ : ∃ f, l[k]? = some f := ⟨l[k], List.getElem?_eq_getElem hlt⟩
      obtain ⟨g, o, rfl, hgB, hcs⟩ := (HA.out.below hB).at_ (by omega)
      obtain ⟨c0, c1, c2, c3⟩ := hcs k f hf
      obtain ⟨hfit, hsz⟩ := HG.out.at_ hf
      have hgr : g < wr.heap.size := by have := hB.size; omega
      clear hcs
      have his : Is 0 (l.take (k + 1)) := is_take (k + 1) HI.out
      have hsm := enc_small HG.out HL.out (k + 1) his
      rw [take_snoc hf] at his
      obtain ⟨i1, i2, _⟩ := is_snoc.1 his
      obtain ⟨t0, t1, k0, k1⟩ := can_key i2 (last_nn i1)
      have n3 : (enc (l.take (k + 1))).length = (enc (l.take k)).length + (fb f).length := by rw [take_snoc hf, enc_snoc, List.length_append]
      have hov := (can_parts i2).2.2
      have hfl := fb_length f
      have ck := fun (W : World) => rkey_any W f t0 t1 k0 k1
      have cp := fun (W : World) => rpay_any W f.v hov hfit
      have hk0 : 0 ≤ keyF f := by unfold keyF; omega
      have hk1 : keyF f ≤ 18446744073709551615 := by unfold keyF; omega
      obtain ⟨K, hK⟩ := Int.eq_ofNat_of_zero_le hk0
      rw [hK] at hfl hk1
      simp only [hK] at ck
      have hK2 : K ≤ 18446744073709551615 := by omega
      have v1 := vsz_le (x := K) (by omega)
      have hpy := pay_small hfit (Nat.le_trans (texts_mem (List.mem_of_getElem? hf)) HL.out.txt)
      obtain ⟨L, hL⟩ : ∃ L, (pay f.v).length = L := ⟨_, rfl⟩
      rw [hL] at hfl hpy
      simp only [hL] at cp
      have v2 := vsz_le (x := L) (by omega)
      rw [Int.toNat_natCast] at hfl
      rw [n3, ← HZ.out, hfl] at hsm
      rw [hfl, ← HZ.out] at n3
      obtain ⟨SK, hSK⟩ : ∃ s, vsz K = s := ⟨_, rfl⟩
      obtain ⟨SL, hSL⟩ : ∃ s, vsz L = s := ⟨_, rfl⟩
      have csk := fun (W : World) => rsize_any K W hK2
      have csl := fun (W : World) => rsize_any L W (by omega)
      rw [hSK, hSL] at hsm n3
      rw [hSK] at v1
      rw [hSL] at v2
      simp only [hSK] at csk
      simp only [hSL] at csl
      have HN := Lib.hid n3
      by_cases hlong : 16777215 < z + (SK + SL + L)
      · have HQ : Hid (R = 16777216) := HR.out.symm.trans (rlen_take (k := k + 1) (by rw [n3]; exact hlong))
        have hlz : (16777215 : Int) < (z : Int) + (SK : Int) + (SL : Int) + (L : Int) := by omega
        clear his i1 i2 t0 t1 k0 k1 n3 hov hfl hK hk0 hk1 hL hSK hSL hfit hsz hf hlong
        obtain ⟨t, v⟩ := f
        obtain ⟨vk, vn, vs⟩ := v
        unfold ffC vvC at *
        dsimp only at c0 c1 c2 c3 ck cp
        go_wp2_with (go_at_call 35; refine (cp _).mono ?_; rintro e w1 ⟨rfl, hb1⟩; obtain ⟨hc1, _⟩ := Below.cells hb1)
        go_wp2_with (go_at_call 34; refine (ck _).mono ?_; rintro e w2 ⟨rfl, hb2⟩)
        go_wp2_with (go_at_call 46; with_reducible refine (csk _).mono ?_; rintro e w3 ⟨rfl, rfl⟩)
        go_wp2_with (go_at_call 46; refine (csl _).mono ?_; rintro e w3 ⟨rfl, rfl⟩)
        go_ret
        exact ⟨ret_int (by have := HQ.out; omega), hB.trans ((Below.both hb1 hb2).mono hB.size)⟩
      · have hlz : ¬ ((16777215 : Int) < (z : Int) + (SK : Int) + (SL : Int) + (L : Int)) := by omega
        clear his i1 i2 t0 t1 k0 k1 n3 hov hfl hK hk0 hk1 hL hSK hSL hfit hsz hf
        obtain ⟨t, v⟩ := f
        obtain ⟨vk, vn, vs⟩ := v
        unfold ffC vvC at *
        dsimp only at c0 c1 c2 c3 ck cp
        go_wp2_with (go_at_call 35; refine (cp _).mono ?_; rintro e w1 ⟨rfl, hb1⟩; obtain ⟨hc1, _⟩ := Below.cells hb1)
        go_wp2_with (go_at_call 34; refine (ck _).mono ?_; rintro e w2 ⟨rfl, hb2⟩)
        go_wp2_with (go_at_call 46; with_reducible refine (csk _).mono ?_; rintro e w3 ⟨rfl, rfl⟩)
        go_wp2_with (go_at_call 46; refine (csl _).mono ?_; rintro e w3 ⟨rfl, rfl⟩)
        go_roundw
        case rel => exact ⟨k + 1, z + (SK + SL + L), by go_num, by go_num, by omega, by omega, hB.trans ((Below.both hb1 hb2).mono hB.size), HN.out.symm⟩
        case measure => simp [intOf]; omega
    · obtain rfl : k = l.length := by omega
      have HQ : Hid (R = z) := by
        have h1 := HZ.out
        rw [List.take_length] at h1
        have h2 := HR.out
        unfold rlen at h2
        rw [if_neg (by omega)] at h2
        unfold Hid
        omega
      go_wp2
      go_ret
      exact ⟨ret_int (by have := HQ.out; omega), hB⟩
end Go.Proofs.YthekbefbhjllnaaDoor
