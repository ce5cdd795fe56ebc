/- The walk of the code: texts put together. -/
import Derived.Test.YtpgljmkemmikhaaDoorExCatM
import Derived.RegionDies
namespace Go.Proofs.YtpgljmkemmikhaaDoor
open Go.RowKit

/-- what stands in every round -/
structure Cf (w w3 W : World) (x gk : Nat) (roots : List Nat) (L : List UInt8) : Prop where
  bl : Below (w.heap.size + 1 + 1) w3 W
  kr : KR W gk x roots
  bf : Bf (w.heap.size + 1 + 1) L W

theorem Cf.then_ {w w3 W W' : World} {x gk : Nat} {roots : List Nat} {L : List UInt8} (h : Cf w w3 W x gk roots L) (hb : Below W.heap.size W W') : Cf w w3 W' x gk roots L :=
  ⟨h.bl.trans (hb.mono (Nat.le_of_lt h.bf.len)), h.kr.keep (hb.block gk h.kr.len), h.bf.then_ hb⟩
theorem Cf.write {w w3 W W' : World} {x gk : Nat} {roots : List Nat} {L L' : List UInt8} (h : Cf w w3 W x gk roots L) (hg : gk ≠ (w.heap.size + 1 + 1)) (h1 : Bf (w.heap.size + 1 + 1) L' W') (h2 : Below (w.heap.size + 1 + 1) W W') (h3 : Lib.OthersKept 5 (some (w.heap.size + 1 + 1)) W W') : Cf w w3 W' x gk roots L' :=
  ⟨h.bl.trans h2, kr_kept h.kr h3 hg, h1⟩
theorem isT_sort (t : Th) : t.isT = (t.sort == 2) := by cases t <;> rfl

set_option maxRecDepth 100000 in
set_option maxHeartbeats 8000000 in
theorem cat_any {w : World} {x f d : Nat} {A : Option Addr} {c : Nat} {N : List Rn} {F D : List Nat} {r k : Nat} {P : List Pe} (IH : ∀ r', r' < r → RecC x f d A c N F D r') (hE : Ex w x f d A c N F D) (hP : pileP N r = some P) (hk : k ≤ P.length) (h1 : 1 ≤ k) (hF : F[r]? = some (bottom r (P.take k))) (hr : r < N.length) :
    Calls Tryd.prog 66 #[.agg #[.pointer (some ⟨x, 0, none⟩), .int .i64 (r : Nat)]] w fun e w' => e = catEnd r (kidRes N P k) ∧ Below w.heap.size w w' := by
  obtain ⟨w3, hw3, b3, s3, k0, k1, k2⟩ := cat_start w x r
  have c0 : w3.cell? ⟨w.heap.size, 0, none⟩ = some (.pointer (some ⟨x, 0, none⟩)) := k0.at_ 0
  have c1 : w3.cell? ⟨w.heap.size, 1, none⟩ = some (.int .i64 (r : Nat)) := k0.at_ 1
  have hkb : k ≤ 2932031007402 := by have := chain_len P r (pile_chain r P hP); have := hE.few; omega
  have hrl : (kidRoots P k).length = k := by unfold kidRoots; rw [List.length_reverse, List.length_map, List.length_take]; omega
  have hrr : ∀ q ∈ kidRoots P k, q < r := by
    intro q hq
    unfold kidRoots at hq
    obtain ⟨e, he, rfl⟩ := List.mem_map.1 (List.mem_reverse.1 hq)
    exact (pile_mem r P hP e (List.mem_of_mem_take he)).1
  have hkr : kidRes N P k = (kidRoots P k).map (resAt N) := by
    unfold kidRes kidRoots
    rw [List.map_reverse, List.map_map]
    rfl
  rw [hkr]
  have hok : ∀ j t, resAt N j = .ok t → t.Ok := fun j t ht => res_ok (fun y hy => (hE.num y hy).1) ht
  -- the kids
  have CK : Hid (Calls Tryd.prog 86 #[.agg #[.pointer (some ⟨x, 0, none⟩), .int .i64 (r : Nat)]] w3 fun e w4 => ∃ gk ck, e = .returned (.slice (some ⟨gk, 0, none⟩) k ck) ∧ Hid (Cf w w3 w4 x gk (kidRoots P k) [] ∧ gk ≠ (w.heap.size + 1 + 1))) := by
    have q := pkids_any ((hE.below b3).xb) hE.kn hP hk hF hr hE.few
    refine q.mono ?_
    rintro e w4 ⟨Ak, ck, he, hb, h⟩
    rcases h with h | ⟨gk, rfl, hg, hkr⟩
    · omega
    · exact ⟨gk, ck, he, ⟨hb.mono (by omega), hkr, k2.then_ hb⟩, by omega⟩
  generalize kidRoots P k = roots at CK hrl hrr hkr ⊢
  obtain ⟨EE, hEE⟩ : ∃ EE, catEnd r (roots.map (resAt N)) = EE := ⟨_, rfl⟩
  rw [hEE]
  have HEE := Lib.hid hEE
  clear hEE
  have FX : Hid (∀ W, Below (w.heap.size + 1 + 1) w3 W → (W.cell? ⟨w.heap.size, 0, none⟩ = some (.pointer (some ⟨x, 0, none⟩)) ∧ W.cell? ⟨w.heap.size, 1, none⟩ = some (.int .i64 (r : Nat))) ∧ CB W (w.heap.size + 1) 75 #[.int .i64 0, .bool false, .int .u64 0, .string ⟨#[]⟩] ∧ Below w.heap.size w W ∧ Ex W x f d A c N F D ∧ w.heap.size + 3 ≤ W.heap.size) := fun W hW => by
    have hb : Below w.heap.size w W := b3.trans (hW.mono (by omega))
    have a0 := k0.keep (hW.block _ (by omega))
    have a1 := k1.keep (hW.block _ (by omega))
    exact ⟨⟨a0.at_ 0, a0.at_ 1⟩, a1, hb, hE.below hb, by have := hW.size; omega⟩
  have HIH := Lib.hid IH
  have HRR := Lib.hid hrr
  have HOK := Lib.hid hok
  have HRL := Lib.hid hrl
  clear IH hE hP hF hr hk k0 k1 k2 hkr hrr hok hrl b3
  go_enter Tryd.func66, Tryd.ntmps66
  go_wp2_with (go_at_call 86; refine CK.out.mono ?_; rintro e w4 ⟨gk, ck, rfl, H4⟩)
  have hgb := H4.out.2
  clear CK c0 c1
  go_loopw [4, 11] (fun u v wr => ∃ (i : Nat) (tb : Bool), u = .bool tb ∧ v = .int .i64 i ∧ i ≤ k ∧ Hid (∃ ts : List Th, ts.length = i ∧ (roots.map (resAt N)).take i = ts.map .ok ∧ tb = ts.all Th.isT ∧ (∀ t ∈ ts, t.Ok) ∧ Cf w w3 wr x gk roots (greedy (ts.map Th.s) []))) (fun _ v _ => k - (intOf v).toNat)
  case atStart => exact ⟨0, true, rfl, rfl, Nat.zero_le _, [], rfl, rfl, rfl, nofun, H4.out.1⟩
  case round =>
    clear H4
    obtain ⟨i, tb, rfl, rfl, hik, HF⟩ := hrel
    obtain ⟨ts, htl, htk, htb, hto, hC⟩ := HF.out
    have HC := Lib.hid hC
    obtain ⟨⟨d0, d1⟩, hres, _, _, hsz⟩ := FX.out wr hC.bl
    clear HF hres
    by_cases hlt : i < k
    · have hiz : (i : Int) < (k : Int) := by omega
      have hi0 : (0 : Int) ≤ (i : Int) := by omega
      obtain ⟨q, hq⟩ : ∃ q, roots[i]? = some q := ⟨_, List.getElem?_eq_getElem (by rw [HRL.out]; exact hlt)⟩
      have hqr := HRR.out q (List.mem_of_getElem? hq)
      obtain ⟨q1, q2, _, _⟩ := hC.kr.at_ (j := i) (by rw [HRL.out]; exact hlt)
      rw [(List.getElem?_eq_some_iff.1 hq).2] at q2
      have hri : (roots.map (resAt N))[i]? = some (resAt N q) := by rw [List.getElem?_map, hq]; rfl
      have hb5 : Below wr.heap.size wr (wr.alloc (.cells #[.pointer (some ⟨x, 0, none⟩), .int .i64 (q : Nat)] 52)) := (Below.refl _ wr).alloc (Nat.le_refl _) _
      obtain ⟨w5, hw5⟩ : ∃ w5, wr.alloc (.cells #[.pointer (some ⟨x, 0, none⟩), .int .i64 (q : Nat)] 52) = w5 := ⟨_, rfl⟩
      have hn5 : CB w5 wr.heap.size 52 #[.pointer (some ⟨x, 0, none⟩), .int .i64 (q : Nat)] := by rw [← hw5]; exact CB.new wr _ _
      rw [hw5] at hb5
      have e0 : w5.cell? ⟨wr.heap.size, 0, none⟩ = some (.pointer (some ⟨x, 0, none⟩)) := hn5.at_ 0
      have e1 : w5.cell? ⟨wr.heap.size, 1, none⟩ = some (.int .i64 (q : Nat)) := hn5.at_ 1
      have hB5 : Below (w.heap.size + 1 + 1) w3 w5 := hC.bl.trans (hb5.mono (by omega))
      have CR : Hid (Calls Tryd.prog 40 #[.agg #[.pointer (some ⟨x, 0, none⟩), .int .i64 (q : Nat)]] w5 fun e w6 => e = endR (resAt N q) ∧ Below w5.heap.size w5 w6) := HIH.out q hqr (FX.out w5 hB5).2.2.2.1
      clear hn5 hq hqr hC
      cases hz : resAt N q with
      | error z =>
        obtain ⟨za, ze⟩ := z
        rw [hz] at CR hri
        have he : endR (.error (za, ze)) = .panicked [faultV za ze] := rfl
        rw [he] at CR
        have hce : catEnd r (roots.map (resAt N)) = .panicked [faultV za ze] := catEnd_err htk hri
        have HCE := Lib.hid (hce.symm.trans HEE.out)
        clear he hce hz hri htk htl htb hto
        go_wp2_with (go_at_call 40; refine CR.out.mono ?_; rintro e w6 ⟨rfl, hb6⟩)
        exact ⟨rfl, HCE.out, (FX.out w6 (hB5.trans (hb6.mono (by have := hb5.size; omega)))).2.2.1⟩
      | ok t =>
        rw [hz] at CR hri
        have htO : t.Ok := HOK.out q t hz
        obtain ⟨so, hs⟩ : ∃ so, t.sort = so := ⟨_, rfl⟩
        obtain ⟨bl, hbl⟩ : ∃ bl, decide (t.n < 0) = bl := ⟨_, rfl⟩
        obtain ⟨nn, hnn⟩ : ∃ nn, t.n.natAbs = nn := ⟨_, rfl⟩
        obtain ⟨S, hS⟩ : ∃ S, str t.s = S := ⟨_, rfl⟩
        have he : endR (.ok t) = .returned (.agg #[.int .i64 so, .bool bl, .int .u64 (nn : Nat), .string S]) := by rw [← hs, ← hbl, ← hnn, ← hS]; rfl
        rw [he] at CR
        obtain ⟨sb, hsb⟩ : ∃ sb, (so == 2) = sb := ⟨_, rfl⟩
        have hit : t.isT = sb := by rw [isT_sort, hs, hsb]
        have hls : ls S = t.s := by rw [← hS]; exact ls_str _
        have hSz : S.size = t.s.length := by rw [← hS]; exact str_size _
        have htl2 : t.s.length ≤ 4096 := by
          cases t with
          | num v => exact Nat.zero_le _
          | truth v => exact Nat.zero_le _
          | text v => exact htO
          | bytes v => exact htO
        obtain ⟨L, hL⟩ : ∃ L, greedy (ts.map Th.s) [] = L := ⟨_, rfl⟩
        have hLz : L.length ≤ 8192 := by
          rw [← hL]
          refine greedy_le _ _ (Nat.zero_le _) fun s hs => ?_
          obtain ⟨t', ht', rfl⟩ := List.mem_map.1 hs
          have := hto t' ht'
          cases t' with
          | num v => exact Nat.zero_le _
          | truth v => exact Nat.zero_le _
          | text v => exact this
          | bytes v => exact this
        have hL' : greedy ((ts ++ [t]).map Th.s) [] = if L.length ≤ 4096 then L ++ t.s else L := by rw [List.map_append]; show greedy (ts.map Th.s ++ [t.s]) [] = _; rw [greedy_snoc, hL]
        have hC0 := HC.out
        rw [hL] at hC0
        have hC5 : Cf w w3 w5 x gk roots L := hC0.then_ hb5
        -- what stands behind the kid's reckoning
        have AX : Hid (∀ w6, Below w5.heap.size w5 w6 → ∃ w7, w6.alloc (.cells #[.int .i64 so, .bool bl, .int .u64 (nn : Nat), .string S] 75) = w7 ∧ (w7.cell? ⟨w6.heap.size, 0, none⟩ = some (.int .i64 so) ∧ w7.cell? ⟨w6.heap.size, 3, none⟩ = some (.string S)) ∧ Hid (Cf w w3 w7 x gk roots L) ∧
            Hid (Calls Tryd.prog 89 #[.pointer (some ⟨(w.heap.size + 1 + 1), 0, none⟩)] w7 fun e w' => e = .returned (.int .i64 (L.length : Nat)) ∧ w7 = w') ∧
            Hid (Calls Tryd.prog 90 #[.pointer (some ⟨(w.heap.size + 1 + 1), 0, none⟩), .string S] w7 fun e w8 => e = .returned (.tuple #[.int .i64 S.size, .nilIface]) ∧ Hid (Cf w w3 w8 x gk roots (L ++ t.s)))) := fun w6 h6 => by
          have hb7 : Below w6.heap.size w6 (w6.alloc (.cells #[.int .i64 so, .bool bl, .int .u64 (nn : Nat), .string S] 75)) := (Below.refl _ w6).alloc (Nat.le_refl _) _
          have hn7 := CB.new w6 75 #[.int .i64 so, .bool bl, .int .u64 (nn : Nat), .string S]
          have hC7 := (hC5.then_ h6).then_ hb7
          refine ⟨_, rfl, ⟨hn7.at_ 0, hn7.at_ 3⟩, hC7, ?_, ?_⟩
          · exact hC7.bf.size.mono fun e w' h => ⟨h.1, h.2.symm⟩
          · refine (hC7.bf.write S (by omega) (L ++ t.s) (by rw [hls])).mono ?_
            rintro e w8 ⟨he, g1, g2, g3⟩
            exact ⟨he, hC7.write hgb g1 g2 g3⟩
        have NX : Hid (∀ W, Cf w w3 W x gk roots (if L.length ≤ 4096 then L ++ t.s else L) → ∃ ts' : List Th, ts'.length = i + 1 ∧ (roots.map (resAt N)).take (i + 1) = ts'.map .ok ∧ (tb && sb) = ts'.all Th.isT ∧ (∀ t ∈ ts', t.Ok) ∧ Cf w w3 W x gk roots (greedy (ts'.map Th.s) [])) := fun W hW => by
          refine ⟨ts ++ [t], by simp [htl], take_succ_ok htk hri, ?_, fun t' ht' => ?_, by rw [hL']; exact hW⟩
          · rw [List.all_append, htb]
            simp [hit]
          · rcases List.mem_append.1 ht' with h | h
            · exact hto t' h
            · rw [List.mem_singleton.1 h]; exact htO
        clear htk hri htb hto htO hs hbl hnn hS he hit hls hSz htl2 hL hL' hC0 hC5 hz htl HC
        by_cases hle : L.length ≤ 4096
        · have hlz : (L.length : Int) ≤ 4096 := by omega
          have hlz' : decide ((L.length : Int) ≤ 4096) = true := decide_eq_true hlz
          rw [if_pos hle] at NX
          clear hle hLz
          cases tb
          all_goals
            go_wp2_with (first
              | (go_at_call 40; refine CR.out.mono ?_; rintro e w6 ⟨rfl, hb6⟩; obtain ⟨w7, hw7, ⟨m0, m3⟩, H7, CL, CW⟩ := AX.out w6 hb6)
              | (go_at_call 89; refine CL.out.mono ?_; rintro e w9 ⟨rfl, rfl⟩)
              | (go_at_call 90; refine CW.out.mono ?_; rintro e w8 ⟨rfl, H8⟩)
              | fail)
            have NN := NX.out w8 H8.out
            go_roundw
            case rel => exact ⟨i + 1, _, rfl, by go_num, by omega, NN⟩
            case measure => simp [intOf]; omega
        · have hlz : ¬ (L.length : Int) ≤ 4096 := by omega
          have hlz' : decide ((L.length : Int) ≤ 4096) = false := decide_eq_false hlz
          rw [if_neg hle] at NX
          clear hle hLz
          cases tb
          all_goals
            go_wp2_with (first
              | (go_at_call 40; refine CR.out.mono ?_; rintro e w6 ⟨rfl, hb6⟩; obtain ⟨w7, hw7, ⟨m0, m3⟩, H7, CL, CW⟩ := AX.out w6 hb6)
              | (go_at_call 89; refine CL.out.mono ?_; rintro e w9 ⟨rfl, rfl⟩)
              | fail)
            have NN := NX.out _ H7.out
            go_roundw
            case rel => exact ⟨i + 1, _, rfl, by go_num, by omega, NN⟩
            case measure => simp [intOf]; omega
    · obtain rfl : i = k := by omega
      have hiz : ¬ (i : Int) < (i : Int) := by omega
      have hrs : roots.map (resAt N) = ts.map .ok := by
        rw [← htk, List.take_of_length_le (by rw [List.length_map, HRL.out]; omega)]
      have hce : catEnd r (roots.map (resAt N)) = endO r (if tb then textE (greedy (ts.map Th.s) []) else .error 110) := by rw [catEnd_ok hrs, htb]
      obtain ⟨L, hL⟩ : ∃ L, greedy (ts.map Th.s) [] = L := ⟨_, rfl⟩
      have hLz : L.length ≤ 8192 := by
        rw [← hL]
        refine greedy_le _ _ (Nat.zero_le _) fun s hs => ?_
        obtain ⟨t', ht', rfl⟩ := List.mem_map.1 hs
        have := hto t' ht'
        cases t' with
        | num v => exact Nat.zero_le _
        | truth v => exact Nat.zero_le _
        | text v => exact this
        | bytes v => exact this
      rw [hL] at hce
      have hC0 := HC.out
      rw [hL] at hC0
      have hBw := hC0.bf.len
      clear HC hC
      cases tb with
      | false =>
        have hce2 : EE = .panicked [faultV r 110] := by rw [← HEE.out, hce]; rfl
        have WN : Hid (Calls Tryd.prog 41 #[.agg #[.pointer (some ⟨x, 0, none⟩), .int .i64 (r : Nat)], .bool false] wr fun q w' => q = .panicked [faultV r 110] ∧ Hid (Below w.heap.size w w')) := (want_no wr x r).mono fun q w' h => ⟨h.1, (FX.out w' (hC0.bl.trans (h.2.mono (by omega)))).2.2.1⟩
        have HCE := Lib.hid hce2
        clear hce hce2 hrs htb hto htl htk hL hLz hC0
        go_wp2_with (go_at_call 41; refine WN.out.mono ?_; rintro e w5 ⟨rfl, H5⟩)
        exact ⟨rfl, HCE.out.symm, H5.out⟩
      | true =>
        have WY : Hid (Calls Tryd.prog 41 #[.agg #[.pointer (some ⟨x, 0, none⟩), .int .i64 (r : Nat)], .bool true] wr fun q w' => q = .returned (.tuple #[]) ∧ Hid (Below (w.heap.size + 1 + 1) w3 w' ∧ Bf (w.heap.size + 1 + 1) L w')) := (want_yes wr x r).mono fun q w' h => ⟨h.1, hC0.bl.trans (h.2.mono (by omega)), hC0.bf.then_ h.2⟩
        have OX : Hid (∀ W, Bf (w.heap.size + 1 + 1) L W → Calls Tryd.prog 91 #[.pointer (some ⟨(w.heap.size + 1 + 1), 0, none⟩)] W fun e w' => e = .returned (.string (str L)) ∧ Below (w.heap.size + 1 + 1) W w') := fun W h => h.out
        have TX : Hid (∀ W, Calls Tryd.prog 59 #[.agg #[.pointer (some ⟨x, 0, none⟩), .int .i64 (r : Nat)], .string (str L)] W fun e w' => e = endO r (textE L) ∧ Below W.heap.size W w') := fun W => textOf_any W x r L (by omega)
        have hce2 : EE = endO r (textE L) := by rw [← HEE.out, hce]; rfl
        obtain ⟨J, hJ⟩ : ∃ J, str L = J := ⟨_, rfl⟩
        obtain ⟨R, hR⟩ : ∃ R, textE L = R := ⟨_, rfl⟩
        rw [hJ] at OX TX
        rw [hR] at TX hce2
        have HCE := Lib.hid hce2
        clear hce hce2 hrs htb hto htl htk hL hLz hC0 hJ hR
        go_wp2_with (first
          | (go_at_call 41; refine WY.out.mono ?_; rintro e w5 ⟨rfl, H5⟩)
          | fail)
        have hB : Below w5.heap.size w5 w5.drew := Below.thenN (Below.refl _ _) 1
        have hl5 := H5.out.2.len
        have SX : Hid (∀ W, Below (w.heap.size + 1 + 1) w5 W → W.cell? ⟨w.heap.size, 0, none⟩ = some (.pointer (some ⟨x, 0, none⟩)) ∧ W.cell? ⟨w.heap.size, 1, none⟩ = some (.int .i64 (r : Nat))) := fun W hW => (FX.out W (H5.out.1.trans hW)).1
        have hBm : Below (w.heap.size + 1 + 1) w5 w5.drew := hB.mono (by omega)
        obtain ⟨a0, a1⟩ := SX.out _ hBm
        have hOX := OX.out w5.drew (H5.out.2.then_ hB)
        clear d0 d1
        cases R with
        | error ze =>
          have he : endO r (.error ze) = .panicked [faultV r ze] := rfl
          rw [he] at TX HCE
          clear he
          go_region_dies
          all_goals
            refine hOX.mono ?_
            rintro e w6 ⟨rfl, hb6'⟩
            rename_i K hK
            have hb6 := hBm.trans hb6'
            obtain ⟨l0, l1⟩ := SX.out w6 hb6
            refine hK _ _ ?_
            clear hK K
            try
              refine wpAny_ready (rs := [0]) (by decide +kernel) (by simp) ?_
              refine AllReady.cons rfl (fun K2 hK2 => ?_) AllReady.nil
              go_simp
              refine hK2 _ _ ?_
              clear hK2 K2
            refine wpAny_ready (rs := [2]) (by decide +kernel) (by simp) ?_
            refine AllReady.cons rfl (fun K2 hK2 => ?_) AllReady.nil
            go_simp
            refine (TX.out _).mono ?_
            rintro e w7 ⟨rfl, hb7⟩
            have hs6 := hb6.size
            exact ⟨rfl, HCE.out.symm, (FX.out w7 (H5.out.1.trans (Below.trans hb6 (hb7.mono (by omega))))).2.2.1⟩
        | ok t =>
          obtain ⟨so9, bl9, nn9, S9, hth⟩ := thC_four t
          have he : endO r (.ok t) = .returned (.agg #[.int .i64 so9, .bool bl9, .int .u64 (nn9 : Nat), .string S9]) := by rw [← hth]; rfl
          rw [he] at TX HCE
          clear he hth
          have KX : Hid (∀ W, Below (w.heap.size + 1 + 1) w5 W → (W.cell? ⟨w.heap.size + 1, 0, none⟩ = some (.int .i64 0) ∧ W.cell? ⟨w.heap.size + 1, 1, none⟩ = some (.bool false) ∧ W.cell? ⟨w.heap.size + 1, 2, none⟩ = some (.int .u64 0) ∧ W.cell? ⟨w.heap.size + 1, 3, none⟩ = some (.string ⟨#[]⟩)) ∧ (W.frozen? ⟨w.heap.size + 1, 0, none⟩ = false ∧ W.frozen? ⟨w.heap.size + 1, 1, none⟩ = false ∧ W.frozen? ⟨w.heap.size + 1, 2, none⟩ = false ∧ W.frozen? ⟨w.heap.size + 1, 3, none⟩ = false) ∧
              Hid (CB (set4 W (w.heap.size + 1) (.int .i64 so9) (.bool bl9) (.int .u64 (nn9 : Nat)) (.string S9)) (w.heap.size + 1) 75 #[.int .i64 so9, .bool bl9, .int .u64 (nn9 : Nat), .string S9] ∧ Below w.heap.size w (set4 W (w.heap.size + 1) (.int .i64 so9) (.bool bl9) (.int .u64 (nn9 : Nat)) (.string S9)))) := fun W hW => by
            obtain ⟨_, h9, hz, _⟩ := FX.out W (H5.out.1.trans hW)
            refine ⟨⟨h9.at_ 0, h9.at_ 1, h9.at_ 2, h9.at_ 3⟩, ⟨h9.frozen 0, h9.frozen 1, h9.frozen 2, h9.frozen 3⟩, ?_⟩
            have q := set4_eq W (w.heap.size + 1) (.int .i64 so9) (.bool bl9) (.int .u64 (nn9 : Nat)) (.string S9)
            have k9 := h9.store (cs := #[.int .i64 so9, .bool bl9, .int .u64 (nn9 : Nat), .string S9]) rfl
            have t9 : Turned (w.heap.size + 1) W (W.setCells (w.heap.size + 1) 0 (#[.int .i64 so9, .bool bl9, .int .u64 (nn9 : Nat), .string S9] : Array Value).toList) := Turned.setCells _ _ _ (Turned.refl _ W)
            rw [q] at k9 t9
            exact ⟨k9, hz.trans (t9.below (by omega))⟩
          go_region_with (first
              | (go_at_call 91; (with_reducible refine hOX.mono ?_); rintro e w6 ⟨rfl, hb6'⟩; have hb6 := hBm.trans hb6'; obtain ⟨l0, l1⟩ := SX.out w6 hb6)
              | (go_at_call 59; (with_reducible refine (TX.out _).mono ?_); rintro e w7 ⟨rfl, hb7⟩; have hB7 : Below (w.heap.size + 1 + 1) w5 w7 := Below.trans hb6 (hb7.mono (by have := hb6.size; omega)); obtain ⟨⟨m0, m1, m2, m3⟩, ⟨f0, f1, f2, f3⟩, H7⟩ := KX.out _ hB7)
              | fail)
          all_goals
            go_wp2
            exact bodyPost_ret (results_cb rfl _ _ _ _ rfl H7.out.1 Tryd.underlying75 rfl (by kernel_rfl)) rfl ⟨HCE.out.symm, H7.out.2⟩
end Go.Proofs.YtpgljmkemmikhaaDoor
