/- The walks of the code: a number. -/
import Derived.Test.YtggonhciakfabaaDoorLexCodeN
namespace Go.Proofs.YtggonhciakfabaaDoor
open Go.RowKit

/-- the number that digits spell behind a number -/
def numA (x : Nat) (l : List UInt8) : Nat := l.foldl (fun x c => x * 10 + (c.toNat - 48)) x
theorem numA_ge (l : List UInt8) : ∀ x, x ≤ numA x l := by
  induction l with
  | nil => exact fun x => Nat.le_refl _
  | cons c r ih => exact fun x => Nat.le_trans (by omega) (ih (x * 10 + (c.toNat - 48)))
theorem parse_num (l : List UInt8) : ∀ x, x ≤ 18446744073709551615 → l.all isD = true → Lib.parseUintM 18446744073709551615 x l = if 18446744073709551615 < numA x l then .range else .ok (numA x l) := by
  induction l with
  | nil => intro x hx _; rw [if_neg (by show ¬ _ < x; omega)]; rfl
  | cons c r ih =>
    intro x hx hl
    rw [List.all_cons, Bool.and_eq_true] at hl
    have hc : 48 ≤ c.toNat ∧ c.toNat ≤ 57 := by have := hl.1; unfold isD at this; exact of_decide_eq_true this
    have hg := numA_ge r (x * 10 + (c.toNat - 48))
    have e : numA x (c :: r) = numA (x * 10 + (c.toNat - 48)) r := rfl
    unfold Lib.parseUintM
    rw [if_pos hc, e]
    by_cases h1 : 1844674407370955162 ≤ x
    · rw [if_pos h1, if_pos (by omega)]
    · rw [if_neg h1]
      by_cases h2 : 18446744073709551615 < x * 10 + (c.toNat - 48)
      · rw [if_pos h2, if_pos (by omega)]
      · rw [if_neg h2, ih _ (by omega) hl.2]
theorem all_takeWhile (p : UInt8 → Bool) (l : List UInt8) : (l.takeWhile p).all p = true := by
  induction l with
  | nil => rfl
  | cons c r ih =>
    rw [List.takeWhile_cons]
    by_cases h : p c = true
    · rw [if_pos h, List.all_cons, h, ih]; rfl
    · rw [if_neg h]; rfl
theorem take_numN (l : List UInt8) : l.take (numN l) = l.takeWhile isD := by
  unfold numN
  exact (List.prefix_iff_eq_take.1 (List.takeWhile_prefix isD)).symm
theorem parse_digits (l : List UInt8) (h : 1 ≤ numN l) : Lib.parseUintB 64 (l.take (numN l)) = if 18446744073709551615 < numV (l.take (numN l)) then .range else .ok (numV (l.take (numN l))) := by
  have hne : l.take (numN l) ≠ [] := fun e => by
    rw [take_numN] at e
    unfold numN at h
    rw [e] at h
    simp at h
  unfold Lib.parseUintB
  rw [if_neg hne]
  exact parse_num _ 0 (by decide) (by rw [take_numN]; exact all_takeWhile _ _)

theorem of_bytes {w w' : World} {t : ByteArray} (h : w' = w ∨ w' = Lib.bytesWorld w 5 t) : Below w.heap.size w w' := by
  rcases h with rfl | rfl
  · exact Below.refl _ _
  · exact Lib.bytesWorld_below _ _ _

set_option maxRecDepth 100000 in
set_option maxHeartbeats 4000000 in
theorem number_any (w : World) (s : ByteArray) (i : Nat) (hi : i ≤ s.size) (hs : s.size ≤ 1048576) (h1 : 1 ≤ numN ((ls s).drop i)) (hE : EV w) :
    Calls Tryd.prog 40 #[.string s, .int .i64 i] w (TokAt (numR ((ls s).drop i)) i w) := by
  obtain ⟨X, hX⟩ : ∃ X, numN ((ls s).drop i) = X := ⟨_, rfl⟩
  obtain ⟨R, hR⟩ : ∃ R, numR ((ls s).drop i) = R := ⟨_, rfl⟩
  rw [hR]
  have hXl := numN_le ((ls s).drop i)
  rw [List.length_drop, ls_size] at hXl
  have hpd := parse_digits _ h1
  unfold numR at hR
  rw [hX] at hXl hpd hR h1
  have hls : ls (s.extract i (i + X)) = ((ls s).drop i).take X := by rw [ls_extract, show i + X - i = X by omega]
  have hts : (s.extract i (i + X)).size ≤ 1048576 := by rw [ByteArray.size_extract]; omega
  have HX := Lib.hid hX
  have hz := tkz w
  have hE1 := hE.new (.cells (tkC tk0) 32)
  obtain ⟨P, hP⟩ : ∃ P, numV (((ls s).drop i).take X) = P := ⟨_, rfl⟩
  rw [hP] at hpd hR
  rw [← hls] at hpd
  have HPD := Lib.hid hpd
  have HR := Lib.hid hR
  clear hX hR hpd hls hP
  go_enter Tryd.func40, Tryd.ntmps40
  go_wp2
  go_loopw [7] (fun v wr => ∃ k : Nat, v = .int .i64 k ∧ i ≤ k ∧ k ≤ s.size ∧ Hid ((k - i) + numN ((ls s).drop k) = X) ∧ w.alloc (.cells (tkC tk0) 32) = wr) (fun v _ => s.size - (intOf v).toNat)
  case atStart => exact ⟨i, rfl, Nat.le_refl _, hi, by unfold Hid; rw [HX.out]; omega, rfl⟩
  case round =>
    obtain ⟨k, rfl, hik, hk, HK, rfl⟩ := hrel
    by_cases hend : k < s.size ∧ ∃ c, (ls s)[k]? = some c ∧ isD c = true
    · obtain ⟨hlt, c, hc', hD⟩ := hend
      have hltz : (k : Int) < (s.size : Int) := by omega
      have hc : s[k]'hlt = c := by
        rw [List.getElem?_eq_getElem (by rw [ls_size]; exact hlt)] at hc'
        exact Option.some.inj hc'
      have hdr := drop_at s hlt
      rw [hc] at hdr
      have cd := fun W => digit_any W c
      have hk2 := HK.out
      rw [hdr, numN_cons, if_pos hD] at hk2
      have HK2 : Hid ((k + 1 - i) + numN ((ls s).drop (k + 1)) = X) := by unfold Hid; omega
      simp only [hD] at cd
      clear hk2 hdr hD hc'
      go_wp2_with (go_at_call 39; refine (cd _).mono ?_; rintro e w2 ⟨rfl, rfl⟩)
      go_roundw
      case rel => exact ⟨k + 1, by go_num, by omega, by omega, HK2, trivial⟩
      case measure => simp [intOf]; omega
    · have HE : i + X = k := by
        have hk2 := HK.out
        by_cases hlt : k < s.size
        · rw [drop_at s hlt, numN_cons, if_neg (fun hD => hend ⟨hlt, s[k], by rw [List.getElem?_eq_getElem (by rw [ls_size]; exact hlt)]; rfl, hD⟩)] at hk2
          omega
        · rw [drop_end s (by omega)] at hk2
          have : numN [] = 0 := rfl
          omega
      have hikz : (i : Int) ≤ (k : Int) := by omega
      have hkz : (k : Int) ≤ (s.size : Int) := by omega
      have HKX := Lib.hid HE
      rw [HE] at hts
      have HP2 := HPD.out
      rw [HE] at HP2
      have hRR := HR.out
      by_cases hlt : k < s.size
      · have hltz : (k : Int) < (s.size : Int) := by omega
        obtain ⟨c, hc⟩ : ∃ c, s[k]'hlt = c := ⟨_, rfl⟩
        have cd := fun W => digit_any W c
        have hDf : isD c = false := by
          cases hq : isD c with
          | false => rfl
          | true => exact absurd ⟨hlt, c, by rw [List.getElem?_eq_getElem (by rw [ls_size]; exact hlt)]; exact congrArg some hc, hq⟩ hend
        simp only [hDf] at cd
        clear hDf hend HE
        by_cases hbig : 18446744073709551615 < P
        · rw [if_pos hbig] at HP2 hRR
          subst hRR
          obtain ⟨_, te, pe, hv⟩ := hE1
          have cp := Tryd.strconv_ParseUint_10_at64_range (s.extract i k) (by omega) HP2 _ _ hv (.inr ⟨te, pe, rfl⟩)
          clear hbig HP2
          go_wp2_with (first
            | (go_at_call 39; refine (cd _).mono ?_; rintro e w2 ⟨rfl, rfl⟩)
            | (go_at_call 47; refine cp.mono ?_; rintro e w3 ⟨N, rfl, _, _, hb3⟩; have hz3 := hz.below hb3)
            | (refine wpList_store_tok rfl (.tmp 4) (.tmp 33) rfl w.heap.size tk0 tk0 rfl rfl hz3 ?_; intro w9 h9 t9))
          exact bodyPost_ret (v := .tuple #[.agg (tkC tk0), .int .i64 ((i + 0 : Nat) : Int), .int .i64 ((111 : Nat) : Int)]) (results_tok rfl _ _ _ _ _ _ rfl rfl rfl h9) rfl ⟨((Below.refl _ w).alloc (Nat.le_refl _) _).trans ((hb3.mono (by simp)).trans (t9.below (Nat.le_refl _))), rfl⟩
        · rw [if_neg hbig] at HP2 hRR
          have HRR := Lib.hid hRR
          have cp := fun W => Tryd.strconv_ParseUint_10_at64_ok (s.extract i k) (by omega) P HP2 W
          clear hbig HP2 hRR
          go_wp2_with (first
            | (go_at_call 39; refine (cd _).mono ?_; rintro e w2 ⟨rfl, rfl⟩)
            | (go_at_call 47; refine (cp _).mono ?_; rintro e w3 ⟨rfl, hw3⟩; have hb3 := of_bytes hw3; clear hw3; have hz3 := hz.below hb3)
            | (refine wpList_store_tok rfl (.tmp 4) (.tmp 38) rfl w.heap.size tk0 ⟨2, [], P, i, k⟩ rfl rfl hz3 ?_; intro w9 h9 t9))
          rw [← HRR.out]
          refine bodyPost_ret (v := .tuple #[.agg (tkC ⟨2, [], P, i, k⟩), .int .i64 0, .int .i64 0]) (results_tok rfl _ _ _ _ _ _ rfl rfl rfl h9) rfl ⟨((Below.refl _ w).alloc (Nat.le_refl _) _).trans ((hb3.mono (by simp)).trans (t9.below (Nat.le_refl _))), ?_⟩
          show Ending.returned _ = Ending.returned _
          rw [HKX.out]
      · have hltz : ¬ (k : Int) < (s.size : Int) := by omega
        clear hend HE
        by_cases hbig : 18446744073709551615 < P
        · rw [if_pos hbig] at HP2 hRR
          subst hRR
          obtain ⟨_, te, pe, hv⟩ := hE1
          have cp := Tryd.strconv_ParseUint_10_at64_range (s.extract i k) (by omega) HP2 _ _ hv (.inr ⟨te, pe, rfl⟩)
          clear hbig HP2
          go_wp2_with (first
            | (go_at_call 47; refine cp.mono ?_; rintro e w3 ⟨N, rfl, _, _, hb3⟩; have hz3 := hz.below hb3)
            | (refine wpList_store_tok rfl (.tmp 4) (.tmp 33) rfl w.heap.size tk0 tk0 rfl rfl hz3 ?_; intro w9 h9 t9))
          exact bodyPost_ret (v := .tuple #[.agg (tkC tk0), .int .i64 ((i + 0 : Nat) : Int), .int .i64 ((111 : Nat) : Int)]) (results_tok rfl _ _ _ _ _ _ rfl rfl rfl h9) rfl ⟨((Below.refl _ w).alloc (Nat.le_refl _) _).trans ((hb3.mono (by simp)).trans (t9.below (Nat.le_refl _))), rfl⟩
        · rw [if_neg hbig] at HP2 hRR
          have HRR := Lib.hid hRR
          have cp := fun W => Tryd.strconv_ParseUint_10_at64_ok (s.extract i k) (by omega) P HP2 W
          clear hbig HP2 hRR
          go_wp2_with (first
            | (go_at_call 47; refine (cp _).mono ?_; rintro e w3 ⟨rfl, hw3⟩; have hb3 := of_bytes hw3; clear hw3; have hz3 := hz.below hb3)
            | (refine wpList_store_tok rfl (.tmp 4) (.tmp 38) rfl w.heap.size tk0 ⟨2, [], P, i, k⟩ rfl rfl hz3 ?_; intro w9 h9 t9))
          rw [← HRR.out]
          refine bodyPost_ret (v := .tuple #[.agg (tkC ⟨2, [], P, i, k⟩), .int .i64 0, .int .i64 0]) (results_tok rfl _ _ _ _ _ _ rfl rfl rfl h9) rfl ⟨((Below.refl _ w).alloc (Nat.le_refl _) _).trans ((hb3.mono (by simp)).trans (t9.below (Nat.le_refl _))), ?_⟩
          show Ending.returned _ = Ending.returned _
          rw [HKX.out]
end Go.Proofs.YtggonhciakfabaaDoor
