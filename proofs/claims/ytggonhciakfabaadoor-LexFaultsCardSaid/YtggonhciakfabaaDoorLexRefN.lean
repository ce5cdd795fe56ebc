/- The walk of the reference: a number. -/
import Derived.Test.YtggonhciakfabaaDoorLexRefW
namespace Go.Proofs.YtggonhciakfabaaDoor
open Go.RowKit

/-- the number that stands at i -/
def numR (l : List UInt8) : TR := if 18446744073709551615 < numV (l.take (numN l)) then .bad 0 111 else .tok 2 [] (numV (l.take (numN l))) (numN l)

/-- what the loop knows of the digits read so far -/
def NumInv (P : Nat) (x : Int) (hi : Bool) : Prop := (hi = false → x = (P : Nat) ∧ P ≤ 18446744073709551615) ∧ (hi = true → 18446744073709551615 < P)
theorem numV_snoc (l : List UInt8) (c : UInt8) : numV (l ++ [c]) = numV l * 10 + (c.toNat - 48) := by unfold numV; rw [List.foldl_append]; rfl
theorem inv_high {P d : Nat} {x y : Int} {hi : Bool} (h : NumInv P x hi) (hx : (1844674407370955161 < x) ∨ 18446744073709551615 - (d : Int) < x * 10) : NumInv (P * 10 + d) y true := by
  refine ⟨fun e => Bool.noConfusion e, fun _ => ?_⟩
  cases hi with
  | true => have := h.2 rfl; omega
  | false => have := h.1 rfl; omega
theorem inv_low {P d : Nat} {x : Int} {hi : Bool} (h : NumInv P x hi) (h2 : ¬ 18446744073709551615 - (d : Int) < x * 10) : NumInv (P * 10 + d) (x * 10 + d) hi := by
  cases hi with
  | true => exact ⟨fun e => Bool.noConfusion e, fun _ => by have := h.2 rfl; omega⟩
  | false => exact ⟨fun _ => by have := h.1 rfl; omega, fun e => Bool.noConfusion e⟩
theorem inv_start : NumInv (numV []) 0 false := ⟨fun _ => ⟨rfl, by decide⟩, fun e => Bool.noConfusion e⟩

theorem wrap_nat (x : Int) : ∃ y : Int, IntKind.u64.wrap x = y ∧ 0 ≤ y ∧ y ≤ 18446744073709551615 := by
  have h : IntKind.u64.wrap x = x % 18446744073709551616 := rfl
  exact ⟨_, rfl, by rw [h]; omega, by rw [h]; omega⟩

set_option maxRecDepth 100000 in
set_option maxHeartbeats 4000000 in
theorem rnumber_any (w : World) (s : ByteArray) (i : Nat) (hi : i ≤ s.size) (hs : s.size ≤ 1048576) :
    Calls Tryd.prog 33 #[.string s, .int .i64 i] w (TokAt (numR ((ls s).drop i)) i w) := by
  obtain ⟨X, hX⟩ : ∃ X, numN ((ls s).drop i) = X := ⟨_, rfl⟩
  obtain ⟨R, hR⟩ : ∃ R, numR ((ls s).drop i) = R := ⟨_, rfl⟩
  rw [hR]
  have HX := Lib.hid hX
  have HR := Lib.hid hR
  have hz := tkz w
  clear hX hR
  go_enter Tryd.func33, Tryd.ntmps33
  go_wp2
  go_loopw [7, 8, 9] (fun v x8 v9 wr => ∃ (k : Nat) (x : Int) (hb : Bool), v = .int .i64 k ∧ x8 = .int .u64 x ∧ v9 = .bool hb ∧ i ≤ k ∧ k ≤ s.size ∧ 0 ≤ x ∧ x ≤ 18446744073709551615 ∧ Hid (NumInv (numV (((ls s).drop i).take (k - i))) x hb) ∧ Hid ((k - i) + numN ((ls s).drop k) = X) ∧ w.alloc (.cells (tkC tk0) 32) = wr) (fun v _ _ _ => s.size - (intOf v).toNat)
  case atStart => exact ⟨i, 0, false, rfl, rfl, rfl, Nat.le_refl _, hi, by omega, by omega, by unfold Hid; rw [Nat.sub_self, List.take_zero]; exact inv_start, by unfold Hid; rw [HX.out]; omega, rfl⟩
  case round =>
    obtain ⟨k, x, hb, rfl, rfl, rfl, hik, hk, hx0, hx9, HI, HK, rfl⟩ := hrel
    by_cases hend : k < s.size ∧ ∃ c, (ls s)[k]? = some c ∧ isD c = true
    · obtain ⟨hlt, c, hc', hD⟩ := hend
      have hltz : (k : Int) < (s.size : Int) := by omega
      have hc : s[k]'hlt = c := by
        rw [List.getElem?_eq_getElem (by rw [ls_size]; exact hlt)] at hc'
        exact Option.some.inj hc'
      have hdr := drop_at s hlt
      rw [hc] at hdr
      have cd := fun W => rdigit_any W c
      have hk2 := HK.out
      rw [hdr, numN_cons, if_pos hD] at hk2
      have HK2 : Hid ((k + 1 - i) + numN ((ls s).drop (k + 1)) = X) := by unfold Hid; omega
      have hpre : ((ls s).drop i).take (k + 1 - i) = ((ls s).drop i).take (k - i) ++ [c] := by
        rw [show k + 1 - i = (k - i) + 1 by omega, List.take_succ_eq_append_getElem (by rw [List.length_drop, ls_size]; omega), List.getElem_drop]
        congr 2
        rw [← hc]
        show (ls s)[i + (k - i)]'_ = (ls s)[k]'_
        congr 1
        omega
      have hcd : 48 ≤ c.toNat ∧ c.toNat ≤ 57 := by unfold isD at hD; exact of_decide_eq_true hD
      simp only [hD] at cd
      obtain ⟨d, hd⟩ : ∃ d : Nat, c.toNat - 48 = d := ⟨_, rfl⟩
      have hdz : (c.toNat : Int) - 48 = (d : Int) := by omega
      have hd9 : d ≤ 9 := by omega
      have hd0 : (0 : Int) ≤ (d : Int) := by omega
      have hd99 : (d : Int) ≤ 9 := by omega
      have HP : ∀ (y : Int) (b : Bool), NumInv (numV (((ls s).drop i).take (k - i)) * 10 + d) y b → Hid (NumInv (numV (((ls s).drop i).take (k + 1 - i))) y b) := fun y b h => by
        unfold Hid
        rw [hpre, numV_snoc, hd]
        exact h
      have HP' := Lib.hid HP
      clear hk2 hdr hpre hD hcd hd HP hc'
      by_cases hbig : 1844674407370955161 < x
      · have HH := fun y => HP'.out y true (inv_high (y := y) HI.out (.inl hbig))
        obtain ⟨y, hy, y0, y9⟩ := wrap_nat (x * 10)
        obtain ⟨u, hu, u0, u9⟩ := wrap_nat (y + (d : Int))
        go_wp2_with (go_at_call 27; refine (cd _).mono ?_; rintro e w2 ⟨rfl, rfl⟩)
        go_roundw
        case rel => exact ⟨k + 1, u, true, by go_num, rfl, rfl, by omega, by omega, u0, u9, HH u, HK2, trivial⟩
        case measure => simp [intOf]; omega
      · by_cases hbig2 : 18446744073709551615 - (d : Int) < x * 10
        · have HH := fun y => HP'.out y true (inv_high (y := y) HI.out (.inr hbig2))
          obtain ⟨u, hu, u0, u9⟩ := wrap_nat (x * 10 + (d : Int))
          go_wp2_with (go_at_call 27; refine (cd _).mono ?_; rintro e w2 ⟨rfl, rfl⟩)
          go_roundw
          case rel => exact ⟨k + 1, u, true, by go_num, rfl, rfl, by omega, by omega, u0, u9, HH u, HK2, trivial⟩
          case measure => simp [intOf]; omega
        · have HH := HP'.out _ hb (inv_low HI.out hbig2)
          go_wp2_with (go_at_call 27; refine (cd _).mono ?_; rintro e w2 ⟨rfl, rfl⟩)
          go_roundw
          case rel => exact ⟨k + 1, x * 10 + (d : Int), hb, by go_num, rfl, rfl, by omega, by omega, by omega, by omega, HH, HK2, trivial⟩
          case measure => simp [intOf]; omega
    · have HE : Hid (X = k - i) := by
        unfold Hid
        have hk2 := HK.out
        by_cases hlt : k < s.size
        · rw [drop_at s hlt, numN_cons, if_neg (fun hD => hend ⟨hlt, s[k], by rw [List.getElem?_eq_getElem (by rw [ls_size]; exact hlt)]; rfl, hD⟩)] at hk2
          omega
        · rw [drop_end s (by omega)] at hk2
          have : numN [] = 0 := rfl
          omega
      have HPX : Hid (numV (((ls s).drop i).take (numN ((ls s).drop i))) = numV (((ls s).drop i).take (k - i))) := by unfold Hid; rw [HX.out, HE.out]
      by_cases hlt : k < s.size
      · have hltz : (k : Int) < (s.size : Int) := by omega
        obtain ⟨c, hc⟩ : ∃ c, s[k]'hlt = c := ⟨_, rfl⟩
        have cd := fun W => rdigit_any W c
        have hDf : isD c = false := by
          cases hq : isD c with
          | false => rfl
          | true => exact absurd ⟨hlt, c, by rw [List.getElem?_eq_getElem (by rw [ls_size]; exact hlt)]; exact congrArg some hc, hq⟩ hend
        simp only [hDf] at cd
        clear hDf hend
        have h6 := HI.out
        cases hb with
        | true =>
          have HRE : Hid (R = .bad 0 111) := by unfold Hid; rw [← HR.out]; unfold numR; rw [HPX.out, if_pos (h6.2 rfl)]
          clear h6
          go_wp2_with (first
                    | (go_at_call 27; refine (cd _).mono ?_; rintro e w2 ⟨rfl, rfl⟩)
                    | (refine wpList_store_tok rfl (.tmp 4) (.tmp 43) rfl w.heap.size tk0 tk0 rfl rfl hz ?_; intro w9 h9 t9))
          rw [HRE.out]
          exact bodyPost_ret (v := .tuple #[.agg (tkC tk0), .int .i64 ((i + 0 : Nat) : Int), .int .i64 ((111 : Nat) : Int)]) (results_tok rfl _ _ _ _ _ _ rfl rfl rfl h9) rfl ⟨below_alloc t9, rfl⟩
        | false =>
          obtain ⟨hxe, hP9⟩ := h6.1 rfl
          obtain ⟨P, hP⟩ : ∃ P, numV (((ls s).drop i).take (k - i)) = P := ⟨_, rfl⟩
          rw [hP] at hxe hP9
          have HRE : Hid (R = .tok 2 [] P (k - i)) := by unfold Hid; rw [← HR.out]; unfold numR; rw [HPX.out, hP, if_neg (by omega), HX.out, HE.out]
          subst hxe
          clear h6 hP hP9
          go_wp2_with (first
                    | (go_at_call 27; refine (cd _).mono ?_; rintro e w2 ⟨rfl, rfl⟩)
                    | (refine wpList_store_tok rfl (.tmp 4) (.tmp 48) rfl w.heap.size tk0 ⟨2, [], P, i, k⟩ rfl rfl hz ?_; intro w9 h9 t9))
          rw [HRE.out]
          refine bodyPost_ret (v := .tuple #[.agg (tkC ⟨2, [], P, i, k⟩), .int .i64 0, .int .i64 0]) (results_tok rfl _ _ _ _ _ _ rfl rfl rfl h9) rfl ⟨below_alloc t9, ?_⟩
          show Ending.returned _ = Ending.returned _
          rw [show i + (k - i) = k by omega]
      · have hltz : ¬ (k : Int) < (s.size : Int) := by omega
        clear hend
        have h6 := HI.out
        cases hb with
        | true =>
          have HRE : Hid (R = .bad 0 111) := by unfold Hid; rw [← HR.out]; unfold numR; rw [HPX.out, if_pos (h6.2 rfl)]
          clear h6
          go_wp2_with (refine wpList_store_tok rfl (.tmp 4) (.tmp 43) rfl w.heap.size tk0 tk0 rfl rfl hz ?_; intro w9 h9 t9)
          rw [HRE.out]
          exact bodyPost_ret (v := .tuple #[.agg (tkC tk0), .int .i64 ((i + 0 : Nat) : Int), .int .i64 ((111 : Nat) : Int)]) (results_tok rfl _ _ _ _ _ _ rfl rfl rfl h9) rfl ⟨below_alloc t9, rfl⟩
        | false =>
          obtain ⟨hxe, hP9⟩ := h6.1 rfl
          obtain ⟨P, hP⟩ : ∃ P, numV (((ls s).drop i).take (k - i)) = P := ⟨_, rfl⟩
          rw [hP] at hxe hP9
          have HRE : Hid (R = .tok 2 [] P (k - i)) := by unfold Hid; rw [← HR.out]; unfold numR; rw [HPX.out, hP, if_neg (by omega), HX.out, HE.out]
          subst hxe
          clear h6 hP hP9
          go_wp2_with (refine wpList_store_tok rfl (.tmp 4) (.tmp 48) rfl w.heap.size tk0 ⟨2, [], P, i, k⟩ rfl rfl hz ?_; intro w9 h9 t9)
          rw [HRE.out]
          refine bodyPost_ret (v := .tuple #[.agg (tkC ⟨2, [], P, i, k⟩), .int .i64 0, .int .i64 0]) (results_tok rfl _ _ _ _ _ _ rfl rfl rfl h9) rfl ⟨below_alloc t9, ?_⟩
          show Ending.returned _ = Ending.returned _
          rw [show i + (k - i) = k by omega]
end Go.Proofs.YtggonhciakfabaaDoor
