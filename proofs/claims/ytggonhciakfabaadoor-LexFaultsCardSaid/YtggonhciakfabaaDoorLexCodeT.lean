/- The walk of the code: a text. -/
import Derived.Test.YtggonhciakfabaaDoorLexCodeE
namespace Go.Proofs.YtggonhciakfabaaDoor
open Go.RowKit
open Go.Lib (byteCells)

theorem Bld.then_ {B b : Nat} {l : List UInt8} {w w' : World} (h : Bld B b l w) (hb : Below w.heap.size w w') : Bld B b l w' := by
  have q : ∀ p, Lib.BuilderAt 43 5 B b p (byteCells l) w → Lib.BuilderAt 43 5 B b p (byteCells l) w' := by
    rintro p ⟨h1, v, h2, h3, h4⟩
    refine ⟨h1, v, (hb.block b (Array.getElem?_eq_some_iff.1 h2).1).trans h2, ⟨h3.1, ?_⟩, h4⟩
    rcases h3.2 with h0 | ⟨g, cap, cur, hv, hg, hc, rest⟩
    · exact .inl h0
    · exact .inr ⟨g, cap, cur, hv, hg, (hb.block g (Array.getElem?_eq_some_iff.1 hc).1).trans hc, rest⟩
  rcases h with h | h
  · exact .inl (q _ h)
  · exact .inr (q _ h)
theorem Bld.after {w : World} {o : Obj} : Bld (w.heap.size + 1) (w.heap.size + 1) [] ((w.alloc o).alloc (.cells #[.pointer none, .slice none 0 0] 43)) := by
  have h := Bld.new (w.alloc o)
  simpa using h
theorem drop_tail (s : ByteArray) (k : Nat) : (ls (s.extract k s.size)).drop 1 = (ls s).drop (k + 1) := by
  rw [ls_extract, List.take_of_length_le (by rw [List.length_drop, ls_size]; omega), List.drop_drop]

set_option maxRecDepth 100000 in
set_option maxHeartbeats 4000000 in
theorem text_any (w : World) (s : ByteArray) (i : Nat) (hi : i < s.size) (hs : s.size ≤ 1048576) (hE : EV w) :
    Calls Tryd.prog 41 #[.string s, .int .i64 i] w (TokAt (textR ((ls s).drop i)) i w) := by
  obtain ⟨R, hR⟩ : ∃ R, textR ((ls s).drop i) = R := ⟨_, rfl⟩
  obtain ⟨X, hX⟩ : ∃ X, txS ((ls s).drop (i + 1)) = X := ⟨_, rfl⟩
  have hRX : R = txR X := by
    rw [← hR, ← hX]
    unfold textR
    rw [List.drop_drop]
  rw [hR]
  have HR := Lib.hid hRX
  have HX := Lib.hid hX
  have hz := (tkz w).new_ (.cells #[.pointer none, .slice none 0 0] 43)
  have hbl := Bld.after (w := w) (o := .cells (tkC tk0) 32)
  have hB0 : Below w.heap.size w ((w.alloc (.cells (tkC tk0) 32)).alloc (.cells #[.pointer none, .slice none 0 0] 43)) := ((Below.refl _ w).alloc (Nat.le_refl _) _).alloc (by simp) _
  have hbs : w.heap.size + 1 ≤ ((w.alloc (.cells (tkC tk0) 32)).alloc (.cells #[.pointer none, .slice none 0 0] 43)).heap.size := by simp
  have HEV := Lib.hid hE
  have HBL := Lib.hid hbl
  clear hR hX hRX hE hbl
  go_enter Tryd.func41, Tryd.ntmps41
  go_wp2
  go_loopw [8] (fun v wr => ∃ (k : Nat) (pre : List UInt8), v = .int .i64 k ∧ i + 1 ≤ k ∧ k ≤ s.size ∧ pre.length ≤ k ∧ Hid (Bld (w.heap.size + 1) (w.heap.size + 1) pre wr) ∧ TBlk wr w.heap.size tk0 ∧ Below w.heap.size w wr ∧ w.heap.size + 1 ≤ wr.heap.size ∧ Hid (X = (txS ((ls s).drop k)).pre pre (k - (i + 1)))) (fun v _ => s.size - (intOf v).toNat)
  case atStart => exact ⟨i + 1, [], by go_num, Nat.le_refl _, by omega, by simp, HBL, hz, hB0, hbs, by unfold Hid; rw [Nat.sub_self, Tx.pre_nil, HX.out]⟩
  case round =>
    obtain ⟨k, pre, rfl, hik, hk, hpk, HB, hzb, hbw, hwz, HT⟩ := hrel
    by_cases hlt : k < s.size
    · have hltz : (k : Int) < (s.size : Int) := by omega
      obtain ⟨c, hc⟩ : ∃ c, s[k]'hlt = c := ⟨_, rfl⟩
      have hdr := drop_at s hlt
      rw [hc] at hdr
      have hX := HT.out
      rw [hdr] at hX
      by_cases q34 : c.toNat = 34
      · rw [tx_close _ q34] at hX
        have HRE : Hid (R = .tok 3 pre 0 (k + 1 - i)) := by
          unfold Hid
          rw [HR.out, hX]
          show TR.tok 3 (pre ++ []) 0 _ = _
          rw [List.append_nil]
          congr 1
          omega
        have z34 : ((c.toNat : Int) == 34) = true := by rw [q34]; rfl
        have co := HB.out.out hwz
        clear hX hdr q34
        go_wp2_with (first
          | (go_at_call 30; refine co.mono ?_; rintro e w3 ⟨rfl, hb3⟩; have hz3 := below_tok hzb hb3 (Nat.lt_succ_self _))
          | (refine wpList_store_tok rfl (.tmp 4) (.tmp 32) rfl w.heap.size tk0 ⟨3, pre, 0, i, k + 1⟩ rfl rfl hz3 ?_; intro w9 h9 t9))
        rw [HRE.out]
        refine bodyPost_ret (v := .tuple #[.agg (tkC ⟨3, pre, 0, i, k + 1⟩), .int .i64 0, .int .i64 0]) (results_tok rfl _ _ _ _ _ _ rfl rfl rfl h9) rfl ⟨hbw.trans ((hb3.mono (Nat.le_succ _)).trans (t9.below (Nat.le_refl _))), ?_⟩
        show Ending.returned _ = Ending.returned _
        rw [show i + (k + 1 - i) = k + 1 by omega]
      · have z34 : ((c.toNat : Int) == 34) = false := beq_eq_false_iff_ne.2 (by omega)
        by_cases q10 : c.toNat = 10
        · rw [tx_line _ q10] at hX
          have HRE : Hid (R = .bad 0 81) := by unfold Hid; rw [HR.out, hX]; rfl
          have z10 : ((c.toNat : Int) == 10) = true := by rw [q10]; rfl
          clear hX hdr q10 q34
          go_wp2_with (refine wpList_store_tok rfl (.tmp 4) (.tmp 35) rfl w.heap.size tk0 tk0 rfl rfl hzb ?_; intro w9 h9 t9)
          rw [HRE.out]
          exact bodyPost_ret (v := .tuple #[.agg (tkC tk0), .int .i64 ((i + 0 : Nat) : Int), .int .i64 ((81 : Nat) : Int)]) (results_tok rfl _ _ _ _ _ _ rfl rfl rfl h9) rfl ⟨hbw.trans (t9.below (Nat.le_refl _)), rfl⟩
        · have z10 : ((c.toNat : Int) == 10) = false := beq_eq_false_iff_ne.2 (by omega)
          by_cases q92 : c.toNat = 92
          · rw [tx_esc _ q92] at hX
            have z92 : ((c.toNat : Int) == 92) = true := by rw [q92]; rfl
            have ce := escape_any wr (s.extract k s.size) (by rw [ByteArray.size_extract]; omega) (by rw [ByteArray.size_extract]; omega) (HEV.out.below hbw)
            rw [drop_tail] at ce
            have hkz : (k : Int) ≤ (s.size : Int) := by omega
            cases hEx : escX ((ls s).drop (k + 1)) with
            | none =>
              rw [hEx] at hX ce
              have HRE : Hid (R = .bad (k - i) 82) := by
                unfold Hid
                rw [HR.out, hX]
                show TR.bad (0 + (k - (i + 1)) + 1) 82 = _
                congr 1
                omega
              have hki : i + (k - i) = k := by omega
              have hce : Calls Tryd.prog 48 #[.string (s.extract k s.size)] wr fun e w' => e = .returned (.tuple #[.int .u8 0, .int .i64 0]) ∧ Below wr.heap.size wr w' := ce
              clear hX hdr q10 q34 q92 hEx ce
              go_wp2_with (first
                | (go_at_call 48; refine hce.mono ?_; rintro e w3 ⟨rfl, hb3⟩; have hzb3 := hzb.below hb3)
                | (refine wpList_store_tok rfl (.tmp 4) (.tmp 48) rfl w.heap.size tk0 tk0 rfl rfl hzb3 ?_; intro w9 h9 t9))
              rw [HRE.out]
              refine bodyPost_ret (v := .tuple #[.agg (tkC tk0), .int .i64 (k : Nat), .int .i64 ((82 : Nat) : Int)]) (results_tok rfl _ _ _ _ _ _ rfl rfl rfl h9) rfl ⟨hbw.trans ((hb3.mono hbw.size).trans (t9.below (Nat.le_refl _))), ?_⟩
              show Ending.returned _ = Ending.returned _
              rw [hki]
            | some xj =>
              obtain ⟨x, j⟩ := xj
              rw [hEx] at hX ce
              have hjl := escX_len hEx
              rw [List.length_drop, ls_size] at hjl
              dsimp only at hX
              rw [Tx.pre_push, List.drop_drop] at hX
              have HT2 : Hid (X = (txS ((ls s).drop (k + (j + 1)))).pre (pre ++ [x]) (k + (j + 1) - (i + 1))) := by
                unfold Hid
                rw [hX, show k + 1 + j = k + (j + 1) by omega, show k - (i + 1) + (j + 1) = k + (j + 1) - (i + 1) by omega]
              obtain ⟨m, hm⟩ : ∃ m, j + 1 = m := ⟨_, rfl⟩
              have hce : Calls Tryd.prog 48 #[.string (s.extract k s.size)] wr fun e w' => e = .returned (.tuple #[.int .u8 (x.toNat : Nat), .int .i64 (m : Nat)]) ∧ Below wr.heap.size wr w' := by rw [← hm]; exact ce
              rw [hm] at HT2
              have hm1 : 1 ≤ m := by omega
              have hmk : k + m ≤ s.size := by omega
              have hmz : ((m : Int) == 0) = false := beq_eq_false_iff_ne.2 (by omega)
              obtain ⟨r, hr⟩ : ∃ r, r = pre ++ [x] := ⟨_, rfl⟩
              have hrl : r.length = pre.length + 1 := by rw [hr]; simp
              rw [← hr] at HT2
              have HW := Lib.hid (fun (w3 : World) (hb3 : Below wr.heap.size wr w3) => (HB.out.then_ hb3).byte x (by omega) (Nat.le_trans hwz hb3.size) r hr)
              have HRL := Lib.hid hrl
              clear hX hdr q10 q34 q92 hEx ce hjl hr hrl hm
              go_wp2_with (first
                | (go_at_call 48; refine hce.mono ?_; rintro e w3 ⟨rfl, hb3⟩)
                | (go_at_call 28; refine (HW.out w3 hb3).mono ?_; rintro e w4 ⟨rfl, hB4, hb4⟩; have HB4 := Lib.hid hB4; clear hB4))
              go_roundw
              case rel => exact ⟨k + m, r, by go_num, by omega, by omega, by have := HRL.out; omega, HB4, below_tok (hzb.below hb3) hb4 (by omega), hbw.trans ((hb3.mono hbw.size).trans (hb4.mono (by omega))), Nat.le_trans (Nat.le_trans hwz hb3.size) hb4.size, HT2⟩
              case measure => simp [intOf]; omega
          · rw [tx_plain _ q10 q34 q92] at hX
            have z92 : ((c.toNat : Int) == 92) = false := beq_eq_false_iff_ne.2 (by omega)
            rw [Tx.pre_push] at hX
            obtain ⟨r, hr⟩ : ∃ r, r = pre ++ [c] := ⟨_, rfl⟩
            have hrl : r.length = pre.length + 1 := by rw [hr]; simp
            have HT2 : Hid (X = (txS ((ls s).drop (k + 1))).pre r (k + 1 - (i + 1))) := by
              unfold Hid
              rw [hX, hr, show k - (i + 1) + 1 = k + 1 - (i + 1) by omega]
            have cw := HB.out.byte c (by omega) hwz r hr
            have HRL := Lib.hid hrl
            clear hX hdr q10 q34 q92 hr hrl
            go_wp2_with (go_at_call 28; refine cw.mono ?_; rintro e w4 ⟨rfl, hB4, hb4⟩; have HB4 := Lib.hid hB4; clear hB4)
            go_roundw
            case rel => exact ⟨k + 1, r, by go_num, by omega, by omega, by have := HRL.out; omega, HB4, below_tok hzb hb4 (by omega), hbw.trans (hb4.mono (by omega)), Nat.le_trans hwz hb4.size, HT2⟩
            case measure => simp [intOf]; omega
    · obtain rfl : k = s.size := by omega
      have hltz : ¬ (s.size : Int) < (s.size : Int) := by omega
      have hX := HT.out
      rw [drop_end s (Nat.le_refl _)] at hX
      have HRE : Hid (R = .bad 0 81) := by unfold Hid; rw [HR.out, hX]; rfl
      clear hX
      go_wp2_with (refine wpList_store_tok rfl (.tmp 4) (.tmp 55) rfl w.heap.size tk0 tk0 rfl rfl hzb ?_; intro w9 h9 t9)
      rw [HRE.out]
      exact bodyPost_ret (v := .tuple #[.agg (tkC tk0), .int .i64 ((i + 0 : Nat) : Int), .int .i64 ((81 : Nat) : Int)]) (results_tok rfl _ _ _ _ _ _ rfl rfl rfl h9) rfl ⟨hbw.trans (t9.below (Nat.le_refl _)), rfl⟩
end Go.Proofs.YtggonhciakfabaaDoor
