/- The walks of the code: an escape. -/
import Derived.Test.YtipcgmaobiobbaaGreatDoorParGc
import Derived.Test.YtipcgmaobiobbaaGreatDoorParGb
namespace Go.Proofs.YtipcgmaobiobbaaGreatDoor
open Go.RowKit

/-- what the two digits stand for that stand behind a backslash and an x -/
def hexX (r : List UInt8) : Option (UInt8 × Nat) := match r with
  | a :: b :: _ => if dv a.toNat = 16 ∨ dv b.toNat = 16 then none else some (UInt8.ofNat (16 * dv a.toNat + dv b.toNat), 3)
  | _ => none
theorem escD_x {d : UInt8} {r : List UInt8} (h : d.toNat = 120) : escD d r = hexX r := by
  unfold escD hexX
  rw [if_neg (by omega), if_neg (by omega), if_neg (by omega), if_pos h]
  rfl
/-- how escN reads it -/
theorem hexF_two (a b : UInt8) (r : List UInt8) : (hexF 0 [a, b] = none ∧ hexX (a :: b :: r) = none) ∨ ∃ n, hexF 0 [a, b] = some n ∧ n ≤ 255 ∧ hexX (a :: b :: r) = some (UInt8.ofNat n, 3) := by
  have ha := dv_le a.toNat
  have hb := dv_le b.toNat
  unfold hexF hexF hexF hexX
  dsimp only
  by_cases h1 : dv a.toNat = 16
  · rw [if_pos h1, if_pos (.inl h1)]
    exact .inl ⟨rfl, rfl⟩
  · rw [if_neg h1]
    by_cases h2 : dv b.toNat = 16
    · rw [if_pos h2, if_pos (.inr h2)]
      exact .inl ⟨rfl, rfl⟩
    · rw [if_neg h2, if_neg (by omega)]
      refine .inr ⟨_, rfl, by omega, ?_⟩
      rw [show 0 * 16 + dv a.toNat = dv a.toNat by omega, Nat.mul_comm]

set_option maxRecDepth 100000 in
set_option maxHeartbeats 4000000 in
theorem hexEsc_any (w : World) (t : ByteArray) (hs : t.size ≤ 1048576) (hE : EV w) :
    Calls Tryz.prog 103 #[.string t] w fun e w' => e = .returned (.tuple #[.int .u8 ((esN (hexX ((ls t).drop 2))).1 : Nat), .int .i64 ((esN (hexX ((ls t).drop 2))).2 : Nat)]) ∧ Below w.heap.size w w' := by
  by_cases h4 : t.size < 4
  · have hz : (t.size : Int) < 4 := by omega
    have hn : hexX ((ls t).drop 2) = none := by
      have hl : ((ls t).drop 2).length = t.size - 2 := by rw [List.length_drop, ls_size]
      unfold hexX
      split
      · rename_i a b r hr
        rw [hr] at hl
        simp only [List.length_cons] at hl
        omega
      · rfl
    rw [hn]
    clear hn
    go_enter Tryz.func103, Tryz.ntmps103
    go_wp2
    go_ret2
    exact ⟨rfl, Below.refl _ _⟩
  · have hz : ¬ (t.size : Int) < 4 := by omega
    have hz4 : (4 : Int) ≤ (t.size : Int) := by omega
    have d2 := drop_at t (show 2 < t.size by omega)
    have d3 := drop_at t (show 3 < t.size by omega)
    rw [d3] at d2
    have hls : ls (t.extract 2 4) = [t[2]'(by omega), t[3]'(by omega)] := by rw [ls_extract, d2]; rfl
    have h2 : (t.extract 2 4).size = 2 := by rw [← ls_size, hls]; rfl
    have cp := parse16_any w (t.extract 2 4) h2 hE
    rw [hls] at cp
    rw [d2]
    rcases hexF_two (t[2]'(by omega)) (t[3]'(by omega)) ((ls t).drop 4) with ⟨e1, e2⟩ | ⟨n, e1, hn, e2⟩
    · rw [e1] at cp
      rw [e2]
      change Calls _ _ _ _ (fun e w' => _ ∧ ∃ T p, e = .returned (.tuple #[.int .u64 0, .iface T p])) at cp
      clear e1 e2 hls h2 d2 d3
      go_enter Tryz.func103, Tryz.ntmps103
      go_wp2_with (go_at_call 84; refine cp.mono ?_; rintro e w2 ⟨hb2, T, p, rfl⟩)
      go_ret2
      exact ⟨rfl, hb2⟩
    · rw [e1] at cp
      rw [e2]
      change Calls _ _ _ _ (fun e w' => _ ∧ e = .returned (.tuple #[.int .u64 (n : Nat), .nilIface])) at cp
      have en : (UInt8.ofNat n).toNat = n := by simp; omega
      have hw : IntKind.u8.wrap (n : Int) = (n : Int) := by
        have h : IntKind.u8.wrap (n : Int) = (n : Int) % 256 := rfl
        rw [h]; omega
      have he : ((esN (some (UInt8.ofNat n, 3))).1 : Int) = (n : Int) := congrArg _ en
      rw [he]
      clear e1 e2 hls h2 d2 d3 he en
      go_enter Tryz.func103, Tryz.ntmps103
      go_wp2_with (go_at_call 84; refine cp.mono ?_; rintro e w2 ⟨hb2, rfl⟩)
      go_ret2
      exact ⟨rfl, hb2⟩

set_option maxRecDepth 100000 in
set_option maxHeartbeats 4000000 in
theorem escape_any (w : World) (t : ByteArray) (h0 : 1 ≤ t.size) (hs : t.size ≤ 1048576) (hE0 : EV w) :
    Calls Tryz.prog 85 #[.string t] w fun e w' => e = .returned (.tuple #[.int .u8 ((esN (escX ((ls t).drop 1))).1 : Nat), .int .i64 ((esN (escX ((ls t).drop 1))).2 : Nat)]) ∧ Below w.heap.size w w' := by
  obtain ⟨E, hE⟩ : ∃ E, escX ((ls t).drop 1) = E := ⟨_, rfl⟩
  rw [hE]
  by_cases h1 : 1 < t.size
  · have hz1 : ¬ (t.size : Int) < 2 := by omega
    have hz0 : (1 : Int) < (t.size : Int) := by omega
    obtain ⟨d, hd⟩ : ∃ d, t[1]'h1 = d := ⟨_, rfl⟩
    have hdr := drop_at t h1
    rw [hd] at hdr
    rw [hdr] at hE
    change escD d ((ls t).drop 2) = E at hE
    by_cases q1 : d.toNat = 92 ∨ d.toNat = 34
    · unfold escD at hE
      rw [if_pos q1] at hE
      subst hE
      clear hdr
      rcases q1 with q | q
      · have qz : ((d.toNat : Int) == 92) = true := by rw [q]; rfl
        clear q
        go_enter Tryz.func85, Tryz.ntmps85
        go_wp2
        go_ret2
        exact ⟨rfl, Below.refl _ _⟩
      · have qz : ((d.toNat : Int) == 34) = true := by rw [q]; rfl
        have qn : ((d.toNat : Int) == 92) = false := by rw [q]; rfl
        clear q
        go_enter Tryz.func85, Tryz.ntmps85
        go_wp2
        go_ret2
        exact ⟨rfl, Below.refl _ _⟩
    · have n1 : ((d.toNat : Int) == 92) = false := beq_eq_false_iff_ne.2 (by omega)
      have n2 : ((d.toNat : Int) == 34) = false := beq_eq_false_iff_ne.2 (by omega)
      by_cases q2 : d.toNat = 110
      · unfold escD at hE
        rw [if_neg q1, if_pos q2] at hE
        subst hE
        have qz : ((d.toNat : Int) == 110) = true := by rw [q2]; rfl
        clear hdr q1 q2
        go_enter Tryz.func85, Tryz.ntmps85
        go_wp2
        go_ret2
        exact ⟨rfl, Below.refl _ _⟩
      · have n3 : ((d.toNat : Int) == 110) = false := beq_eq_false_iff_ne.2 (by omega)
        by_cases q3 : d.toNat = 116
        · unfold escD at hE
          rw [if_neg q1, if_neg q2, if_pos q3] at hE
          subst hE
          have qz : ((d.toNat : Int) == 116) = true := by rw [q3]; rfl
          clear hdr q1 q2 q3
          go_enter Tryz.func85, Tryz.ntmps85
          go_wp2
          go_ret2
          exact ⟨rfl, Below.refl _ _⟩
        · have n4 : ((d.toNat : Int) == 116) = false := beq_eq_false_iff_ne.2 (by omega)
          by_cases q4 : d.toNat = 120
          · rw [escD_x q4] at hE
            have qz : ((d.toNat : Int) == 120) = true := by rw [q4]; rfl
            have ch := hexEsc_any w t hs hE0
            rw [hE] at ch
            clear hdr q1 q2 q3 q4 hE
            go_enter Tryz.func85, Tryz.ntmps85
            go_wp2_with (go_at_call 103; refine ch.mono ?_; rintro e w2 ⟨rfl, hb2⟩)
            go_ret2
            exact ⟨rfl, hb2⟩
          · have n5 : ((d.toNat : Int) == 120) = false := beq_eq_false_iff_ne.2 (by omega)
            unfold escD at hE
            rw [if_neg q1, if_neg q2, if_neg q3, if_neg q4] at hE
            subst hE
            clear hdr q1 q2 q3 q4
            go_enter Tryz.func85, Tryz.ntmps85
            go_wp2
            go_ret2
            exact ⟨rfl, Below.refl _ _⟩
  · have hz1 : (t.size : Int) < 2 := by omega
    rw [drop_end t (by omega)] at hE
    have hEn : E = none := hE.symm
    subst hEn
    clear hE
    go_enter Tryz.func85, Tryz.ntmps85
    go_wp2
    go_ret2
    exact ⟨rfl, Below.refl _ _⟩
end Go.Proofs.YtipcgmaobiobbaaGreatDoor
/- The walk of the code: a text. -/
namespace Go.Proofs.YtipcgmaobiobbaaGreatDoor
open Go.RowKit
open Go.Lib (byteCells)

theorem Bld.then_ {B b : Nat} {l : List UInt8} {w w' : World} (h : Bld B b l w) (hb : Below w.heap.size w w') : Bld B b l w' := by
  have q : ∀ p, Lib.BuilderAt 69 5 B b p (byteCells l) w → Lib.BuilderAt 69 5 B b p (byteCells l) w' := by
    rintro p ⟨h1, v, h2, h3, h4⟩
    refine ⟨h1, v, (hb.block b (Array.getElem?_eq_some_iff.1 h2).1).trans h2, ⟨h3.1, ?_⟩, h4⟩
    rcases h3.2 with h0 | ⟨g, cap, cur, hv, hg, hc, rest⟩
    · exact .inl h0
    · exact .inr ⟨g, cap, cur, hv, hg, (hb.block g (Array.getElem?_eq_some_iff.1 hc).1).trans hc, rest⟩
  rcases h with h | h
  · exact .inl (q _ h)
  · exact .inr (q _ h)
theorem Bld.after {w : World} {o : Obj} : Bld (w.heap.size + 1) (w.heap.size + 1) [] ((w.alloc o).alloc (.cells #[.pointer none, .slice none 0 0] 69)) := by
  have h := Bld.new (w.alloc o)
  simpa using h
theorem drop_tail (s : ByteArray) (k : Nat) : (ls (s.extract k s.size)).drop 1 = (ls s).drop (k + 1) := by
  rw [ls_extract, List.take_of_length_le (by rw [List.length_drop, ls_size]; omega), List.drop_drop]

set_option maxRecDepth 100000 in
set_option maxHeartbeats 4000000 in
theorem text_any (w : World) (s : ByteArray) (i : Nat) (hi : i < s.size) (hs : s.size ≤ 1048576) (hE : EV w) :
    Calls Tryz.prog 61 #[.string s, .int .i64 i] w (TokAt (textR ((ls s).drop i)) i w) := by
  obtain ⟨R, hR⟩ : ∃ R, textR ((ls s).drop i) = R := ⟨_, rfl⟩
  obtain ⟨X, hX⟩ : ∃ X, txS ((ls s).drop (i + 1)) = X := ⟨_, rfl⟩
  have hRX : R = txR X := by
    rw [← hR, ← hX]
    unfold textR
    rw [List.drop_drop]
  rw [hR]
  have HR := Lib.hid hRX
  have HX := Lib.hid hX
  have hz := (tkz w).new_ (.cells #[.pointer none, .slice none 0 0] 69)
  have hbl := Bld.after (w := w) (o := .cells (tkC tk0) 84)
  have hB0 : Below w.heap.size w ((w.alloc (.cells (tkC tk0) 84)).alloc (.cells #[.pointer none, .slice none 0 0] 69)) := ((Below.refl _ w).alloc (Nat.le_refl _) _).alloc (by simp) _
  have hbs : w.heap.size + 1 ≤ ((w.alloc (.cells (tkC tk0) 84)).alloc (.cells #[.pointer none, .slice none 0 0] 69)).heap.size := by simp
  have HEV := Lib.hid hE
  have HBL := Lib.hid hbl
  clear hR hX hRX hE hbl
  go_enter Tryz.func61, Tryz.ntmps61
  go_wp2
  go_loopw [8] (fun v wr => ∃ (k : Nat) (pre : List UInt8), v = .int .i64 k ∧ i + 1 ≤ k ∧ k ≤ s.size ∧ pre.length ≤ k ∧ Hid (Bld (w.heap.size + 1) (w.heap.size + 1) pre wr) ∧ TBlk wr w.heap.size tk0 ∧ Below w.heap.size w wr ∧ w.heap.size + 1 ≤ wr.heap.size ∧ Hid (X = (txS ((ls s).drop k)).pre pre (k - (i + 1)))) (fun v _ => s.size - (intOf v).toNat)
  case atStart => exact ⟨i + 1, [], by go_num, Nat.le_refl _, by omega, by simp, HBL, hz, hB0, hbs, by unfold Hid; rw [Nat.sub_self, Tx.pre_nil, HX.out]⟩
  case round =>
    obtain ⟨k, pre, rfl, hik, hk, hpk, HB, hzb, hbw, hwz, HT⟩ := hrel
    by_cases hlt : k < s.size
    · have hltz : (k : Int) < (s.size : Int) := by omega
      obtain ⟨c, hc⟩ : ∃ c, s[k]'hlt = c := ⟨_, rfl⟩
      have hdr := drop_at s hlt
      rw [hc] at hdr
      have hX := HT.out
      rw [hdr] at hX
      by_cases q34 : c.toNat = 34
      · rw [tx_close _ q34] at hX
        have HRE : Hid (R = .tok 3 pre 0 (k + 1 - i)) := by
          unfold Hid
          rw [HR.out, hX]
          show TR.tok 3 (pre ++ []) 0 _ = _
          rw [List.append_nil]
          congr 1
          omega
        have z34 : ((c.toNat : Int) == 34) = true := by rw [q34]; rfl
        have co := HB.out.out hwz
        clear hX hdr q34
        go_wp2_with (first
          | (go_at_call 30; refine co.mono ?_; rintro e w3 ⟨rfl, hb3⟩; have hz3 := below_tok hzb hb3 (Nat.lt_succ_self _))
          | (refine wpList_store_tok rfl (.tmp 4) (.tmp 32) rfl w.heap.size tk0 ⟨3, pre, 0, i, k + 1⟩ rfl rfl hz3 ?_; intro w9 h9 t9))
        rw [HRE.out]
        refine bodyPost_ret (v := .tuple #[.agg (tkC ⟨3, pre, 0, i, k + 1⟩), .int .i64 0, .int .i64 0]) (results_tok rfl _ _ _ _ _ _ rfl rfl rfl h9) rfl ⟨hbw.trans ((hb3.mono (Nat.le_succ _)).trans (t9.below (Nat.le_refl _))), ?_⟩
        show Ending.returned _ = Ending.returned _
        rw [show i + (k + 1 - i) = k + 1 by omega]
      · have z34 : ((c.toNat : Int) == 34) = false := beq_eq_false_iff_ne.2 (by omega)
        by_cases q10 : c.toNat = 10
        · rw [tx_line _ q10] at hX
          have HRE : Hid (R = .bad 0 81) := by unfold Hid; rw [HR.out, hX]; rfl
          have z10 : ((c.toNat : Int) == 10) = true := by rw [q10]; rfl
          clear hX hdr q10 q34
          go_wp2_with (refine wpList_store_tok rfl (.tmp 4) (.tmp 35) rfl w.heap.size tk0 tk0 rfl rfl hzb ?_; intro w9 h9 t9)
          rw [HRE.out]
          exact bodyPost_ret (v := .tuple #[.agg (tkC tk0), .int .i64 ((i + 0 : Nat) : Int), .int .i64 ((81 : Nat) : Int)]) (results_tok rfl _ _ _ _ _ _ rfl rfl rfl h9) rfl ⟨hbw.trans (t9.below (Nat.le_refl _)), rfl⟩
        · have z10 : ((c.toNat : Int) == 10) = false := beq_eq_false_iff_ne.2 (by omega)
          by_cases q92 : c.toNat = 92
          · rw [tx_esc _ q92] at hX
            have z92 : ((c.toNat : Int) == 92) = true := by rw [q92]; rfl
            have ce := escape_any wr (s.extract k s.size) (by rw [ByteArray.size_extract]; omega) (by rw [ByteArray.size_extract]; omega) (HEV.out.below hbw)
            rw [drop_tail] at ce
            have hkz : (k : Int) ≤ (s.size : Int) := by omega
            cases hEx : escX ((ls s).drop (k + 1)) with
            | none =>
              rw [hEx] at hX ce
              have HRE : Hid (R = .bad (k - i) 82) := by
                unfold Hid
                rw [HR.out, hX]
                show TR.bad (0 + (k - (i + 1)) + 1) 82 = _
                congr 1
                omega
              have hki : i + (k - i) = k := by omega
              have hce : Calls Tryz.prog 85 #[.string (s.extract k s.size)] wr fun e w' => e = .returned (.tuple #[.int .u8 0, .int .i64 0]) ∧ Below wr.heap.size wr w' := ce
              clear hX hdr q10 q34 q92 hEx ce
              go_wp2_with (first
                | (go_at_call 85; refine hce.mono ?_; rintro e w3 ⟨rfl, hb3⟩; have hzb3 := hzb.below hb3)
                | (refine wpList_store_tok rfl (.tmp 4) (.tmp 48) rfl w.heap.size tk0 tk0 rfl rfl hzb3 ?_; intro w9 h9 t9))
              rw [HRE.out]
              refine bodyPost_ret (v := .tuple #[.agg (tkC tk0), .int .i64 (k : Nat), .int .i64 ((82 : Nat) : Int)]) (results_tok rfl _ _ _ _ _ _ rfl rfl rfl h9) rfl ⟨hbw.trans ((hb3.mono hbw.size).trans (t9.below (Nat.le_refl _))), ?_⟩
              show Ending.returned _ = Ending.returned _
              rw [hki]
            | some xj =>
              obtain ⟨x, j⟩ := xj
              rw [hEx] at hX ce
              have hjl := escX_len hEx
              rw [List.length_drop, ls_size] at hjl
              dsimp only at hX
              rw [Tx.pre_push, List.drop_drop] at hX
              have HT2 : Hid (X = (txS ((ls s).drop (k + (j + 1)))).pre (pre ++ [x]) (k + (j + 1) - (i + 1))) := by
                unfold Hid
                rw [hX, show k + 1 + j = k + (j + 1) by omega, show k - (i + 1) + (j + 1) = k + (j + 1) - (i + 1) by omega]
              obtain ⟨m, hm⟩ : ∃ m, j + 1 = m := ⟨_, rfl⟩
              have hce : Calls Tryz.prog 85 #[.string (s.extract k s.size)] wr fun e w' => e = .returned (.tuple #[.int .u8 (x.toNat : Nat), .int .i64 (m : Nat)]) ∧ Below wr.heap.size wr w' := by rw [← hm]; exact ce
              rw [hm] at HT2
              have hm1 : 1 ≤ m := by omega
              have hmk : k + m ≤ s.size := by omega
              have hmz : ((m : Int) == 0) = false := beq_eq_false_iff_ne.2 (by omega)
              obtain ⟨r, hr⟩ : ∃ r, r = pre ++ [x] := ⟨_, rfl⟩
              have hrl : r.length = pre.length + 1 := by rw [hr]; simp
              rw [← hr] at HT2
              have HW := Lib.hid (fun (w3 : World) (hb3 : Below wr.heap.size wr w3) => (HB.out.then_ hb3).byte x (by omega) (Nat.le_trans hwz hb3.size) r hr)
              have HRL := Lib.hid hrl
              clear hX hdr q10 q34 q92 hEx ce hjl hr hrl hm
              go_wp2_with (first
                | (go_at_call 85; refine hce.mono ?_; rintro e w3 ⟨rfl, hb3⟩)
                | (go_at_call 86; refine (HW.out w3 hb3).mono ?_; rintro e w4 ⟨rfl, hB4, hb4⟩; have HB4 := Lib.hid hB4; clear hB4))
              go_roundw
              case rel => exact ⟨k + m, r, by go_num, by omega, by omega, by have := HRL.out; omega, HB4, below_tok (hzb.below hb3) hb4 (by omega), hbw.trans ((hb3.mono hbw.size).trans (hb4.mono (by omega))), Nat.le_trans (Nat.le_trans hwz hb3.size) hb4.size, HT2⟩
              case measure => simp [intOf]; omega
          · rw [tx_plain _ q10 q34 q92] at hX
            have z92 : ((c.toNat : Int) == 92) = false := beq_eq_false_iff_ne.2 (by omega)
            rw [Tx.pre_push] at hX
            obtain ⟨r, hr⟩ : ∃ r, r = pre ++ [c] := ⟨_, rfl⟩
            have hrl : r.length = pre.length + 1 := by rw [hr]; simp
            have HT2 : Hid (X = (txS ((ls s).drop (k + 1))).pre r (k + 1 - (i + 1))) := by
              unfold Hid
              rw [hX, hr, show k - (i + 1) + 1 = k + 1 - (i + 1) by omega]
            have cw := HB.out.byte c (by omega) hwz r hr
            have HRL := Lib.hid hrl
            clear hX hdr q10 q34 q92 hr hrl
            go_wp2_with (go_at_call 86; refine cw.mono ?_; rintro e w4 ⟨rfl, hB4, hb4⟩; have HB4 := Lib.hid hB4; clear hB4)
            go_roundw
            case rel => exact ⟨k + 1, r, by go_num, by omega, by omega, by have := HRL.out; omega, HB4, below_tok hzb hb4 (by omega), hbw.trans (hb4.mono (by omega)), Nat.le_trans hwz hb4.size, HT2⟩
            case measure => simp [intOf]; omega
    · obtain rfl : k = s.size := by omega
      have hltz : ¬ (s.size : Int) < (s.size : Int) := by omega
      have hX := HT.out
      rw [drop_end s (Nat.le_refl _)] at hX
      have HRE : Hid (R = .bad 0 81) := by unfold Hid; rw [HR.out, hX]; rfl
      clear hX
      go_wp2_with (refine wpList_store_tok rfl (.tmp 4) (.tmp 55) rfl w.heap.size tk0 tk0 rfl rfl hzb ?_; intro w9 h9 t9)
      rw [HRE.out]
      exact bodyPost_ret (v := .tuple #[.agg (tkC tk0), .int .i64 ((i + 0 : Nat) : Int), .int .i64 ((81 : Nat) : Int)]) (results_tok rfl _ _ _ _ _ _ rfl rfl rfl h9) rfl ⟨hbw.trans (t9.below (Nat.le_refl _)), rfl⟩
end Go.Proofs.YtipcgmaobiobbaaGreatDoor
/- The walks of the code: a token, whichever; the tokens of a text. -/
namespace Go.Proofs.YtipcgmaobiobbaaGreatDoor
open Go.RowKit

set_option maxRecDepth 100000 in
set_option maxHeartbeats 4000000 in
theorem next_any (w : World) (s : ByteArray) (i : Nat) (hi : i < s.size) (hs : s.size ≤ 1048576) (hE : EV w) :
    Calls Tryz.prog 32 #[.string s, .int .i64 i] w (TokAt (tokL ((ls s).drop i)) i w) := by
  obtain ⟨R, hR⟩ : ∃ R, tokL ((ls s).drop i) = R := ⟨_, rfl⟩
  obtain ⟨c, hc⟩ : ∃ c, s[i]'hi = c := ⟨_, rfl⟩
  obtain ⟨l, hl⟩ : ∃ l, (ls s).drop i = l := ⟨_, rfl⟩
  obtain ⟨r, hr⟩ : ∃ r, (ls s).drop (i + 1) = r := ⟨_, rfl⟩
  have hdr := drop_at s hi
  rw [hc, hl, hr] at hdr
  rw [hR]
  rw [hl] at hR
  have hz := tkz w
  obtain ⟨W1, hW1⟩ : ∃ W1, w.alloc (.cells (tkC tk0) 84) = W1 := ⟨_, rfl⟩
  have cl := fun W => letter_any W c
  have cd := fun W => digit_any W c
  have cm := fun W => mark_any W c
  have hiz : (i : Int) < (s.size : Int) := by omega
  by_cases hL : isL c = true
  · have cw := word_any (w.alloc (.cells (tkC tk0) 84)) s i (by omega) hs
    rw [hl, hdr, ← tokL_word r hL, ← hdr, hR] at cw
    simp only [hL] at cl
    clear hdr hR hl hr cd cm hL hW1
    go_enter Tryz.func32, Tryz.ntmps32
    go_wp2_with (first
      | (go_at_call 57; refine (cl _).mono ?_; rintro e w2 ⟨rfl, rfl⟩)
      | (go_at_call 58; refine cw.mono ?_; intro e w3 h3; obtain ⟨x, u, v, rfl⟩ := h3.val; have H3 := Lib.hid h3; clear h3; have hz3 := hz.below H3.out.1)
      | (refine wpList_store_tok rfl (.tmp 4) (.tmp 17) rfl w.heap.size tk0 x rfl rfl hz3 ?_; intro w9 h9 t9))
    exact bodyPost_ret (v := .tuple #[.agg (tkC x), u, v]) (results_tok rfl _ _ _ _ _ _ rfl rfl rfl h9) rfl ⟨((Below.refl _ w).alloc (Nat.le_refl _) _).trans ((H3.out.1.mono (by simp)).trans (t9.below (Nat.le_refl _))), H3.out.2⟩
  · have hLf : isL c = false := by simpa using hL
    simp only [hLf] at cl
    by_cases hD : isD c = true
    · have cw := number_any (w.alloc (.cells (tkC tk0) 84)) s i (by omega) hs (by rw [hl, hdr]; exact numN_pos hD) (hE.new _)
      rw [hl, hdr, ← tokL_num r hLf hD, ← hdr, hR] at cw
      simp only [hD] at cd
      clear hdr hR hl hr cm hL hLf hD hW1
      go_enter Tryz.func32, Tryz.ntmps32
      go_wp2_with (first
        | (go_at_call 57; refine (cl _).mono ?_; rintro e w2 ⟨rfl, rfl⟩)
        | (go_at_call 59; refine (cd _).mono ?_; rintro e w2 ⟨rfl, rfl⟩)
        | (go_at_call 60; refine cw.mono ?_; intro e w3 h3; obtain ⟨x, u, v, rfl⟩ := h3.val; have H3 := Lib.hid h3; clear h3; have hz3 := hz.below H3.out.1)
        | (refine wpList_store_tok rfl (.tmp 4) (.tmp 26) rfl w.heap.size tk0 x rfl rfl hz3 ?_; intro w9 h9 t9))
      exact bodyPost_ret (v := .tuple #[.agg (tkC x), u, v]) (results_tok rfl _ _ _ _ _ _ rfl rfl rfl h9) rfl ⟨((Below.refl _ w).alloc (Nat.le_refl _) _).trans ((H3.out.1.mono (by simp)).trans (t9.below (Nat.le_refl _))), H3.out.2⟩
    · have hDf : isD c = false := by simpa using hD
      simp only [hDf] at cd
      by_cases q34 : c.toNat = 34
      · have cw := text_any (w.alloc (.cells (tkC tk0) 84)) s i hi hs (hE.new _)
        rw [hl, hdr, ← tokL_text r hLf hDf q34, ← hdr, hR] at cw
        have z34 : ((c.toNat : Int) == 34) = true := by rw [q34]; rfl
        clear hdr hR hl hr cm hL hLf hD hDf hW1 q34
        go_enter Tryz.func32, Tryz.ntmps32
        go_wp2_with (first
          | (go_at_call 57; refine (cl _).mono ?_; rintro e w2 ⟨rfl, rfl⟩)
          | (go_at_call 59; refine (cd _).mono ?_; rintro e w2 ⟨rfl, rfl⟩)
          | (go_at_call 61; refine cw.mono ?_; intro e w3 h3; obtain ⟨x, u, v, rfl⟩ := h3.val; have H3 := Lib.hid h3; clear h3; have hz3 := hz.below H3.out.1)
          | (refine wpList_store_tok rfl (.tmp 4) (.tmp 35) rfl w.heap.size tk0 x rfl rfl hz3 ?_; intro w9 h9 t9))
        exact bodyPost_ret (v := .tuple #[.agg (tkC x), u, v]) (results_tok rfl _ _ _ _ _ _ rfl rfl rfl h9) rfl ⟨((Below.refl _ w).alloc (Nat.le_refl _) _).trans ((H3.out.1.mono (by simp)).trans (t9.below (Nat.le_refl _))), H3.out.2⟩
      · have z34 : ((c.toNat : Int) == 34) = false := beq_eq_false_iff_ne.2 (by omega)
        by_cases hM : isM c = true
        · have hRE : R = .tok 4 (ls (s.extract i (i + 1))) 0 1 := by
            rw [← hR, hdr, tokL_mark r hLf hDf q34 hM, ls_extract, hl, hdr, show i + 1 - i = 1 by omega]
            rfl
          have HRE := Lib.hid hRE
          simp only [hM] at cm
          have cc := fun W => clone_any W (s.extract i (i + 1)) (by rw [ByteArray.size_extract]; omega)
          clear hdr hR hl hr hL hLf hD hDf hW1 q34 hM hRE
          go_enter Tryz.func32, Tryz.ntmps32
          go_wp2_with (first
            | (go_at_call 57; refine (cl _).mono ?_; rintro e w2 ⟨rfl, rfl⟩)
            | (go_at_call 59; refine (cd _).mono ?_; rintro e w2 ⟨rfl, rfl⟩)
            | (go_at_call 55; refine (cm _).mono ?_; rintro e w2 ⟨rfl, rfl⟩)
            | (go_at_call 62; refine (cc _).mono ?_; rintro e w3 ⟨rfl, hb3⟩; have hz3 := hz.below hb3)
            | (refine wpList_store_tok rfl (.tmp 4) (.tmp 50) rfl w.heap.size tk0 ⟨4, ls (s.extract i (i + 1)), 0, i, i + 1⟩ rfl rfl hz3 ?_; intro w9 h9 t9))
          rw [HRE.out]
          exact bodyPost_ret (v := .tuple #[.agg (tkC ⟨4, ls (s.extract i (i + 1)), 0, i, i + 1⟩), .int .i64 0, .int .i64 0]) (results_tok rfl _ _ _ _ _ _ rfl rfl rfl h9) rfl ⟨((Below.refl _ w).alloc (Nat.le_refl _) _).trans ((hb3.mono (by simp)).trans (t9.below (Nat.le_refl _))), rfl⟩
        · have hMf : isM c = false := by simpa using hM
          have hRE : R = .bad 0 80 := by
            rw [← hR, hdr, tokL_none r hLf hDf q34 hMf]
          have HRE := Lib.hid hRE
          simp only [hMf] at cm
          clear hdr hR hl hr hL hLf hD hDf hW1 q34 hM hMf hRE
          go_enter Tryz.func32, Tryz.ntmps32
          go_wp2_with (first
            | (go_at_call 57; refine (cl _).mono ?_; rintro e w2 ⟨rfl, rfl⟩)
            | (go_at_call 59; refine (cd _).mono ?_; rintro e w2 ⟨rfl, rfl⟩)
            | (go_at_call 55; refine (cm _).mono ?_; rintro e w2 ⟨rfl, rfl⟩)
            | (refine wpList_store_tok rfl (.tmp 4) (.tmp 51) rfl w.heap.size tk0 tk0 rfl rfl hz ?_; intro w9 h9 t9))
          rw [HRE.out]
          exact bodyPost_ret (v := .tuple #[.agg (tkC tk0), .int .i64 ((i + 0 : Nat) : Int), .int .i64 ((80 : Nat) : Int)]) (results_tok rfl _ _ _ _ _ _ rfl rfl rfl h9) rfl ⟨below_alloc t9, rfl⟩

set_option maxRecDepth 100000 in
set_option maxHeartbeats 4000000 in
theorem lex_any (w : World) (s : ByteArray) (hE : EV w) : Calls Tryz.prog 17 #[.string s] w (LexAt (lexS s) w) := by
  obtain ⟨R, hR⟩ : ∃ R, lexS s = R := ⟨_, rfl⟩
  rw [hR]
  have HEV := Lib.hid hE
  clear hE
  by_cases hbig : 1048576 < s.size
  · have hz : (1048576 : Int) < (s.size : Int) := by omega
    have HRE : Hid (R = .bad 0 2) := by unfold Hid; rw [← hR]; exact if_pos hbig
    clear hR
    go_enter Tryz.func17, Tryz.ntmps17
    go_wp2
    rw [HRE.out]
    exact bodyPost_ret (v := .tuple #[.slice none 0 0, .int .i64 ((0 : Nat) : Int), .int .i64 ((2 : Nat) : Int)]) (results_three rfl _ _ _ _ _ rfl rfl rfl) rfl ⟨Below.refl _ _, rfl⟩
  · have hs : s.size ≤ 1048576 := by omega
    have hz : ¬ (1048576 : Int) < (s.size : Int) := by omega
    have HI : Hid (LexInv s R [] (0 + skipS false ((ls s).drop 0))) := by
      unfold Hid
      refine ⟨0, rfl, Nat.zero_le _, ?_, Nat.le_refl _⟩
      rw [← hR, List.drop_zero, LR.pre_nil]
      exact if_neg hbig
    have cs0 := skip_any w s 0 (Nat.zero_le _) (by omega)
    clear hR
    obtain ⟨k0, hk0⟩ : ∃ k0, 0 + skipS false ((ls s).drop 0) = k0 := ⟨_, rfl⟩
    rw [hk0] at HI cs0
    clear hk0
    go_enter Tryz.func17, Tryz.ntmps17
    go_wp2_with (go_at_call 31; refine cs0.mono ?_; rintro e w2 ⟨rfl, rfl⟩)
    go_loopw [5, 6] (fun o v wr => ∃ (k : Nat) (A : Option Addr) (c : Nat) (pre : List Tk), o = .slice A pre.length c ∧ v = .int .i64 k ∧ Hid (LexInv s R pre k) ∧ Hid (OwnT wr w.heap.size A c pre) ∧ Below w.heap.size w wr) (fun _ v _ => s.size - (intOf v).toNat)
    case atStart => exact ⟨k0, none, 0, [], rfl, rfl, HI, OwnT.nil _ _, Below.refl _ _⟩
    case round =>
      obtain ⟨k, A, c0, pre, rfl, rfl, HJ, HO, hbw⟩ := hrel
      have hk := HJ.out.k_le
      by_cases hlt : k < s.size
      · have hltz : (k : Int) < (s.size : Int) := by omega
        have ct := next_any wr s k hlt hs (HEV.out.below hbw)
        cases hT : tokL ((ls s).drop k) with
        | bad o x =>
          rw [hT] at ct
          have HRE := Lib.hid (HJ.out.bad hlt hT)
          have hx : ((x : Int) != 0) = true := by have := tok_err hT; simp; omega
          clear hT
          have hce : Calls Tryz.prog 32 #[.string s, .int .i64 k] wr fun e w' => e = .returned (.tuple #[.agg (tkC tk0), .int .i64 ((k + o : Nat) : Int), .int .i64 (x : Nat)]) ∧ Below wr.heap.size wr w' := ct.mono fun e w' h => ⟨h.2, h.1⟩
          clear ct
          go_wp2_with (first
            | (go_at_call 32; refine hce.mono ?_; rintro e w3 ⟨rfl, hb3⟩; have hz3 := tkz w3)
            | (refine wpList_store_tok rfl (.tmp 7) (.tmp 23) rfl w3.heap.size tk0 tk0 rfl rfl hz3 ?_; intro w9 h9 t9))
          rw [HRE.out]
          exact bodyPost_ret (v := .tuple #[.slice none 0 0, .int .i64 ((k + o : Nat) : Int), .int .i64 (x : Nat)]) (results_three rfl _ _ _ _ _ rfl rfl rfl) rfl ⟨(hbw.trans (hb3.mono hbw.size)).trans ((below_alloc t9).mono (Nat.le_trans hbw.size hb3.size)), rfl⟩
        | tok q t n len =>
          rw [hT] at ct
          obtain ⟨hJ2, hkl, hl1⟩ := HJ.out.tok hlt hT
          obtain ⟨x, hx⟩ : ∃ x, (⟨q, t, n, k, k + len⟩ : Tk) = x := ⟨_, rfl⟩
          have hce : Calls Tryz.prog 32 #[.string s, .int .i64 k] wr fun e w' => e = .returned (.tuple #[.agg (tkC x), .int .i64 0, .int .i64 0]) ∧ Below wr.heap.size wr w' := by
            rw [← hx]
            exact ct.mono fun e w' h => ⟨h.2, h.1⟩
          have hxe : x.e = k + len := by rw [← hx]
          obtain ⟨p, hp⟩ : ∃ p, k + len = p := ⟨_, rfl⟩
          have cs := fun W => skip_any W s p (by omega) (by omega)
          rw [hp] at hxe
          rw [hx] at hJ2
          rw [hp] at hJ2
          obtain ⟨k2, hk2⟩ : ∃ k2, p + skipS false ((ls s).drop p) = k2 := ⟨_, rfl⟩
          simp only [hk2] at cs
          rw [hk2] at hJ2
          have hkk : k < k2 := by omega
          have hk2s := hJ2.k_le.1
          obtain ⟨r, hr⟩ : ∃ r, r = pre ++ [x] := ⟨_, rfl⟩
          rw [← hr] at hJ2
          have hrl : r.length ≤ 2000000000 := by have := hJ2.k_le.2; omega
          have HJ2 := Lib.hid hJ2
          have APP := Lib.hid (fun (w9 : World) (hb : Below wr.heap.size wr w9) => run_app_tok (HO.out.then_ hb) x r hr hrl (Nat.le_trans hbw.size hb.size))
          have OFF := Lib.hid (fun (g : Nat) (hg : wr.heap.size ≤ g) => HO.out.off hg)
          have hsz5 : (tkC x).size = 5 := rfl
          clear hT hJ2 hx ct hr hk2 hp
          go_wp2_with (first
            | (go_at_call 32; refine hce.mono ?_; rintro e w3 ⟨rfl, hb3⟩; have hz3 := tkz w3)
            | (refine wpList_store_tok rfl (.tmp 7) (.tmp 23) rfl w3.heap.size tk0 x rfl rfl hz3 ?_; intro w9 h9 t9; have hb9 := hb3.trans ((below_alloc t9).mono hb3.size); obtain ⟨A', c', w4, ha, ho4, hb4, hk4⟩ := APP.out w9 hb9; have h4 := h9.keep (hk4 _ h9.len (OFF.out _ hb3.size)); have hc4 := h4.cells.2.2.2.2; rw [hxe] at hc4; have HA := Lib.hid ha; have HO4 := Lib.hid ho4; clear ha ho4 hk4)
            | (refine wpList_load_tok rfl (.tmp 7) rfl w3.heap.size x rfl h9 ?_)
            | (at_builtin; refine wpList_append_run rfl (.tmp 30) (.tmp 32) _ rfl rfl rfl HA.out ?_)
            | (go_at_call 31; refine (cs _).mono ?_; rintro e w5 ⟨rfl, rfl⟩))
          go_roundw
          case rel => exact ⟨k2, A', c', r, rfl, rfl, HJ2, HO4, (hbw.trans (hb9.mono hbw.size)).trans hb4⟩
          case measure => simp [intOf]; omega
      · obtain rfl : k = s.size := by omega
        have HRE := Lib.hid HJ.out.end_
        have hltz : ¬ (s.size : Int) < (s.size : Int) := by omega
        obtain ⟨r, hr⟩ : ∃ r, r = pre ++ [endTk s.size] := ⟨_, rfl⟩
        obtain ⟨A', c', w4, ha, ho4, hb4, _⟩ := run_app_tok HO.out (endTk s.size) r hr (by rw [hr, List.length_append]; show _ + 1 ≤ _; omega) hbw.size
        rw [← hr] at HRE
        have HA := Lib.hid ha
        have HO4 := Lib.hid ho4
        clear ha ho4 hr
        go_wp2_with (at_builtin; refine wpList_append_run rfl (.tmp 38) (.tmp 44) _ rfl rfl rfl HA.out ?_)
        rw [HRE.out]
        exact bodyPost_ret (v := .tuple #[.slice A' r.length c', .int .i64 0, .int .i64 0]) (results_three rfl _ _ _ _ _ rfl rfl rfl) rfl ⟨hbw.trans hb4, A', c', rfl, HO4.out.reads⟩
end Go.Proofs.YtipcgmaobiobbaaGreatDoor
