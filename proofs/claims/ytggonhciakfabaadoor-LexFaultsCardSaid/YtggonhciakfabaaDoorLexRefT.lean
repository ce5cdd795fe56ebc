/- The walk of the reference: a text. -/
import Derived.Test.YtggonhciakfabaaDoorLexRefE
import Derived.Test.YtggonhciakfabaaDoorBytNew
namespace Go.Proofs.YtggonhciakfabaaDoor
open Go.RowKit
open Go.Lib (byteCells)

/-- the text that stands at i -/
def txR : Tx → TR
  | .done t n => .tok 3 t 0 (n + 1)
  | .esc o => .bad (o + 1) 82
  | .wide => .bad 0 81
def textR (l : List UInt8) : TR := txR (txS (l.drop 1))

/-- behind m bytes that stand for l -/
def Tx.pre (l : List UInt8) (m : Nat) : Tx → Tx
  | .done t n => .done (l ++ t) (n + m)
  | .esc o => .esc (o + m)
  | .wide => .wide
theorem Tx.pre_nil (x : Tx) : x.pre [] 0 = x := by cases x <;> rfl
theorem Tx.pre_push (x : Tx) (c : UInt8) (j : Nat) (l : List UInt8) (m : Nat) : (x.push c j).pre l m = x.pre (l ++ [c]) (m + j) := by
  cases x <;> simp [Tx.push, Tx.pre] <;> omega

theorem below_tok {w4 wr : World} {B : Nat} {x : Tk} {g : Nat} (h : TBlk wr g x) (hb : Below B wr w4) (hg : g < B) : TBlk w4 g x := h.keep (hb.block g hg)

set_option maxRecDepth 100000 in
set_option maxHeartbeats 4000000 in
theorem rtext_any (w : World) (s : ByteArray) (i : Nat) (hi : i < s.size) (hs : s.size ≤ 1048576) :
    Calls Tryd.prog 34 #[.string s, .int .i64 i] w (TokAt (textR ((ls s).drop i)) i w) := by
  obtain ⟨R, hR⟩ : ∃ R, textR ((ls s).drop i) = R := ⟨_, rfl⟩
  obtain ⟨X, hX⟩ : ∃ X, txS ((ls s).drop (i + 1)) = X := ⟨_, rfl⟩
  have hRX : R = txR X := by
    rw [← hR, ← hX]
    unfold textR
    rw [List.drop_drop]
  rw [hR]
  have HR := Lib.hid hRX
  have HX := Lib.hid hX
  have hz := tkz w
  have hB0 : Below w.heap.size w (w.alloc (.cells (tkC tk0) 32)) := (Below.refl _ w).alloc (Nat.le_refl _) _
  have hbs : w.heap.size + 1 ≤ (w.alloc (.cells (tkC tk0) 32)).heap.size := by simp
  clear hR hX hRX
  go_enter Tryd.func34, Tryd.ntmps34
  go_wp2
  go_loopw [7, 8] (fun o v wr => ∃ (k : Nat) (A : Option Addr) (c : Nat) (pre : List UInt8), o = .slice A pre.length c ∧ v = .int .i64 k ∧ i + 1 ≤ k ∧ k ≤ s.size ∧ pre.length ≤ k ∧ Hid (OwnB wr (w.heap.size + 1) 5 A c pre) ∧ TBlk wr w.heap.size tk0 ∧ Below w.heap.size w wr ∧ w.heap.size + 1 ≤ wr.heap.size ∧ Hid (X = (txS ((ls s).drop k)).pre pre (k - (i + 1)))) (fun _ v _ => s.size - (intOf v).toNat)
  case atStart => exact ⟨i + 1, none, 0, [], rfl, by go_num, Nat.le_refl _, by omega, by simp, OwnB.nil _ _ _, hz, hB0, hbs, by unfold Hid; rw [Nat.sub_self, Tx.pre_nil, HX.out]⟩
  case round =>
    obtain ⟨k, A, c0, pre, rfl, rfl, hik, hk, hpk, HO, hzb, hbw, hwz, HT⟩ := hrel
    by_cases hlt : k < s.size
    · have hltz : (k : Int) < (s.size : Int) := by omega
      obtain ⟨c, hc⟩ : ∃ c, s[k]'hlt = c := ⟨_, rfl⟩
      have hdr := drop_at s hlt
      rw [hc] at hdr
      have hX := HT.out
      rw [hdr] at hX
      by_cases q10 : c.toNat = 10
      · rw [tx_line _ q10] at hX
        have HRE : Hid (R = .bad 0 81) := by unfold Hid; rw [HR.out, hX]; rfl
        have z10 : ((c.toNat : Int) != 10) = false := by simp [q10]
        clear hX hdr q10
        go_wp2_with (refine wpList_store_tok rfl (.tmp 4) (.tmp 61) rfl w.heap.size tk0 tk0 rfl rfl hzb ?_; intro w9 h9 t9)
        rw [HRE.out]
        exact bodyPost_ret (v := .tuple #[.agg (tkC tk0), .int .i64 ((i + 0 : Nat) : Int), .int .i64 ((81 : Nat) : Int)]) (results_tok rfl _ _ _ _ _ _ rfl rfl rfl h9) rfl ⟨hbw.trans (t9.below (Nat.le_refl _)), rfl⟩
      · have z10 : ((c.toNat : Int) != 10) = true := by simp; omega
        by_cases q34 : c.toNat = 34
        · rw [tx_close _ q34] at hX
          have HRE : Hid (R = .tok 3 pre 0 (k + 1 - i)) := by
            unfold Hid
            rw [HR.out, hX]
            show TR.tok 3 (pre ++ []) 0 _ = _
            rw [List.append_nil]
            congr 1
            omega
          have z34 : ((c.toNat : Int) == 34) = true := by rw [q34]; rfl
          have hst := own_byt HO.out c0
          clear hX hdr q10 q34
          go_wp2_with (refine wpList_store_tok rfl (.tmp 4) (.tmp 41) rfl w.heap.size tk0 ⟨3, pre, 0, i, k + 1⟩ rfl rfl hzb ?_; intro w9 h9 t9)
          rw [HRE.out]
          refine bodyPost_ret (v := .tuple #[.agg (tkC ⟨3, pre, 0, i, k + 1⟩), .int .i64 0, .int .i64 0]) (results_tok rfl _ _ _ _ _ _ rfl rfl rfl h9) rfl ⟨hbw.trans (t9.below (Nat.le_refl _)), ?_⟩
          show Ending.returned _ = Ending.returned _
          rw [show i + (k + 1 - i) = k + 1 by omega]
        · have z34 : ((c.toNat : Int) == 34) = false := beq_eq_false_iff_ne.2 (by omega)
          by_cases q92 : c.toNat = 92
          · rw [tx_esc _ q92] at hX
            have z92 : ((c.toNat : Int) == 92) = true := by rw [q92]; rfl
            have ce := rescape_any wr s k hlt hs
            cases hE : escX ((ls s).drop (k + 1)) with
            | none =>
              rw [hE] at hX ce
              have HRE : Hid (R = .bad (k - i) 82) := by
                unfold Hid
                rw [HR.out, hX]
                show TR.bad (0 + (k - (i + 1)) + 1) 82 = _
                congr 1
                omega
              have hki : i + (k - i) = k := by omega
              have hce : Calls Tryd.prog 45 #[.string s, .int .i64 k] wr fun e w' => e = .returned (.tuple #[.int .u8 0, .int .i64 0]) ∧ Below wr.heap.size wr w' := ce
              clear hX hdr q10 q34 q92 hE ce
              go_wp2_with (first
                | (go_at_call 45; refine hce.mono ?_; rintro e w3 ⟨rfl, hb3⟩; have hzb3 := hzb.below hb3)
                | (refine wpList_store_tok rfl (.tmp 4) (.tmp 52) rfl w.heap.size tk0 tk0 rfl rfl hzb3 ?_; intro w9 h9 t9))
              rw [HRE.out]
              refine bodyPost_ret (v := .tuple #[.agg (tkC tk0), .int .i64 (k : Nat), .int .i64 ((82 : Nat) : Int)]) (results_tok rfl _ _ _ _ _ _ rfl rfl rfl h9) rfl ⟨hbw.trans ((hb3.mono hbw.size).trans (t9.below (Nat.le_refl _))), ?_⟩
              show Ending.returned _ = Ending.returned _
              rw [hki]
            | some xj =>
              obtain ⟨x, j⟩ := xj
              rw [hE] at hX ce
              have hjl := escX_len hE
              rw [List.length_drop, ls_size] at hjl
              dsimp only at hX
              rw [Tx.pre_push, List.drop_drop] at hX
              have HT2 : Hid (X = (txS ((ls s).drop (k + (j + 1)))).pre (pre ++ [x]) (k + (j + 1) - (i + 1))) := by
                unfold Hid
                rw [hX, show k + 1 + j = k + (j + 1) by omega, show k - (i + 1) + (j + 1) = k + (j + 1) - (i + 1) by omega]
              obtain ⟨m, hm⟩ : ∃ m, j + 1 = m := ⟨_, rfl⟩
              have hce : Calls Tryd.prog 45 #[.string s, .int .i64 k] wr fun e w' => e = .returned (.tuple #[.int .u8 (x.toNat : Nat), .int .i64 (m : Nat)]) ∧ Below wr.heap.size wr w' := by rw [← hm]; exact ce
              rw [hm] at HT2
              have hm1 : 1 ≤ m := by omega
              have hmk : k + m ≤ s.size := by omega
              have hmz : ((m : Int) == 0) = false := beq_eq_false_iff_ne.2 (by omega)
              obtain ⟨r, hr⟩ : ∃ r, r = pre ++ [x] := ⟨_, rfl⟩
              have hrl : r.length = pre.length + 1 := by rw [hr]; simp
              rw [← hr] at HT2
              have app := fun {w3 : World} (hb3 : Below wr.heap.size wr w3) => run_app_new (HO.out.then_ hb3) #[.int .u8 (x.toNat : Nat)] [x] 1 rfl (by simp [byteCells]) 5 r hr (by omega) (Nat.le_trans hwz hb3.size)
              have APP := Lib.hid (fun (w3 : World) (hb3 : Below wr.heap.size wr w3) => app hb3)
              have HRL := Lib.hid hrl
              clear hX hdr q10 q34 q92 hE ce hjl hr hrl app hm
              go_wp2_with (first
                | (go_at_call 45; refine hce.mono ?_; rintro e w3 ⟨rfl, hb3⟩; obtain ⟨A', c', w4, ha, ho4, hb4⟩ := APP.out w3 hb3; have HA := Lib.hid ha; have HO4 := Lib.hid ho4; clear ha ho4)
                | (at_builtin; refine wpList_append_run rfl (.tmp 54) (.tmp 56) _ rfl rfl rfl HA.out ?_))
              go_roundw
              case rel => exact ⟨k + m, A', c', r, rfl, by go_num, by omega, by omega, by have := HRL.out; omega, HO4, below_tok (hzb.below hb3) hb4 (by omega), hbw.trans ((hb3.mono hbw.size).trans (hb4.mono (by omega))), Nat.le_trans (Nat.le_trans hwz hb3.size) hb4.size, HT2⟩
              case measure => simp [intOf]; omega
          · rw [tx_plain _ q10 q34 q92] at hX
            have z92 : ((c.toNat : Int) == 92) = false := beq_eq_false_iff_ne.2 (by omega)
            rw [Tx.pre_push] at hX
            obtain ⟨r, hr⟩ : ∃ r, r = pre ++ [c] := ⟨_, rfl⟩
            have hrl : r.length = pre.length + 1 := by rw [hr]; simp
            have HT2 : Hid (X = (txS ((ls s).drop (k + 1))).pre r (k + 1 - (i + 1))) := by
              unfold Hid
              rw [hX, hr, show k - (i + 1) + 1 = k + 1 - (i + 1) by omega]
            obtain ⟨A', c', w4, ha, ho4, hb4⟩ := run_app_new HO.out #[.int .u8 (c.toNat : Nat)] [c] 1 rfl (by simp [byteCells]) 5 r hr (by omega) hwz
            have HA := Lib.hid ha
            have HO4 := Lib.hid ho4
            have HRL := Lib.hid hrl
            clear hX hdr q10 q34 q92 hr hrl ha ho4
            go_wp2_with (at_builtin; refine wpList_append_run rfl (.tmp 26) (.tmp 30) _ rfl rfl rfl HA.out ?_)
            go_roundw
            case rel => exact ⟨k + 1, A', c', r, rfl, by go_num, by omega, by omega, by have := HRL.out; omega, HO4, below_tok hzb hb4 (by omega), hbw.trans (hb4.mono (by omega)), Nat.le_trans hwz hb4.size, HT2⟩
            case measure => simp [intOf]; omega
    · have hX := HT.out
      rw [drop_end s (by omega), tx_nil] at hX
      have HRE : Hid (R = .bad 0 81) := by unfold Hid; rw [HR.out, hX]; rfl
      have hltz : ¬ (k : Int) < (s.size : Int) := by omega
      clear hX
      go_wp2_with (refine wpList_store_tok rfl (.tmp 4) (.tmp 61) rfl w.heap.size tk0 tk0 rfl rfl hzb ?_; intro w9 h9 t9)
      rw [HRE.out]
      exact bodyPost_ret (v := .tuple #[.agg (tkC tk0), .int .i64 ((i + 0 : Nat) : Int), .int .i64 ((81 : Nat) : Int)]) (results_tok rfl _ _ _ _ _ _ rfl rfl rfl h9) rfl ⟨hbw.trans (t9.below (Nat.le_refl _)), rfl⟩
end Go.Proofs.YtggonhciakfabaaDoor
