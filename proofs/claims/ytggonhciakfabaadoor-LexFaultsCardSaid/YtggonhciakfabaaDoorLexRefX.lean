/- The walk of the reference: the tokens of a text. -/
import Derived.Test.YtggonhciakfabaaDoorLexRefK
import Derived.Test.YtggonhciakfabaaDoorLexLast
namespace Go.Proofs.YtggonhciakfabaaDoor
open Go.RowKit

/-- what is answered of a text -/
def lexS (s : ByteArray) : LR := if 1048576 < s.size then .bad 0 2 else lexL (ls s) 0
def LexAt (R : LR) (w : World) (e : Ending) (w' : World) : Prop :=
  Below w.heap.size w w' ∧ match R with
    | .ok l => ∃ A c, e = .returned (.tuple #[.slice A l.length c, .int .i64 0, .int .i64 0]) ∧ TRow w' w'.heap.size A l
    | .bad p x => e = .returned (.tuple #[.slice none 0 0, .int .i64 (p : Nat), .int .i64 (x : Nat)])

/-- what the loop knows: the tokens of the text are those kept and those of what stands from a place on, and the place it stands at is the one behind the blanks there -/
def LexInv (s : ByteArray) (R : LR) (pre : List Tk) (k : Nat) : Prop := ∃ j, k = j + skipS false ((ls s).drop j) ∧ j ≤ s.size ∧ R = (lexL ((ls s).drop j) j).pre pre ∧ pre.length ≤ j
theorem LexInv.k_le {s : ByteArray} {R : LR} {pre : List Tk} {k : Nat} (h : LexInv s R pre k) : k ≤ s.size ∧ pre.length ≤ k := by
  obtain ⟨j, rfl, hj, _, hp⟩ := h
  have := skipS_le false ((ls s).drop j)
  rw [List.length_drop, ls_size] at this
  omega
theorem LexInv.end_ {s : ByteArray} {R : LR} {pre : List Tk} (h : LexInv s R pre s.size) : R = .ok (pre ++ [endTk s.size]) := by
  obtain ⟨j, e, hj, rfl, _⟩ := h
  rw [lexL_done (by rw [List.length_drop, ls_size]; omega), List.length_drop, ls_size, show j + (s.size - j) = s.size by omega]
  rfl
theorem LexInv.bad {s : ByteArray} {R : LR} {pre : List Tk} {k o e : Nat} (h : LexInv s R pre k) (hk : k < s.size) (ht : tokL ((ls s).drop k) = .bad o e) : R = .bad (k + o) e := by
  obtain ⟨j, rfl, hj, rfl, _⟩ := h
  rw [lexL_bad (by rw [List.length_drop, ls_size]; omega) (by rw [List.drop_drop]; exact ht)]
  rfl
theorem LexInv.tok {s : ByteArray} {R : LR} {pre : List Tk} {k q n len : Nat} {t : List UInt8} (h : LexInv s R pre k) (hk : k < s.size) (ht : tokL ((ls s).drop k) = .tok q t n len) :
    LexInv s R (pre ++ [⟨q, t, n, k, k + len⟩]) (k + len + skipS false ((ls s).drop (k + len))) ∧ k + len ≤ s.size ∧ 1 ≤ len := by
  have hl := tokL_len ht
  rw [List.length_drop, ls_size] at hl
  have hp := h.k_le
  obtain ⟨j, rfl, hj, rfl, _⟩ := h
  refine ⟨⟨_, rfl, by omega, ?_, by rw [List.length_append]; show _ + 1 ≤ _; omega⟩, by omega, hl.1⟩
  rw [lexL_tok (by rw [List.length_drop, ls_size]; omega) (by rw [List.drop_drop]; exact ht), LR.pre_push, List.drop_drop, ← Nat.add_assoc]

/-- three slots, answered -/
theorem results_three {fn : Func} {s t q : Tmp} (h : fn.results = #[.tmp s, .tmp t, .tmp q]) (tmps : Array Value) (w : World) (x u v : Value)
    (hx : tmps.getD s undef = x) (hu : tmps.getD t undef = u) (hv : tmps.getD q undef = v) : (results fn tmps).run Tryd.prog w = .ok (.tuple #[x, u, v]) w := by
  unfold results
  rw [h]
  have hx' : tmps[s]?.getD undef = x := by simpa [Array.getD_eq_getD_getElem?] using hx
  have hu' : tmps[t]?.getD undef = u := by simpa [Array.getD_eq_getD_getElem?] using hu
  have hv' : tmps[q]?.getD undef = v := by simpa [Array.getD_eq_getD_getElem?] using hv
  simp [hx', hu', hv']

set_option maxRecDepth 100000 in
set_option maxHeartbeats 4000000 in
theorem rlex_any (w : World) (s : ByteArray) : Calls Tryd.prog 11 #[.string s] w (LexAt (lexS s) w) := by
  obtain ⟨R, hR⟩ : ∃ R, lexS s = R := ⟨_, rfl⟩
  rw [hR]
  by_cases hbig : 1048576 < s.size
  · have hz : (1048576 : Int) < (s.size : Int) := by omega
    have HRE : Hid (R = .bad 0 2) := by unfold Hid; rw [← hR]; exact if_pos hbig
    clear hR
    go_enter Tryd.func11, Tryd.ntmps11
    go_wp2
    rw [HRE.out]
    exact bodyPost_ret (v := .tuple #[.slice none 0 0, .int .i64 ((0 : Nat) : Int), .int .i64 ((2 : Nat) : Int)]) (results_three rfl _ _ _ _ _ rfl rfl rfl) rfl ⟨Below.refl _ _, rfl⟩
  · have hs : s.size ≤ 1048576 := by omega
    have hz : ¬ (1048576 : Int) < (s.size : Int) := by omega
    have HI : Hid (LexInv s R [] (0 + skipS false ((ls s).drop 0))) := by
      unfold Hid
      refine ⟨0, rfl, Nat.zero_le _, ?_, Nat.le_refl _⟩
      rw [← hR, List.drop_zero, LR.pre_nil]
      exact if_neg hbig
    have cs0 := rskip_any w s 0 (Nat.zero_le _) (by omega)
    clear hR
    obtain ⟨k0, hk0⟩ : ∃ k0, 0 + skipS false ((ls s).drop 0) = k0 := ⟨_, rfl⟩
    rw [hk0] at HI cs0
    clear hk0
    go_enter Tryd.func11, Tryd.ntmps11
    go_wp2_with (go_at_call 20; refine cs0.mono ?_; rintro e w2 ⟨rfl, rfl⟩)
    go_loopw [5, 6] (fun o v wr => ∃ (k : Nat) (A : Option Addr) (c : Nat) (pre : List Tk), o = .slice A pre.length c ∧ v = .int .i64 k ∧ Hid (LexInv s R pre k) ∧ Hid (OwnT wr w.heap.size A c pre) ∧ Below w.heap.size w wr) (fun _ v _ => s.size - (intOf v).toNat)
    case atStart => exact ⟨k0, none, 0, [], rfl, rfl, HI, OwnT.nil _ _, Below.refl _ _⟩
    case round =>
      obtain ⟨k, A, c0, pre, rfl, rfl, HJ, HO, hbw⟩ := hrel
      have hk := HJ.out.k_le
      by_cases hlt : k < s.size
      · have hltz : (k : Int) < (s.size : Int) := by omega
        have ct := rtoken_any wr s k hlt hs
        cases hT : tokL ((ls s).drop k) with
        | bad o x =>
          rw [hT] at ct
          have HRE := Lib.hid (HJ.out.bad hlt hT)
          have hx : ((x : Int) != 0) = true := by have := tok_err hT; simp; omega
          clear hT
          have hce : Calls Tryd.prog 21 #[.string s, .int .i64 k] wr fun e w' => e = .returned (.tuple #[.agg (tkC tk0), .int .i64 ((k + o : Nat) : Int), .int .i64 (x : Nat)]) ∧ Below wr.heap.size wr w' := ct.mono fun e w' h => ⟨h.2, h.1⟩
          clear ct
          go_wp2_with (first
            | (go_at_call 21; refine hce.mono ?_; rintro e w3 ⟨rfl, hb3⟩; have hz3 := tkz w3)
            | (refine wpList_store_tok rfl (.tmp 7) (.tmp 23) rfl w3.heap.size tk0 tk0 rfl rfl hz3 ?_; intro w9 h9 t9))
          rw [HRE.out]
          exact bodyPost_ret (v := .tuple #[.slice none 0 0, .int .i64 ((k + o : Nat) : Int), .int .i64 (x : Nat)]) (results_three rfl _ _ _ _ _ rfl rfl rfl) rfl ⟨(hbw.trans (hb3.mono hbw.size)).trans ((below_alloc t9).mono (Nat.le_trans hbw.size hb3.size)), rfl⟩
        | tok q t n len =>
          rw [hT] at ct
          obtain ⟨hJ2, hkl, hl1⟩ := HJ.out.tok hlt hT
          obtain ⟨x, hx⟩ : ∃ x, (⟨q, t, n, k, k + len⟩ : Tk) = x := ⟨_, rfl⟩
          have hce : Calls Tryd.prog 21 #[.string s, .int .i64 k] wr fun e w' => e = .returned (.tuple #[.agg (tkC x), .int .i64 0, .int .i64 0]) ∧ Below wr.heap.size wr w' := by
            rw [← hx]
            exact ct.mono fun e w' h => ⟨h.2, h.1⟩
          have hxe : x.e = k + len := by rw [← hx]
          obtain ⟨p, hp⟩ : ∃ p, k + len = p := ⟨_, rfl⟩
          have cs := fun W => rskip_any W s p (by omega) (by omega)
          rw [hp] at hxe
          rw [hx] at hJ2
          rw [hp] at hJ2
          obtain ⟨k2, hk2⟩ : ∃ k2, p + skipS false ((ls s).drop p) = k2 := ⟨_, rfl⟩
          simp only [hk2] at cs
          rw [hk2] at hJ2
          have hkk : k < k2 := by omega
          have hk2s := hJ2.k_le.1
          obtain ⟨r, hr⟩ : ∃ r, r = pre ++ [x] := ⟨_, rfl⟩
          rw [← hr] at hJ2
          have hrl : r.length ≤ 2000000000 := by have := hJ2.k_le.2; omega
          have HJ2 := Lib.hid hJ2
          have APP := Lib.hid (fun (w9 : World) (hb : Below wr.heap.size wr w9) => run_app_tok (HO.out.then_ hb) x r hr hrl (Nat.le_trans hbw.size hb.size))
          have OFF := Lib.hid (fun (g : Nat) (hg : wr.heap.size ≤ g) => HO.out.off hg)
          have hsz5 : (tkC x).size = 5 := rfl
          clear hT hJ2 hx ct hr hk2 hp
          go_wp2_with (first
            | (go_at_call 21; refine hce.mono ?_; rintro e w3 ⟨rfl, hb3⟩; have hz3 := tkz w3)
            | (refine wpList_store_tok rfl (.tmp 7) (.tmp 23) rfl w3.heap.size tk0 x rfl rfl hz3 ?_; intro w9 h9 t9; have hb9 := hb3.trans ((below_alloc t9).mono hb3.size); obtain ⟨A', c', w4, ha, ho4, hb4, hk4⟩ := APP.out w9 hb9; have h4 := h9.keep (hk4 _ h9.len (OFF.out _ hb3.size)); have hc4 := h4.cells.2.2.2.2; rw [hxe] at hc4; have HA := Lib.hid ha; have HO4 := Lib.hid ho4; clear ha ho4 hk4)
            | (refine wpList_load_tok rfl (.tmp 7) rfl w3.heap.size x rfl h9 ?_)
            | (at_builtin; refine wpList_append_run rfl (.tmp 30) (.tmp 32) _ rfl rfl rfl HA.out ?_)
            | (go_at_call 20; refine (cs _).mono ?_; rintro e w5 ⟨rfl, rfl⟩))
          go_roundw
          case rel => exact ⟨k2, A', c', r, rfl, rfl, HJ2, HO4, (hbw.trans (hb9.mono hbw.size)).trans hb4⟩
          case measure => simp [intOf]; omega
      · obtain rfl : k = s.size := by omega
        have HRE := Lib.hid HJ.out.end_
        have hltz : ¬ (s.size : Int) < (s.size : Int) := by omega
        obtain ⟨r, hr⟩ : ∃ r, r = pre ++ [endTk s.size] := ⟨_, rfl⟩
        obtain ⟨A', c', w4, ha, ho4, hb4, _⟩ := run_app_tok HO.out (endTk s.size) r hr (by rw [hr, List.length_append]; show _ + 1 ≤ _; omega) hbw.size
        rw [← hr] at HRE
        have HA := Lib.hid ha
        have HO4 := Lib.hid ho4
        clear ha ho4 hr
        go_wp2_with (at_builtin; refine wpList_append_run rfl (.tmp 38) (.tmp 44) _ rfl rfl rfl HA.out ?_)
        rw [HRE.out]
        exact bodyPost_ret (v := .tuple #[.slice A' r.length c', .int .i64 0, .int .i64 0]) (results_three rfl _ _ _ _ _ rfl rfl rfl) rfl ⟨hbw.trans hb4, A', c', rfl, HO4.out.reads⟩
end Go.Proofs.YtggonhciakfabaaDoor
