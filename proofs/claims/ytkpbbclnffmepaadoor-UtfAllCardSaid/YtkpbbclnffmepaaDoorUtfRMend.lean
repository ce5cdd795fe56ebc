/- The walk of the reference's Mend. -/
import Derived.Test.YtkpbbclnffmepaaDoorUtfRScan
namespace Go.Proofs.YtkpbbclnffmepaaDoor
open Go.RowKit
open Go.Lib (byteCells)

/-- a row of the call's own holds these bytes -/
def Own (w : World) (B g cap : Nat) (l : List UInt8) : Prop := w.ownsRow B 5 1 (.slice (some ⟨g, 0, none⟩) l.length cap) l.length (byteCells l)
theorem Own.below {w w' : World} {B g cap : Nat} {l : List UInt8} (h : Own w B g cap l) (hb : Below w.heap.size w w') : Own w' B g cap l :=
  World.ownsRow.kept h ⟨hb.os, hb.tape, hb.output, hb.size, fun k hk _ => hb.block k hk⟩ (row := none) (.inr (by simp [Value.ownBlock]))
theorem Own.app {w : World} {B g cap : Nat} {pre l : List UInt8} {n : Nat} {xs : List Value} (hn : n = l.length) (hx : xs = byteCells l) (h : w.ownsRow B 5 1 (.slice (some ⟨g, 0, none⟩) (pre.length + n) cap) (pre.length + n) (byteCells pre ++ xs)) : Own w B g cap (pre ++ l) := by
  subst hn hx
  unfold Own
  rw [List.length_append, Lib.byteCells_append]
  exact h
theorem Own.more {w wr w4 : World} {B g cap n m : Nat} {xs : List Value} {o : Obj} (hb : Below B w wr) (hB : B ≤ wr.heap.size) (hr : wr.ownsRow B 5 1 (.slice (some ⟨g, 0, none⟩) n cap) m xs)
    (hg : (wr.alloc o).grownBy w4 (Value.slice (some ⟨g, 0, none⟩) n cap).ownBlock) : Below B w w4 :=
  (hb.alloc hB o).grown hg (by simp; omega) fun k hk => (hr.lt k hk).1

set_option maxRecDepth 100000 in
set_option maxHeartbeats 2000000 in
theorem rmend_any {w0 w : World} (h : St w0 w) (s : ByteArray) (hs : s.size ≤ 1099511627776) :
    Calls Tryd.prog 20 #[.string s] w fun e w' => e = .returned (.string (tx (menL (ls s)))) ∧ St w0 w' := by
  obtain ⟨M, hM⟩ : ∃ M, M = menL (ls s) := ⟨_, rfl⟩
  rw [← hM]
  have HM := Lib.hid hM
  clear hM
  obtain ⟨i0, hi, hz0, hz1, hz2⟩ := info_parts bx.infoByte
  have HI := Lib.hid hi
  have HZ := Lib.hid (And.intro hz0 (And.intro hz1 hz2))
  clear hi hz0 hz1 hz2
  have ho : Own (w.alloc (.cells #[] 5)) w.heap.size w.heap.size 0 [] := World.ownsRow_made w #[] 0 (Nat.le_refl _) (by simp [maxLen]) rfl
  obtain ⟨B, hB⟩ : ∃ B, B = w.heap.size := ⟨_, rfl⟩
  have hB0 : Below B w w := by rw [hB]; exact Below.refl _ _
  have HB := Lib.hid hB
  go_enter Tryd.func20, Tryd.ntmps20
  go_wp2
  rw [← hB] at ho ⊢
  clear hB
  have HO := Lib.hid ho
  clear ho
  go_loopw [3, 4] (fun vo n wr => ∃ (i g cap : Nat) (acc : List UInt8), n = .int .i64 i ∧ vo = .slice (some ⟨g, 0, none⟩) acc.length cap ∧ i ≤ s.size ∧ acc.length ≤ 3 * i ∧ Hid (acc ++ menL ((ls s).drop i) = M) ∧ Hid (Own wr B g cap acc) ∧ Below B w wr) (fun _ n _ => s.size - (intOf n).toNat)
  case atStart => exact ⟨0, B, 0, [], rfl, rfl, Nat.zero_le _, Nat.zero_le _, by rw [List.drop_zero, ← HM.out]; rfl, HO, hB0.alloc (by have := HB.out; omega) _⟩
  case round =>
    clear hB0 HO
    obtain ⟨i, g, cap, acc, rfl, rfl, hi, hal, HA, HR, hbw⟩ := hrel
    have hsz := hbw.size
    have hBr : B ≤ wr.heap.size := by have := HB.out; omega
    by_cases hlt : i < s.size
    · have hltz : (i : Int) < (s.size : Int) := by omega
      have hne := drop_ne hlt
      have hsp := nx_cases _ hne
      have hrg := nx_range _ hne
      rw [List.length_drop, size_ls] at hrg
      obtain ⟨t, ht⟩ : ∃ t, s.extract i s.size = t := ⟨_, rfl⟩
      have hlt' : ls t = (ls s).drop i := by rw [← ht, ls_from]
      have hts : t.size ≤ 140737488355328 := by
        have := congrArg List.length hlt'
        rw [List.length_drop, size_ls, size_ls] at this
        omega
      have hst : St wr wr := St.first (h.then_ (by rw [← HB.out]; exact hbw)).tabs
      have hn := rnext_all hst t hts
      rw [hlt'] at hn
      clear hts hst
      rcases hsp with hx | ⟨c, r, hc, hl, hx⟩
      · rw [hx] at hn
        have hf : Hid (menL ((ls s).drop i) = [239, 191, 189] ++ menL ((ls s).drop (i + 1))) := by
          unfold Hid menL
          rw [tk_step _ hne, hx, List.drop_drop]
          rfl
        clear hx hne hrg hlt'
        go_wp2_with fail
        refine hn.mono ?_
        rintro e w1 ⟨rfl, hb1⟩
        have HR1 : Hid (Own w1 B g cap acc) := HR.out.below hb1.below
        have hz1 := hb1.below.size
        go_wp2_with (at_builtin; refine wpList_append_lies _ rfl _ _ 40 rfl B 5 i0 _ 1 1 Tryd.underlying40 HI.out HZ.out.1 HZ.out.2.1 HZ.out.2.2 rfl (by decide) (.slice (some ⟨g, 0, none⟩) acc.length cap) acc.length (byteCells acc) rfl (World.ownsRow.alloc HR1.out _) ⟨w1.heap.size, 0, none⟩ 3 3 [.int .u8 239, .int .u8 191, .int .u8 189] rfl rfl (World.news_of_block (cs := #[.int .u8 239, .int .u8 191, .int .u8 189]) (t := 5) (fr := (0, 0)) (heap_alloc_new w1 _)) (by simp [Value.oneCell']) (by omega) (by simp only [maxLen]; omega) (by omega) (by simp; omega) (w1.heap.size + 1) (by simp) ?_; intro g2 cap2 w2 hown hgrow hat hlt4)
        go_wp2
        go_roundw
        case rel =>
          refine ⟨i + 1, g2, cap2, acc ++ [239, 191, 189], by go_num, by rw [List.length_append]; rfl, by omega, by rw [List.length_append]; simp; omega, ?_, Own.app rfl rfl hown, Own.more (Below.trans hbw (hb1.below.mono hBr)) (by omega) HR1.out hgrow⟩
          have := HA.out
          rw [hf.out, ← List.append_assoc] at this
          exact this
        case measure => simp [intOf]; omega
      · have hf : menL ((ls s).drop i) = Lib.encodeRune c ++ menL ((ls s).drop (i + (Lib.encodeRune c).length)) := by
          rw [← List.drop_drop, hl, List.drop_left]
          unfold menL
          rw [tk_char c r hc]
          rfl
        have hat : ∀ k (_ : k < (Lib.encodeRune c).length) (h' : i + k < s.size), s[i + k]'h' = (Lib.encodeRune c).getD k 0 := fun k hk h' => by
          have h1 : (ls s)[i + k]? = some ((Lib.encodeRune c).getD k 0) := by
            rw [← List.getElem?_drop, hl, List.getElem?_append_left hk, List.getElem?_eq_getElem hk]
            simp [List.getD, List.getElem?_eq_getElem hk]
          have h2 : i + k < (ls s).length := by rw [size_ls]; exact h'
          rw [List.getElem?_eq_getElem h2] at h1
          exact Option.some.inj h1
        rw [hx] at hn hrg
        obtain ⟨E, hE⟩ : ∃ E, Lib.encodeRune c = E := ⟨_, rfl⟩
        simp only [hE] at hn hrg hf hat
        have hc0 : ¬ (c < 0) := by have := hc.1; omega
        have HFL := Lib.hid hf
        obtain ⟨hk1, hk4, hks⟩ := hrg
        clear hx hne hlt' hE hf hl hc
        go_wp2_with fail
        refine hn.mono ?_
        rintro e w1 ⟨rfl, hb1⟩
        have HR1 : Hid (Own w1 B g cap acc) := HR.out.below hb1.below
        have hbw1 : Below B w w1 := Below.trans hbw (hb1.below.mono hBr)
        clear HR hbw hb1 hn hsz hBr
        obtain ⟨wo, rfl⟩ : ∃ wo : World, wo = wr := ⟨_, rfl⟩
        go_wp2
        go_loopw [3, 7] (fun vo nk wr => ∃ (k g2 cap2 : Nat) (pre : List UInt8), nk = .int .i64 k ∧ vo = .slice (some ⟨g2, 0, none⟩) pre.length cap2 ∧ k ≤ E.length ∧ pre.length = acc.length + k ∧ Hid (pre = acc ++ E.take k) ∧ Hid (Own wr B g2 cap2 pre) ∧ Below B w wr) (fun _ nk _ => E.length - (intOf nk).toNat)
        case atStart => exact ⟨0, g, cap, acc, rfl, rfl, Nat.zero_le _, rfl, by unfold Hid; simp, HR1, hbw1⟩
        case round =>
          clear HR1 hbw1
          obtain ⟨k, g2, cap2, pre, rfl, rfl, hk, hpl, HP, HR2, hbr⟩ := hrel
          have hBr2 : B ≤ wr.heap.size := by have := hbr.size; have := HB.out; omega
          by_cases hkl : k < E.length
          · have hik : i + k < s.size := by omega
            have hikz : (i : Int) + (k : Int) < (s.size : Int) := by omega
            have hsx := hat k hkl hik
            have HPL := Lib.hid hpl
            obtain ⟨x, hxe⟩ : ∃ x, E.getD k 0 = x := ⟨_, rfl⟩
            rw [hxe] at hsx
            have HX : Hid (E[k] = x) := by
              unfold Hid
              rw [← hxe]
              simp [List.getD, List.getElem?_eq_getElem hkl]
            clear hxe hpl hat
            have hpb : pre.length ≤ 4398046511104 := by have := HPL.out; omega
            go_wp2_with (at_builtin; refine wpList_append_lies _ rfl _ _ 40 rfl B 5 i0 _ 1 1 Tryd.underlying40 HI.out HZ.out.1 HZ.out.2.1 HZ.out.2.2 rfl (by decide) (.slice (some ⟨g2, 0, none⟩) pre.length cap2) pre.length (byteCells pre) rfl (World.ownsRow.alloc HR2.out _) ⟨wr.heap.size, 0, none⟩ 1 1 [.int .u8 (x.toNat : Nat)] rfl rfl (World.news_of_block (cs := #[.int .u8 (x.toNat : Nat)]) (t := 5) (fr := (0, 0)) (heap_alloc_new wr _)) (by simp [Value.oneCell']) (by omega) (by simp only [maxLen]; omega) (by omega) (by simp; omega) (wr.heap.size + 1) (by simp) ?_; intro g3 cap3 w2 hown hgrow hat hlt4)
            go_wp2
            go_roundw
            case rel =>
              refine ⟨k + 1, g3, cap3, pre ++ [x], by go_num, by rw [List.length_append]; rfl, by omega, by rw [List.length_append, HPL.out]; simp; omega, ?_, Own.app rfl rfl hown, Own.more hbr hBr2 HR2.out hgrow⟩
              unfold Hid
              rw [List.take_succ_eq_append_getElem hkl, HX.out, ← List.append_assoc, ← HP.out]
            case measure => simp [intOf]; omega
          · obtain rfl : k = E.length := by omega
            go_wp2
            go_roundw
            case rel =>
              refine ⟨i + E.length, g2, cap2, pre, by go_num, rfl, by omega, by omega, ?_, HR2, hbr⟩
              have := HA.out
              rw [HFL.out, ← List.append_assoc] at this
              have hp := HP.out
              rw [List.take_length] at hp
              unfold Hid
              rw [hp]
              exact this
            case measure => simp [intOf]; omega
    · have hE : Hid (acc = M) := by
        have := HA.out
        rw [List.drop_eq_nil_of_le (by rw [size_ls]; omega)] at this
        show acc = M
        rw [← this]
        show acc = acc ++ []
        rw [List.append_nil]
      have hcv : (convert 40 9 (.slice (some ⟨g, 0, none⟩) acc.length cap)).run Tryd.prog wr = .ok (.string (tx acc)) wr := run_text cap (Byt.own HR.out).2
      go_wp2
      go_ret
      have hb2 := hbw
      rw [HB.out] at hb2
      exact ⟨by rw [← hE.out]; rfl, h.then_ hb2⟩
end Go.Proofs.YtkpbbclnffmepaaDoor
