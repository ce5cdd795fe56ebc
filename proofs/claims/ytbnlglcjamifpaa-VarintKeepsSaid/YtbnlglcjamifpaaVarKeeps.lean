/- The walk of VarintKeeps. -/
import Derived.Test.YtbnlglcjamifpaaVarOne
import Derived.Test.YtbnlglcjamifpaaBytOpen
import Derived.Deep.QuietTactic
import Derived.BigQuiet
namespace Go.Proofs.Ytbnlglcjamifpaa
open Go.RowKit
open Go.Lib (byteCells uvarint)

theorem Half.step2 {w : World} {g : Nat} {l : List UInt8} {k : Nat} (h : Half w g l k) (hk : k < l.length) (x : Value) : Half ((w.setCell ⟨g, k, none⟩ x).setCell ⟨g, k, none⟩ (.int .u8 (l[k].toNat : Nat))) g l (k + 1) := by
  have e := h.step hk
  unfold Half at e h ⊢
  rw [← e]
  simp [World.setCell, Array.getElem?_modify, h]

/-- the bytes and their spare room -/
def wide (b : List UInt8) : List UInt8 := b ++ List.replicate 20 90
theorem wide_len (b : List UInt8) : (wide b).length = b.length + 20 := by simp [wide]
theorem wide_low (b : List UInt8) (k : Nat) (h : k < b.length) (h' : k < (wide b).length) : (wide b)[k] = b[k] := by
  simp [wide, h]
theorem wide_high (b : List UInt8) (k : Nat) (h : ¬ k < b.length) (h' : k < (wide b).length) : (wide b)[k] = 90 := by
  have h2 : (wide b)[k]? = some 90 := by
    unfold wide
    rw [List.getElem?_append_right (by omega), List.getElem?_replicate, if_pos (by rw [wide_len] at h'; omega)]
  rw [List.getElem?_eq_getElem h'] at h2
  exact Option.some.inj h2

theorem Half.whole {w : World} {g : Nat} {l : List UInt8} (h : Half w g l l.length) : w.heap[g]? = some (.cells (byteCells l).toArray 5 (0, 0)) := by
  unfold Half at h
  rwa [List.take_length, Nat.sub_self, List.replicate_zero, List.append_nil] at h
theorem Half.reads {w : World} {g : Nat} {b : List UInt8} (h : Half w g (wide b) (wide b).length) : Byt w w.heap.size (some ⟨g, 0, none⟩) b := by
  refine .inr ⟨g, 0, rfl, h.len, fun j hj => ?_⟩
  have hw := wide_len b
  rw [cell_of_row w g _ _ 5 (0, 0) h.whole, List.getElem?_toArray, Nat.zero_add, byteCells_get _ j (by omega), wide_low b j hj]
/-- the first k bytes are 0 -/
def Zeros (w : World) (g : Nat) (l : List UInt8) (k : Nat) : Prop := w.heap[g]? = some (.cells (byteCells (List.replicate k 0 ++ l.drop k)).toArray 5 (0, 0))
theorem Zeros.start {w : World} {g : Nat} {l : List UInt8} (h : Half w g l l.length) : Zeros w g l 0 := h.whole
theorem Zeros.cell {w : World} {g : Nat} {l : List UInt8} {k : Nat} (h : Zeros w g l k) (hk : k < l.length) : w.cell? ⟨g, k, none⟩ = some (.int .u8 (l[k].toNat : Nat)) := by
  rw [cell_of_row w g k _ 5 (0, 0) h, List.getElem?_toArray]
  rw [byteCells_get _ k (by simp; omega)]
  simp
theorem Zeros.frozen {w : World} {g : Nat} {l : List UInt8} {k : Nat} (h : Zeros w g l k) (i : Nat) : w.frozen? ⟨g, i, none⟩ = false := by
  unfold Zeros at h
  simp [World.frozen?, h]
theorem Zeros.step {w : World} {g : Nat} {l : List UInt8} {k : Nat} (h : Zeros w g l k) (hk : k < l.length) : Zeros (w.setCell ⟨g, k, none⟩ (.int .u8 0)) g l (k + 1) := by
  unfold Zeros at h ⊢
  have e : (byteCells (List.replicate k 0 ++ l.drop k)).set k (.int .u8 0) = byteCells (List.replicate (k + 1) 0 ++ l.drop (k + 1)) := by
    rw [Go.Lib.byteCells_append, Go.Lib.byteCells_append]
    have hl : (byteCells (List.replicate k 0)).length = k := by rw [Go.Lib.byteCells_length]; simp
    rw [List.set_append_right _ _ (by omega), hl, Nat.sub_self, List.drop_eq_getElem_cons hk, List.replicate_succ', Go.Lib.byteCells_append, List.append_assoc]
    rfl
  rw [← e]
  simp [World.setCell, Array.getElem?_modify, h]

theorem grown_setCell {a w : World} {g o : Nat} (h : a.grownBy w (some g)) (v : Value) : a.grownBy (w.setCell ⟨g, o, none⟩ v) (some g) :=
  ⟨h.os, h.tape, h.output, by simpa [World.setCell] using h.size, fun i hi hne => (Below.heap_setCell w ⟨g, o, none⟩ v i (fun e => hne (by rw [e]))).trans (h.block i hi hne)⟩
theorem grown_drewN {a w : World} {row : Option Nat} (h : a.grownBy w row) (n : Nat) : a.grownBy (w.drewN n) row := ⟨h.os, h.tape, h.output, h.size, h.block⟩
theorem grown_below {B : Nat} {W a w : World} {g : Nat} (hb : Below B W a) (h : a.grownBy w (some g)) (hB : B ≤ a.heap.size) (hg : B ≤ g) : Below B W w :=
  hb.grown h hB fun k hk => by injection hk with hk; omega

/-- what is appended to an empty list -/
theorem app_empty {w : World} {A : Option Addr} {b : List UInt8} (c : Nat) (hA : Byt w w.heap.size A b) (hm : b.length ≤ 2097152) :
    ∃ A1 c1 w1, (Builtin.append_ #[22, 22] 22 #[.slice (some ⟨w.heap.size, 0, none⟩) 0 0, .slice A b.length c]).run Try.prog (w.alloc (.cells #[] 5)) = .ok (.slice A1 b.length c1) w1 ∧
      OwnB w1 w.heap.size 5 A1 c1 b ∧ Below w.heap.size w w1 := by
  obtain ⟨i0, hi, hz0, hz1, hz2⟩ := info_parts infoB
  have ho : OwnB (w.alloc (.cells #[] 5)) w.heap.size 5 (some ⟨w.heap.size, 0, none⟩) 0 [] := World.ownsRow_made w #[] 0 (Nat.le_refl _) (by simp [maxLen]) rfl
  have hal := (Below.refl w.heap.size w).alloc (Nat.le_refl _) (.cells #[] 5)
  obtain ⟨A1, c1, w1, h1, o1, b1⟩ := run_append_byt w.heap.size 22 22 5 i0 _ Try.underlying22 hi hz0 hz1 hz2 rfl 0 c ho (hA.below hal) b rfl (by omega) (by simp)
  exact ⟨A1, c1, w1, h1, o1, hal.trans b1⟩
theorem below_grown {a b : World} (h : Below a.heap.size a b) (row : Option Nat) : a.grownBy b row := ⟨h.os, h.tape, h.output, h.size, fun k hk _ => h.block k hk⟩
theorem own_block {w : World} {B : Nat} {A : Option Addr} {c : Nat} {l : List UInt8} (h : OwnB w B 5 A c l) {g : Nat} (hg : g < B) : (Value.slice A l.length c).ownBlock ≠ some g := by
  intro e
  have := (h.lt g e).1
  omega

set_option maxRecDepth 100000 in
set_option maxHeartbeats 4000000 in
theorem keeps_any {w : World} {A : Option Addr} {b : List UInt8} (c x : Nat) (hA : Byt w w.heap.size A b) (hm : b.length ≤ 140737488351232) (hx : x ≤ 18446744073709551615) :
    Calls Try.prog 8 #[.slice A b.length c, .int .u64 x] w (Yes w) := by
  have HX := Lib.hid hx
  clear hx
  by_cases hbig : 1048576 < b.length
  · go_enter Try.func8, Try.ntmps8
    go_wp2_with fail
    refine (lives_any _).mono ?_
    rintro e w1 ⟨rfl, hB1⟩
    go_wp2_with fail
    go_ret
    exact ⟨rfl, hB1⟩
  · obtain ⟨n, hn⟩ : ∃ n, n = b.length + 20 := ⟨_, rfl⟩
    have hmk : ∀ W : World, (Instr.makeSlice 22 (.int .i64 ((b.length : Int) + 20)) (.int .i64 ((b.length : Int) + 20))).run Try.prog W =
        .ok (.slice (some ⟨W.heap.size, 0, none⟩) n n) (W.alloc (.cells (Array.replicate n (.int .u8 0)) 5)) := by
      intro W
      have := run_mk n n (Nat.le_refl _) (by omega) W
      rw [hn] at this ⊢
      exact this
    have hnw : Hid (n = (wide b).length) := by rw [hn, wide_len]; rfl
    have HN := Lib.hid hn
    have hn1 : b.length < n := by omega
    have hn2 : n ≤ 1048596 := by omega
    clear hn
    go_enter Try.func8, Try.ntmps8
    go_wp2_with fail
    refine (lives_any _).mono ?_
    rintro e w1 ⟨rfl, hB1⟩
    go_wp2_with fail
    clear hmk
    have hz1 := hB1.size
    obtain ⟨F, hF⟩ : ∃ F, F = w1.heap.size := ⟨_, rfl⟩
    have h0 := Half.start w1 (wide b)
    rw [← hF, ← hnw.out] at h0
    rw [← hF]
    have hFw : w.heap.size ≤ F := by omega
    have HF := Lib.hid hF
    have H0 := Lib.hid h0
    clear hF h0
    go_loopw [6] (fun i wr => ∃ k : Nat, i = .int .i64 k ∧ k ≤ n ∧ Hid (Half wr F (wide b) k) ∧ Below w.heap.size w wr ∧ F < wr.heap.size) (fun i _ => n - (intOf i).toNat)
    case atStart => exact ⟨0, rfl, Nat.zero_le _, H0, hB1.alloc hz1 _, H0.out.len⟩
    case round =>
      clear H0
      obtain ⟨k, rfl, hk, HK, hBr, hFr⟩ := hrel
      by_cases hlt : k < n
      · have hkw : k < (wide b).length := by rw [← hnw.out]; exact hlt
        have hd := HK.out.cell hkw
        have hf := HK.out.frozen k
        by_cases hkb : k < b.length
        · obtain ⟨g, o, rfl, hg, hc⟩ := (hA.below hBr).at_ (by omega)
          have hck := hc k hkb
          have hne : g ≠ F := by omega
          have hst := Lib.hid (HK.out.step2 hkw (.int .u8 90))
          rw [wide_low b k hkb hkw] at hst
          clear hc
          go_wp2_with fail
          go_roundw
          case rel => exact ⟨k + 1, by go_num, by omega, hst, (hBr.setCell hFw _).setCell hFw _, by simpa using hFr⟩
          case measure => simp [intOf]; omega
        · have hst := Lib.hid (HK.out.step hkw)
          rw [wide_high b k hkb hkw] at hst
          go_wp2_with fail
          go_roundw
          case rel => exact ⟨k + 1, by go_num, by omega, hst, hBr.setCell hFw _, by simpa using hFr⟩
          case measure => simp [intOf]; omega
      · have hkn : k = n := by omega
        have hwh := HK.out
        rw [hkn, hnw.out] at hwh
        have HW := Lib.hid hwh
        have hrd := hwh.reads
        have hcut := run_cut_h (P := Try.prog) Try.underlying22 sizeB (some ⟨F, 0, none⟩) n n b.length (by omega)
        obtain ⟨r, hr⟩ : ∃ r, r = b ++ uvarint x := ⟨_, rfl⟩
        have hrl : Hid (r.length = b.length + vsz x) := by rw [hr, List.length_append]; rfl
        have hrt : Hid (r.take b.length = b) := by unfold Hid; rw [hr, List.take_left]
        have hvx := vsz_le (x := x) (by have := HX.out; omega)
        have hrb : r.length ≤ 1048586 := by rw [hrl.out]; omega
        have HR := Lib.hid hr
        clear HK hwh hkn hr
        go_wp2_with fail
        refine (put_as _ x r HR hrd (by omega) HX.out).mono ?_
        rintro e w3 ⟨g1, cap1, rfl, hown1, hB3⟩
        have HO1 := Lib.hid hown1
        clear hown1
        go_wp2_with fail
        refine (put_as _ x r HR (hrd.then_ hB3) (by omega) HX.out).mono ?_
        rintro e w4 ⟨g2, cap2, rfl, hown2, hB4⟩
        have HO2 := Lib.hid hown2
        clear hown2
        have hB34 := Below.both hB3 hB4
        have hBw4 := hBr.trans (hB34.mono hBr.size)
        go_wp2_with fail
        refine (take_any _ (hrd.then_ hB34) (by omega)).mono ?_
        rintro e w5 ⟨rfl, rfl⟩
        go_wp2_with fail
        refine (take_any _ (hA.below hBw4) (by omega)).mono ?_
        rintro e w5 ⟨rfl, rfl⟩
        go_wp2_with fail
        refine (alike_same _ _ rfl rfl ((NewRow.reads HO1.out).then_ hB4) (NewRow.reads HO2.out)).mono ?_
        rintro e w5 ⟨rfl, rfl⟩
        have hz := Lib.hid (Zeros.start HW.out)
        have hz4 : Hid (Zeros w4 F (wide b) 0) := by
          have := hz.out
          unfold Hid Zeros at *
          rw [hB34.block F hFr]
          exact this
        have hF4 : F < w4.heap.size := by have := hB34.size; omega
        have hk1 := HO1.out.lt g1 rfl
        have hk2 := HO2.out.lt g2 rfl
        have hg1 : g1 ≠ F := by omega
        have hg2 : g2 ≠ F := by have := hB3.size; omega
        have hg12 : g1 ≠ g2 := by omega
        have HO1' : Hid (w4.ownsRow wr.heap.size 5 1 (.slice (some ⟨g1, 0, none⟩) r.length cap1) r.length (byteCells r)) :=
          HO1.out.kept (row := none) ⟨hB4.os, hB4.tape, hB4.output, hB4.size, fun k hk _ => hB4.block k hk⟩ (Or.inr (by simp [Value.ownBlock]))
        go_wp2_with fail
        clear hz HW hrd hcut HR HO1
        obtain ⟨wo, rfl⟩ : ∃ wo : World, wo = wr := ⟨_, rfl⟩
        go_loopw [15] (fun i ws => ∃ k : Nat, i = .int .i64 k ∧ k ≤ n ∧ Hid (Zeros ws F (wide b) k) ∧ w4.grownBy ws (some F)) (fun i _ => n - (intOf i).toNat)
        case atStart => exact ⟨0, rfl, Nat.zero_le _, hz4, World.grownBy.refl _ _⟩
        case round =>
          clear hz4
          obtain ⟨j, rfl, hj, HJ, hG⟩ := hrel
          have hBs : Below w.heap.size w wr := grown_below hBw4 hG (by have := hBw4.size; omega) hFw
          by_cases hjn : j < n
          · have hjw : j < (wide b).length := by rw [← hnw.out]; exact hjn
            have hd := HJ.out.cell hjw
            have hf := HJ.out.frozen j
            have i0 : (0 : Int) ≤ (j : Int) := by omega
            have i1 : (j : Int) < (n : Int) := by omega
            by_cases hjb : j < b.length
            · obtain ⟨g, o, rfl, hg, hc⟩ := (hA.below hBs).at_ (by omega)
              have hck := hc j hjb
              rw [wide_low b j hjb hjw] at hd
              have i2 : (j : Int) < (b.length : Int) := by omega
              have d1 : decide (j < b.length) = true := by simp; omega
              have d2 : decide ((j : Int) < (b.length : Int)) = true := by simp; omega
              have d3 : decide (b.length ≤ j) = false := by simp; omega
              have d4 : decide ((b.length : Int) ≤ (j : Int)) = false := by simp; omega
              clear hc
              go_wp2_with fail
              go_quiet (fail)
              go_wp2
              go_roundw
              case rel => exact ⟨j + 1, by go_num, by omega, HJ.out.step hjw, grown_setCell (grown_drewN hG _) _⟩
              case measure => simp [intOf]; omega
            · rw [wide_high b j hjb hjw] at hd
              have d1 : decide (j < b.length) = false := by simp; omega
              have d2 : decide ((j : Int) < (b.length : Int)) = false := by simp; omega
              have d3 : decide (b.length ≤ j) = true := by simp; omega
              have d4 : decide ((b.length : Int) ≤ (j : Int)) = true := by simp; omega
              go_wp2_with fail
              go_quiet (fail)
              go_wp2
              go_roundw
              case rel => exact ⟨j + 1, by go_num, by omega, HJ.out.step hjw, grown_setCell (grown_drewN hG _) _⟩
              case measure => simp [intOf]; omega
          · have hO1 := HO1'.out.kept hG (Or.inr (by simp [Value.ownBlock]; omega))
            have hO2 := HO2.out.kept hG (Or.inr (by simp [Value.ownBlock]; omega))
            obtain ⟨A5, c5, w5, hap, hown5, hB5⟩ := app_empty cap2 (NewRow.reads hO2) (by omega)
            have hBw5 := hBs.trans (hB5.mono hBs.size)
            have hroom2 := own_room hO2
            have hP := Lib.hid (own_low (base' := w.heap.size) (by have := hBr.size; omega) (hO1.kept (below_grown hB5 none) (Or.inr (by simp [Value.ownBlock]))))
            have hQ := Lib.hid (hO2.kept (below_grown hB5 none) (Or.inr (by simp [Value.ownBlock])))
            have hgs := hG.size
            have hWn := Lib.hid hown5
            have hne1 := Lib.hid (own_block hown5 (show g1 < wr.heap.size by omega))
            have HAp := Lib.hid hap
            have h15 : g1 < w5.heap.size := by have := hB5.size; omega
            have hbase1 : w.heap.size ≤ g1 := by have := hBr.size; omega
            clear hO1 hO2 hap hown5 HJ hG hBs HO1' HO2 hB5
            go_wp2_with (at_builtin; refine wpList_append_run rfl (.tmp 131) (.tmp 132) _ rfl rfl rfl HAp.out ?_)
            have hwz := hBw5.size
            clear HAp
            obtain ⟨wp, rfl⟩ : ∃ wp : World, wp = wr := ⟨_, rfl⟩
            go_loopw [17] (fun i ws => ∃ (j : Nat) (xs : List Value), i = .int .i64 j ∧ j ≤ r.length ∧ Hid (ws.ownsRow w.heap.size 5 1 (.slice (some ⟨g1, 0, none⟩) r.length cap1) r.length xs) ∧ w5.grownBy ws (some g1)) (fun i _ => r.length - (intOf i).toNat)
            case atStart => exact ⟨0, _, rfl, Nat.zero_le _, hP, World.grownBy.refl _ _⟩
            case round =>
              clear hP
              obtain ⟨j, xs, rfl, hj, HO, hG⟩ := hrel
              by_cases hjr : j < r.length
              · have hd := HO.out.cellAt j (by omega)
                have hf := HO.out.frozenAt j
                rw [List.getElem?_eq_getElem (by have := HO.out.1; omega)] at hd
                obtain ⟨u, hu⟩ : ∃ u, u = xs[j]'(by have := HO.out.1; omega) := ⟨_, rfl⟩
                rw [← hu] at hd
                clear hu
                go_wp2_with fail
                go_roundw
                case rel => exact ⟨j + 1, _, by go_num, by omega, (HO.out.stored j (.int .u8 255)).1, grown_setCell hG _⟩
                case measure => simp [intOf]; omega
              · go_wp2_with fail
                obtain ⟨wq, rfl⟩ : ∃ wq : World, wq = wr := ⟨_, rfl⟩
                go_loopw [7, 18] (fun v i ws => ∃ (q g m cap : Nat) (ys : List Value), i = .int .i64 q ∧ q ≤ 16 ∧ v = .slice (some ⟨g, 0, none⟩) m cap ∧ m ≤ r.length + q ∧ (g = g1 ∨ w5.heap.size ≤ g) ∧ w.heap.size ≤ g ∧
                  Hid (ws.ownsRow w.heap.size 5 1 (.slice (some ⟨g, 0, none⟩) m cap) m ys) ∧ w5.grownBy ws (some g1)) (fun _ i _ => 16 - (intOf i).toNat)
                case atStart => exact ⟨0, g1, r.length, cap1, xs, rfl, Nat.zero_le _, rfl, Nat.le_refl _, .inl rfl, hbase1, HO, hG⟩
                case round =>
                  clear HO hG
                  obtain ⟨q, g, m, cap, ys, rfl, hq, rfl, hm2, hgg, hgw, HO, hG⟩ := hrel
                  have hGs := hG.size
                  by_cases hq16 : q < 16
                  · obtain ⟨i0, hi, hz0, hz1, hz2⟩ := info_parts infoB
                    have HI := Lib.hid hi
                    have HZ := Lib.hid (And.intro hz0 (And.intro hz1 hz2))
                    clear hi hz0 hz1 hz2
                    go_wp2_with (at_builtin; refine wpList_append_lies _ rfl (.tmp 147) (.tmp 148) 22 rfl w.heap.size 5 i0 _ 1 1 Try.underlying22 HI.out HZ.out.1 HZ.out.2.1 HZ.out.2.2 rfl (by decide) (.slice (some ⟨g, 0, none⟩) m cap) m ys rfl (HO.out.alloc _) ⟨wr.heap.size, 0, none⟩ 1 1 [.int .u8 238] rfl rfl (World.news_of_block (cs := #[.int .u8 238]) (t := 5) (fr := (0, 0)) (heap_alloc_new wr _)) (by simp [Value.oneCell']) (by omega) (by simp only [maxLen]; omega) (by omega) (by simp; omega) (wr.heap.size + 1) (by simp) ?_; intro gg cap2' w8 hown hgrow hat hlt4)
                    go_roundw
                    case rel =>
                      have hat' : g = gg ∨ gg = wr.heap.size + 1 := by simpa [Value.ownBlock] using hat
                      refine ⟨q + 1, gg, m + 1, cap2', _, by go_num, by omega, rfl, by omega, by omega, by omega, hown, ?_⟩
                      refine ⟨hgrow.os.trans hG.os, hgrow.tape.trans hG.tape, hgrow.output.trans hG.output, by have := hgrow.size; simp at this; omega, fun k hk hne => ?_⟩
                      refine (hgrow.block k (by simp; omega) ?_).trans ((heap_alloc_old wr _ (by omega)).trans (hG.block k hk hne))
                      intro e
                      have e' : k = g := by simpa [Value.ownBlock] using e
                      rcases hgg with h | h
                      · exact hne (by rw [e', h])
                      · omega
                    case measure => simp [intOf]; omega
                  · have hQ2 := hQ.out.kept hG (Or.inr (by simp [Value.ownBlock]; omega))
                    have hW2 := hWn.out.kept hG (Or.inr hne1.out)
                    have hrq := NewRow.reads hQ2
                    have hrw := (Byt.own hW2).2
                    have hBe := grown_below hBw5 hG hwz hbase1
                    have e1 : ((r.length : Int) == (b.length : Int) + (vsz x : Int)) = true := by have := hrl.out; simp; omega
                    have hcut := run_cut_h (P := Try.prog) Try.underlying22 sizeB (some ⟨g2, 0, none⟩) r.length cap2 b.length (by have := hrl.out; omega)
                    have hrb2 := hrq.take b.length
                    rw [hrt.out] at hrb2
                    have hAb := hA.below hBe
                    go_wp2_with fail
                    refine (alike_same _ _ rfl rfl hrq hrw).mono ?_
                    rintro e w9 ⟨rfl, rfl⟩
                    go_wp2_with (go_at_call 13; refine (size_any _ _ HX.out).mono ?_; rintro e w9 ⟨rfl, rfl⟩)
                    refine (alike_same _ _ rfl rfl hrb2 hAb).mono ?_
                    rintro e w9 ⟨rfl, rfl⟩
                    go_wp2_with fail
                    go_ret
                    exact ⟨rfl, hBe⟩
end Go.Proofs.Ytbnlglcjamifpaa
