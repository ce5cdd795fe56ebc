/- The walks of the reference's number and Encode. -/
import Derived.Test.YthekbefbhjllnaaDoorTlvRCheck
namespace Go.Proofs.YthekbefbhjllnaaDoor
open Go.RowKit
open Go.Lib (byteCells uvarint)

theorem AppTo.refl {w : World} {base : Nat} {A : Option Addr} {c : Nat} {pre : List UInt8} (ho : OwnB w base 5 A c pre) : AppTo w base (.slice A pre.length c) pre A c w :=
  ⟨ho, ⟨rfl, rfl, rfl, Nat.le_refl _, fun _ _ _ => rfl⟩, fun _ hk => .inl hk⟩
theorem AppTo.trans {w w1 w2 : World} {base : Nat} {v : Value} {r r2 : List UInt8} {A A2 : Option Addr} {c c2 : Nat} (h : AppTo w base v r A c w1) (g : AppTo w1 base (.slice A r.length c) r2 A2 c2 w2) : AppTo w base v r2 A2 c2 w2 := by
  refine ⟨g.own, ⟨g.grown.os.trans h.grown.os, g.grown.tape.trans h.grown.tape, g.grown.output.trans h.grown.output, Nat.le_trans h.grown.size g.grown.size, fun k hk hne => ?_⟩, fun k hk => ?_⟩
  · rw [g.grown.block k (Nat.lt_of_lt_of_le hk h.grown.size) ?_, h.grown.block k hk hne]
    intro e
    rcases h.blk k e.symm with q | q
    · exact hne q.symm
    · omega
  · rcases g.blk k hk with q | q
    · exact h.blk k q
    · exact .inr (Nat.le_trans h.grown.size q)
theorem AppTo.then_ {w w1 w2 : World} {base : Nat} {v : Value} {r : List UInt8} {A : Option Addr} {c : Nat} (h : AppTo w base v r A c w1) (hb : Below w1.heap.size w1 w2) : AppTo w base v r A c w2 :=
  ⟨h.own.then_ hb, ⟨hb.os.trans h.grown.os, hb.tape.trans h.grown.tape, hb.output.trans h.grown.output, Nat.le_trans h.grown.size hb.size, fun k hk hne => (hb.block k (Nat.lt_of_lt_of_le hk h.grown.size)).trans (h.grown.block k hk hne)⟩, h.blk⟩
theorem AppTo.kept {w w' : World} {base : Nat} {v : Value} {r : List UInt8} {A : Option Addr} {c : Nat} (h : AppTo w base v r A c w') {b : Nat} (hb : b < w.heap.size) (hne : ∀ k, v.ownBlock = some k → k ≠ b) (o : Nat) : w'.cell? ⟨b, o, none⟩ = w.cell? ⟨b, o, none⟩ :=
  World.cell?_of_block (a := ⟨b, o, none⟩) (h.grown.block b hb fun e => hne b e.symm rfl)

/-- one byte more, out of a list that was just laid -/
theorem run_app_one {w : World} {base : Nat} {A : Option Addr} {c : Nat} {pre : List UInt8} (ho : OwnB w base 5 A c pre) (z : Int) (x : UInt8) (hz : z = (x.toNat : Int)) (r : List UInt8) (hr : r = pre ++ [x]) (hm : r.length ≤ 140737488355328) (hbase : base ≤ w.heap.size) :
    ∃ A' c' w', (Builtin.append_ #[28, 28] 28 #[.slice A pre.length c, .slice (some ⟨w.heap.size, 0, none⟩) 1 1]).run Tryd.prog (w.alloc (.cells #[.int .u8 z] 5)) = .ok (.slice A' r.length c') w' ∧ AppTo w base (.slice A pre.length c) r A' c' w' := by
  subst hz
  have hB : Below w.heap.size w (w.alloc (.cells #[.int .u8 (x.toNat : Int)] 5)) := (Below.refl _ _).alloc (Nat.le_refl _) _
  have h2 : (w.alloc (.cells #[.int .u8 (x.toNat : Int)] 5)).ownsRow 0 5 1 (.slice (some ⟨w.heap.size, 0, none⟩) [x].length 1) [x].length (byteCells [x]) :=
    World.ownsRow_lit w #[.int .u8 (x.toNat : Int)] 1 (Nat.zero_le _) (by simp only [maxLen]; omega) rfl
  obtain ⟨A', c', w', hr', happ⟩ := run_app_to (ho.then_ hB) h2 r hr hm (Nat.le_trans hbase hB.size)
  exact ⟨A', c', w', hr', happ.first hB⟩

set_option maxRecDepth 100000 in
set_option maxHeartbeats 1000000 in
theorem rnum_any {w : World} {base : Nat} {A : Option Addr} {c : Nat} {pre : List UInt8} (ho : OwnB w base 5 A c pre) (x : Nat) (r : List UInt8) (hr : r = pre ++ uvarint x) (hm : r.length ≤ 140737488355328) (hbase : base ≤ w.heap.size) (hx : x ≤ 18446744073709551615) :
    Calls Tryd.prog 33 #[.slice A pre.length c, .int .u64 x] w (NewApp w base (.slice A pre.length c) r) := by
  obtain ⟨V, hV⟩ : ∃ V, Value.slice A pre.length c = V := ⟨_, rfl⟩
  have h0 : AppTo w base V pre A c w := by rw [← hV]; exact AppTo.refl ho
  have HR := Lib.hid hr
  have H0 := Lib.hid h0
  have hg : NewApp w base (.slice A pre.length c) r = NewApp w base V r := by rw [hV]
  rw [hg]
  clear hr h0 ho hV hg
  go_enter Tryd.func33, Tryd.ntmps33
  go_wp2
  go_loopw [0, 1] (fun bs xs wr => ∃ (p : List UInt8) (y : Nat) (A1 : Option Addr) (c1 : Nat), bs = .slice A1 p.length c1 ∧ xs = .int .u64 y ∧ y ≤ x ∧ Hid (r = p ++ uvarint y) ∧ Hid (AppTo w base V p A1 c1 wr)) (fun _ xs _ => (intOf xs).toNat)
  case atStart => exact ⟨pre, x, A, c, rfl, rfl, Nat.le_refl _, HR.out, H0.out⟩
  case round =>
    clear HR H0
    obtain ⟨p, y, A1, c1, rfl, rfl, hy, HR, HA⟩ := hrel
    have hws := HA.out.grown.size
    by_cases hlt : 128 ≤ y
    · obtain ⟨p2, hp2⟩ : ∃ p2, p2 = p ++ [(y % 128 + 128).toUInt8] := ⟨_, rfl⟩
      have hr2 : r = p2 ++ uvarint (y / 128) := by
        rw [HR.out, hp2, Go.Lib.uvarint_big hlt, List.append_assoc]; rfl
      have hpl : p2.length ≤ 140737488355328 := by
        have := congrArg List.length hr2
        rw [List.length_append] at this
        omega
      obtain ⟨A2, c2, w2, hrun, happ⟩ := run_app_one HA.out.own (128 + (y : Int) % 128) _ (by rw [toU8 (by omega)]; omega) p2 hp2 hpl (Nat.le_trans hbase hws)
      have HRUN := Lib.hid hrun
      have HR2 := Lib.hid hr2
      have HA2 := Lib.hid (HA.out.trans happ)
      clear hrun hr2 hp2 happ hpl
      go_wp2_with (at_builtin; refine wpList_append_run rfl (.tmp 7) (.tmp 12) _ rfl rfl rfl HRUN.out ?_)
      go_roundw
      case rel => exact ⟨p2, y / 128, A2, c2, rfl, by go_num, by omega, HR2.out, HA2.out⟩
      case measure => simp [intOf]; omega
    · have hr2 : r = p ++ [y.toUInt8] := by rw [HR.out, Go.Lib.uvarint_small (by omega)]
      obtain ⟨A2, c2, w2, hrun, happ⟩ := run_app_one HA.out.own (y : Int) _ (by rw [toU8 (by omega)]) r hr2 hm (Nat.le_trans hbase hws)
      have HRUN := Lib.hid hrun
      have HA2 := Lib.hid (HA.out.trans happ)
      clear hrun hr2 happ
      go_wp2_with (at_builtin; refine wpList_append_run rfl (.tmp 16) (.tmp 19) _ rfl rfl rfl HRUN.out ?_)
      go_ret
      exact ⟨A2, c2, rfl, HA2.out⟩

/-- a value that was boxed -/
def BoxV (w : World) (g : Nat) (v : Val) : Prop :=
  w.cell? ⟨g, 0, none⟩ = some (.int .i64 v.k) ∧ w.cell? ⟨g, 1, none⟩ = some (.int .u64 v.n) ∧ w.cell? ⟨g, 2, none⟩ = some (.string v.s)
theorem BoxV.new (w : World) (v : Val) (T : TypeId) : BoxV (w.alloc (.cells (vvC v) T)) w.heap.size v := by
  have q := fun k => cell_of_row (w.alloc (.cells (vvC v) T)) w.heap.size k (vvC v) T (0, 0) (heap_alloc_new w _)
  exact ⟨q 0, q 1, q 2⟩
theorem BoxV.keep {w w' : World} {g : Nat} {v : Val} (h : BoxV w g v) (hk : ∀ o, w'.cell? ⟨g, o, none⟩ = w.cell? ⟨g, o, none⟩) : BoxV w' g v := ⟨(hk _).trans h.1, (hk _).trans h.2.1, (hk _).trans h.2.2⟩
theorem BoxV.lt {w : World} {g : Nat} {v : Val} (h : BoxV w g v) : g < w.heap.size := World.block_lt_of_cell? w ⟨g, 0, none⟩ h.1
theorem BoxV.then_ {w w' : World} {g : Nat} {v : Val} (h : BoxV w g v) (hb : Below w.heap.size w w') : BoxV w' g v := h.keep fun o => (Below.cells hb).1 g o h.lt
theorem BoxV.app {w w' : World} {g base : Nat} {v : Val} {u : Value} {r : List UInt8} {A' : Option Addr} {c' : Nat} (h : BoxV w g v) (ha : AppTo w base u r A' c' w') (hne : ∀ k, u.ownBlock = some k → k ≠ g) : BoxV w' g v := h.keep fun o => ha.kept h.lt hne o

theorem AppTo.apart {w w' : World} {base g : Nat} {v : Value} {r : List UInt8} {A' : Option Addr} {c' : Nat} (h : AppTo w base v r A' c' w') (hg : g < w.heap.size) (hne : ∀ k, v.ownBlock = some k → k ≠ g) : ∀ k, (Value.slice A' r.length c').ownBlock = some k → k ≠ g := fun k hk => by
  rcases h.blk k hk with q | q
  · exact hne k q
  · omega

set_option maxRecDepth 100000 in
set_option maxHeartbeats 8000000 in
theorem rencode_any {w0 w : World} (h : KSt w0 w) {A : Option Addr} {l : List Fd} (c : Nat) (hA : FRow w w.heap.size A l) (hg : Good l) (hl : Light l) :
    Calls Tryd.prog 15 #[.slice A l.length c] w (NewEnc w l) := by
  have cm := rcheck_any h c hA hg hl
  have hi := cer_is hg.fit
  obtain ⟨a, ha⟩ : ∃ a, cat l = a := ⟨_, rfl⟩
  obtain ⟨d, hd⟩ : ∃ d, cer l = d := ⟨_, rfl⟩
  rw [ha, hd] at cm
  rw [hd] at hi
  by_cases hd0 : d = 0
  · subst hd0
    have hi2 : Is 0 l ∧ (enc l).length ≤ 16777215 := by
      rcases hi with ⟨g, _⟩ | ⟨g, _⟩ | ⟨_, g⟩
      · omega
      · omega
      · exact g
    have z4 := (cer_ok hi2.1 hi2.2).2.2.2
    obtain ⟨N, hN⟩ : ∃ N, (enc l).length = N := ⟨_, rfl⟩
    rw [hN] at hi2
    have hN2 := hi2.2
    have HI := Lib.hid hi2.1
    have HN := Lib.hid hN
    have HD := Lib.hid (And.intro hd z4)
    have HG := Lib.hid hg
    have hl0 := hl.len
    have HL := Lib.hid hl
    have HA := Lib.hid hA
    clear ha hd hg hl hA h hi z4 hi2 hN
    go_enter Tryd.func15, Tryd.ntmps15
    go_wp2_with (go_at_call 13; refine cm.mono ?_; rintro e w1 ⟨rfl, hb1⟩)
    go_loopw [6, 7] (fun out i wr => ∃ (k cc : Nat) (AA : Option Addr) (pre : List UInt8), out = .slice AA pre.length cc ∧ i = .int .i64 k ∧ k ≤ l.length ∧ Below w.heap.size w wr ∧ Hid (pre = enc (l.take k)) ∧ Hid (OwnB wr w.heap.size 5 AA cc pre)) (fun _ i _ => l.length - (intOf i).toNat)
    case atStart => exact ⟨0, 0, none, [], rfl, rfl, Nat.zero_le _, hb1, rfl, OwnB.nil _ _ _⟩
    case round =>
      clear hb1
      obtain ⟨k, cc, AA, pre, rfl, rfl, hk, hB, HP, HO⟩ := hrel
      by_cases hlt : k < l.length
      · obtain ⟨f, hf⟩ : ∃ f, l[k]? = some f := ⟨l[k], List.getElem?_eq_getElem hlt⟩
        obtain ⟨g, o, rfl, hgB, hcs⟩ := (HA.out.below hB).at_ (by omega)
        obtain ⟨c0, c1, c2, c3⟩ := hcs k f hf
        obtain ⟨hfit, hsz⟩ := HG.out.at_ hf
        clear hcs
        have hbs := hB.size
        have hgr : g < wr.heap.size := by omega
        have his : Is 0 (l.take (k + 1)) := is_take (k + 1) HI.out
        rw [take_snoc hf] at his
        obtain ⟨i1, i2, _⟩ := is_snoc.1 his
        obtain ⟨t0, t1, k0, k1⟩ := can_key i2 (last_nn i1)
        have hov := (can_parts i2).2.2
        have hkk := ok_kind hov
        have ck := fun (W : World) => rkey_any W f t0 t1 k0 k1
        have cp := fun (W : World) => rpay_any W f.v hov hfit
        have hkey0 : 0 ≤ keyF f := by unfold keyF; omega
        have hkey1 : keyF f ≤ 18446744073709551615 := by unfold keyF; omega
        have hpn := pnum_range hfit
        have hpb := pay_bool hov hfit
        obtain ⟨K, hK⟩ := Int.eq_ofNat_of_zero_le hkey0
        obtain ⟨P, hP⟩ := Int.eq_ofNat_of_zero_le hpn.1
        have hfb : fb f = uvarint K ++ (uvarint (pay f.v).length ++ pay f.v) := by unfold fb; rw [hK, Int.toNat_natCast]
        have hpay : isNum f.v.k = true → pay f.v = uvarint P := fun q => by unfold pay; rw [if_pos q, hP, Int.toNat_natCast]
        have hptx : isNum f.v.k = false → pay f.v = f.v.s.data.toList := fun q => by unfold pay; rw [if_neg (by simp [q])]
        obtain ⟨r, hr⟩ : ∃ r, r = pre ++ fb f := ⟨_, rfl⟩
        have hrt : r = enc (l.take (k + 1)) := by rw [hr, HP.out, take_snoc hf, enc_snoc]
        have hrl : r.length ≤ 16777215 := by
          have h1 := enc_app (l.take (k + 1)) (l.drop (k + 1))
          rw [List.take_append_drop, ← hrt] at h1
          have h2 := congrArg List.length h1
          rw [List.length_append, HN.out] at h2
          omega
        obtain ⟨L, hL⟩ : ∃ L, (pay f.v).length = L := ⟨_, rfl⟩
        obtain ⟨r1, hr1⟩ : ∃ r1, r1 = pre ++ uvarint K := ⟨_, rfl⟩
        obtain ⟨r2, hr2⟩ : ∃ r2, r2 = r1 ++ uvarint L := ⟨_, rfl⟩
        have hr3 : r = r2 ++ pay f.v := by rw [hr, hfb, hL, hr2, hr1]; simp only [List.append_assoc]
        have hl3 := congrArg List.length hr3
        have hl2 := congrArg List.length hr2
        rw [List.length_append] at hl3 hl2
        rw [hL] at hl3
        simp only [hL] at cp
        have hm1 : r1.length ≤ 140737488355328 := by omega
        have hm2 : r2.length ≤ 140737488355328 := by omega
        have hm3 : r.length ≤ 140737488355328 := by omega
        have hK2 : K ≤ 18446744073709551615 := by omega
        have hL2 : L ≤ 18446744073709551615 := by omega
        have hP2 : P ≤ 18446744073709551615 := by omega
        simp only [hK] at ck
        have bx := BoxV.new wr f.v 39
        have hB1 : Below w.heap.size w (wr.alloc (.cells (vvC f.v) 39)) := hB.alloc hbs _
        have ho1 := HO.out.new (.cells (vvC f.v) 39)
        have hne : ∀ q, (Value.slice AA pre.length cc).ownBlock = some q → q ≠ wr.heap.size := fun q hq => by have := HO.out.lt q hq; omega
        have HRT := Lib.hid hrt
        have HR1 := Lib.hid hr1
        have HR2 := Lib.hid hr2
        have HR3 := Lib.hid hr3
        have HPAY := Lib.hid hpay
        have HPTX := Lib.hid hptx
        have HPB := Lib.hid hpb
        have HPN : Hid (pnum f.v = (P : Int)) := hP
        have HBX := Lib.hid bx
        have HNE := Lib.hid hne
        have HO1 := Lib.hid ho1
        have HB1 := Lib.hid hB1
        have HOV := Lib.hid hov
        have HFIT := Lib.hid hfit
        have HL3 := Lib.hid hl3
        have hs1 : w.heap.size ≤ (wr.alloc (.cells (vvC f.v) 39)).heap.size := by simp; omega
        have hg1 : wr.heap.size < (wr.alloc (.cells (vvC f.v) 39)).heap.size := by simp
        clear his i1 i2 t0 t1 k0 k1 hov hkey0 hkey1 hpn hpb hK hP hfb hpay hptx hr hrt hL hr1 hr2 hr3 hl3 hl2 bx hB1 ho1 hne hfit hf hsz
        obtain ⟨t, v⟩ := f
        obtain ⟨vk, vn, vs⟩ := v
        unfold ffC vvC at *
        dsimp only at *
        go_wp2_with fail
        refine (ck _).mono ?_
        rintro e w2 ⟨rfl, hb2⟩
        go_wp2_with fail
        have hs2 := hb2.size
        refine (rnum_any (HO1.out.then_ hb2) K r1 HR1.out hm1 (Nat.le_trans hs1 hs2) hK2).mono ?_
        rintro e w3 ⟨A3, c3', rfl, h3⟩
        have hbx3 := (HBX.out.then_ hb2).app h3 HNE.out
        have hne3 := h3.apart (Nat.lt_of_lt_of_le hg1 hs2) HNE.out
        have hBel3 : Below w.heap.size w w3 := HB1.out.trans ((hb2.mono hs1).trans (h3.below (HO1.out.then_ hb2) (Nat.le_trans hs1 hs2)))
        have ho3 := h3.own
        have hs3 := hBel3.size
        have hg3 := hbx3.lt
        obtain ⟨b0, b1, b2⟩ := hbx3
        have HBX3 : Hid (BoxV w3 wr.heap.size ⟨vk, vn, vs⟩) := ⟨b0, b1, b2⟩
        have HNE3 := Lib.hid hne3
        have HO3 := Lib.hid ho3
        have HBel3 := Lib.hid hBel3
        clear hne3 ho3 hBel3 h3 hb2 hs2
        dsimp only at b0 b1 b2
        go_wp2_with fail
        refine (cp _).mono ?_
        rintro e w4 ⟨rfl, hb4⟩
        clear b0 b1 b2
        go_wp2_with fail
        have hs4 := hb4.size
        refine (rnum_any (HO3.out.then_ hb4) L r2 HR2.out hm2 (Nat.le_trans hs3 hs4) hL2).mono ?_
        rintro e w5 ⟨A5, c5, rfl, h5⟩
        have hbx5 := (HBX3.out.then_ hb4).app h5 HNE3.out
        have hne5 := h5.apart (Nat.lt_of_lt_of_le hg3 hs4) HNE3.out
        have hBel5 : Below w.heap.size w w5 := HBel3.out.trans ((hb4.mono hs3).trans (h5.below (HO3.out.then_ hb4) (Nat.le_trans hs3 hs4)))
        have ho5 := h5.own
        have hs5 := hBel5.size
        have hg5 := hbx5.lt
        obtain ⟨b0, b1, b2⟩ := hbx5
        have HBX5 : Hid (BoxV w5 wr.heap.size ⟨vk, vn, vs⟩) := ⟨b0, b1, b2⟩
        have HNE5 := Lib.hid hne5
        have HO5 := Lib.hid ho5
        have HBel5 := Lib.hid hBel5
        clear hne5 ho5 hBel5 h5 hb4 hs4
        dsimp only at b0 b1 b2
        have h5k : vk = 1 ∨ vk = 2 ∨ vk = 3 ∨ vk = 4 ∨ vk = 5 := by omega
        clear hkk
        rcases h5k with rfl | rfl | rfl | rfl | rfl
        · have hq := HPAY.out rfl
          have hr := HR3.out
          rw [hq] at hr
          have hn := HPN.out
          unfold pnum at hn
          rw [if_neg (by show ¬ (1 : Int) = 2; decide)] at hn
          dsimp only at hn
          subst hn
          have HR := Lib.hid hr
          clear hq hr
          go_wp2_with fail
          refine (rnum_any HO5.out P r HR.out hm3 hs5 hP2).mono ?_
          rintro e w7 ⟨A7, c7, rfl, h7⟩
          go_wp2_with fail
          go_roundw
          case rel => exact ⟨k + 1, c7, A7, r, rfl, by go_num, by omega, HBel5.out.trans (h7.below HO5.out hs5), HRT.out, h7.own⟩
          case measure => simp [intOf]; omega
        · have hq := HPAY.out rfl
          have hr := HR3.out
          rw [hq] at hr
          have hn := HPN.out
          unfold pnum at hn
          rw [if_pos (by rfl)] at hn
          dsimp only at hn
          have hf := HFIT.out
          have hws := wrap_sgn2 vn hf.1 hf.2
          have hsr := sgn_range hf.1 hf.2
          have cz := fun (W : World) => rzig_any (sgn vn) W hsr.1 hsr.2
          obtain ⟨S, hS⟩ : ∃ S, sgn vn = S := ⟨_, rfl⟩
          rw [hS] at hws hn hsr
          simp only [hS, hn] at cz
          have HR := Lib.hid hr
          clear hq hr hn hf hS
          go_wp2_with (go_at_call 36; refine (cz _).mono ?_; rintro e w6 ⟨rfl, rfl⟩)
          refine (rnum_any HO5.out P r HR.out hm3 hs5 hP2).mono ?_
          rintro e w7 ⟨A7, c7, rfl, h7⟩
          go_wp2_with fail
          go_roundw
          case rel => exact ⟨k + 1, c7, A7, r, rfl, by go_num, by omega, HBel5.out.trans (h7.below HO5.out hs5), HRT.out, h7.own⟩
          case measure => simp [intOf]; omega
        · have hq := HPB.out rfl
          have hr := HR3.out
          rw [hq] at hr
          have hn1 := ok_bool HOV.out rfl
          have hn0 := HFIT.out.1
          dsimp only at hn0 hn1 hr
          have hzz : vn = (((vn.toNat.toUInt8).toNat : Nat) : Int) := by rw [toU8 (by omega)]; omega
          obtain ⟨A7, c7, w7, hrun, happ⟩ := run_app_one HO5.out vn _ hzz r hr hm3 hs5
          have HRUN := Lib.hid hrun
          have H7 := Lib.hid happ
          clear hq hr hzz hrun happ
          go_wp2_with (at_builtin; refine wpList_append_run rfl (.tmp 73) (.tmp 77) _ rfl rfl rfl HRUN.out ?_)
          go_roundw
          case rel => exact ⟨k + 1, c7, A7, r, rfl, by go_num, by omega, HBel5.out.trans (H7.out.below HO5.out hs5), HRT.out, H7.out.own⟩
          case measure => simp [intOf]; omega
        · have hq := HPTX.out rfl
          have hr := HR3.out
          rw [hq] at hr
          have hsl := Lib.size_eq vs
          have hvl : vs.size ≤ 140737488355328 := by
            have := congrArg List.length hr
            rw [List.length_append] at this
            omega
          have HR := Lib.hid hr
          have HSL := Lib.hid hsl
          obtain ⟨wo, hwo⟩ : ∃ wo : World, wo = wr := ⟨_, rfl⟩
          subst hwo
          clear hq hr hsl
          go_wp2_with fail
          go_loopw [6, 9] (fun bs js wi => ∃ (j c6 : Nat) (A6 : Option Addr) (p : List UInt8), bs = .slice A6 p.length c6 ∧ js = .int .i64 j ∧ j ≤ vs.size ∧ Hid (p = r2 ++ vs.data.toList.take j) ∧ Hid (AppTo w5 w.heap.size (.slice A5 r2.length c5) p A6 c6 wi)) (fun _ js _ => vs.size - (intOf js).toNat)
          case atStart => exact ⟨0, c5, A5, r2, rfl, rfl, Nat.zero_le _, by unfold Hid; rw [List.take_zero, List.append_nil], AppTo.refl HO5.out⟩
          case round =>
            clear b0 b1 b2
            obtain ⟨j, c6, A6, p, rfl, rfl, hj, HP6, HA6⟩ := hrel
            obtain ⟨b0, b1, b2⟩ := HBX5.out.app HA6.out HNE5.out
            dsimp only at b0 b1 b2
            have hws6 := Nat.le_trans hs5 HA6.out.grown.size
            by_cases hjl : j < vs.size
            · have hjz : (j : Int) < (vs.size : Int) := by omega
              have hjl2 : j < vs.data.toList.length := by have := HSL.out; omega
              obtain ⟨x, hx⟩ : ∃ x, vs[j]'hjl = x := ⟨_, rfl⟩
              obtain ⟨p7, hp7⟩ : ∃ p7, p7 = p ++ [x] := ⟨_, rfl⟩
              have hp8 : p7 = r2 ++ vs.data.toList.take (j + 1) := by
                rw [hp7, HP6.out, List.append_assoc, List.take_succ_eq_append_getElem hjl2]
                congr 2
                rw [← hx]; rfl
              have hpl : p7.length ≤ 140737488355328 := by
                have h1 := congrArg List.length HR.out
                have h2 := congrArg List.length hp8
                rw [List.length_append] at h1 h2
                rw [List.length_take] at h2
                omega
              obtain ⟨A7, c7, w7, hrun, happ⟩ := run_app_one HA6.out.own (x.toNat : Int) x rfl p7 hp7 hpl hws6
              have HRUN := Lib.hid hrun
              have H7 := Lib.hid (HA6.out.trans happ)
              have HP8 := Lib.hid hp8
              clear hrun happ hp7 hp8 hpl hjl2
              go_wp2_with (at_builtin; refine wpList_append_run rfl (.tmp 50) (.tmp 55) _ rfl rfl rfl HRUN.out ?_)
              go_roundw
              case rel => exact ⟨j + 1, c7, A7, p7, rfl, by go_num, by omega, HP8.out, H7.out⟩
              case measure => simp [intOf]; omega
            · have hpr : p = r := by
                rw [HP6.out, HR.out, List.take_of_length_le (by have := HSL.out; omega)]
              obtain rfl := hpr
              go_wp2
              go_roundw
              case rel => exact ⟨k + 1, c6, A6, _, rfl, by go_num, by omega, HBel5.out.trans (HA6.out.below HO5.out hs5), HRT.out, HA6.out.own⟩
              case measure => simp [intOf]; omega
        · have hq := HPTX.out rfl
          have hr := HR3.out
          rw [hq] at hr
          have hsl := Lib.size_eq vs
          have hvl : vs.size ≤ 140737488355328 := by
            have := congrArg List.length hr
            rw [List.length_append] at this
            omega
          have HR := Lib.hid hr
          have HSL := Lib.hid hsl
          obtain ⟨wo, hwo⟩ : ∃ wo : World, wo = wr := ⟨_, rfl⟩
          subst hwo
          clear hq hr hsl
          go_wp2_with fail
          go_loopw [6, 9] (fun bs js wi => ∃ (j c6 : Nat) (A6 : Option Addr) (p : List UInt8), bs = .slice A6 p.length c6 ∧ js = .int .i64 j ∧ j ≤ vs.size ∧ Hid (p = r2 ++ vs.data.toList.take j) ∧ Hid (AppTo w5 w.heap.size (.slice A5 r2.length c5) p A6 c6 wi)) (fun _ js _ => vs.size - (intOf js).toNat)
          case atStart => exact ⟨0, c5, A5, r2, rfl, rfl, Nat.zero_le _, by unfold Hid; rw [List.take_zero, List.append_nil], AppTo.refl HO5.out⟩
          case round =>
            clear b0 b1 b2
            obtain ⟨j, c6, A6, p, rfl, rfl, hj, HP6, HA6⟩ := hrel
            obtain ⟨b0, b1, b2⟩ := HBX5.out.app HA6.out HNE5.out
            dsimp only at b0 b1 b2
            have hws6 := Nat.le_trans hs5 HA6.out.grown.size
            by_cases hjl : j < vs.size
            · have hjz : (j : Int) < (vs.size : Int) := by omega
              have hjl2 : j < vs.data.toList.length := by have := HSL.out; omega
              obtain ⟨x, hx⟩ : ∃ x, vs[j]'hjl = x := ⟨_, rfl⟩
              obtain ⟨p7, hp7⟩ : ∃ p7, p7 = p ++ [x] := ⟨_, rfl⟩
              have hp8 : p7 = r2 ++ vs.data.toList.take (j + 1) := by
                rw [hp7, HP6.out, List.append_assoc, List.take_succ_eq_append_getElem hjl2]
                congr 2
                rw [← hx]; rfl
              have hpl : p7.length ≤ 140737488355328 := by
                have h1 := congrArg List.length HR.out
                have h2 := congrArg List.length hp8
                rw [List.length_append] at h1 h2
                rw [List.length_take] at h2
                omega
              obtain ⟨A7, c7, w7, hrun, happ⟩ := run_app_one HA6.out.own (x.toNat : Int) x rfl p7 hp7 hpl hws6
              have HRUN := Lib.hid hrun
              have H7 := Lib.hid (HA6.out.trans happ)
              have HP8 := Lib.hid hp8
              clear hrun happ hp7 hp8 hpl hjl2
              go_wp2_with (at_builtin; refine wpList_append_run rfl (.tmp 50) (.tmp 55) _ rfl rfl rfl HRUN.out ?_)
              go_roundw
              case rel => exact ⟨j + 1, c7, A7, p7, rfl, by go_num, by omega, HP8.out, H7.out⟩
              case measure => simp [intOf]; omega
            · have hpr : p = r := by
                rw [HP6.out, HR.out, List.take_of_length_le (by have := HSL.out; omega)]
              obtain rfl := hpr
              go_wp2
              go_roundw
              case rel => exact ⟨k + 1, c6, A6, _, rfl, by go_num, by omega, HBel5.out.trans (HA6.out.below HO5.out hs5), HRT.out, HA6.out.own⟩
              case measure => simp [intOf]; omega
      · obtain rfl : k = l.length := by omega
        have hp := HP.out
        rw [List.take_length] at hp
        have HP2 := Lib.hid hp
        clear hp
        go_wp2
        go_ret2
        exact new_enc_ok HD.out.1 (HD.out.2.trans HP2.out.symm) HO.out hB
  · have hne : (d != 0) = true := by simpa using hd0
    have h0 : cby l = [] := by unfold cby; rw [hd, if_neg hd0]
    have HD := Lib.hid (And.intro hd h0)
    clear ha hd h0 hg hl hA h hi hd0
    go_enter Tryd.func15, Tryd.ntmps15
    go_wp2_with (go_at_call 13; refine cm.mono ?_; rintro e w1 ⟨rfl, hb1⟩)
    go_ret2
    exact new_enc_bad HD.out.1 HD.out.2 hb1
end Go.Proofs.YthekbefbhjllnaaDoor
