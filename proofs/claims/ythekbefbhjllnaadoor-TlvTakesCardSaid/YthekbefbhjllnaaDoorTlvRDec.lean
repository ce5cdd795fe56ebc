/- The walk of the reference's Decode. -/
import Derived.Test.YthekbefbhjllnaaDoorTlvRVal
namespace Go.Proofs.YthekbefbhjllnaaDoor
open Go.RowKit
open Go.Lib (byteCells uvarint)

theorem size_alloc1 (w : World) (o : Obj) : (w.alloc o).heap.size = w.heap.size + 1 := by simp
/-- one step of the reference's Decode: where the field at the front can't stand -/
theorem stop_of {cur : List UInt8} {m : Int} (h : ¬ tkE cur = 0 ∨ ¬ tkX cur / 8 ≤ 65535 ∨ (tkX cur : Int) / 8 ≤ m ∨ ¬ tkE (r1 cur) = 0 ∨ ¬ tkX (r1 cur) ≤ (r2 cur).length ∨ ∀ v, tkVal ((tkX cur : Int) % 8) ((r2 cur).take (tkX (r1 cur))) = some v → okV v = false) :
    ∀ f n, tkFld cur = some (f, n) → canF f m = false := by
  intro f n ht
  have hp := tkFld_parts ht
  obtain ⟨g1, g2, g3, g4, g5, g6, g7, g8⟩ := hp
  rcases h with g | g | g | g | g | g
  · exact absurd g1 g
  · exact absurd g2 g
  · unfold canF; rw [decide_eq_false (show ¬ m < f.t by omega)]; rfl
  · exact absurd g3 g
  · exact absurd g4 g
  · have : okV f.v = false := by
      unfold tvO at g5
      unfold tvV at g6
      cases hq : tkVal ((tkX cur : Int) % 8) ((r2 cur).take (tkX (r1 cur))) with
      | none => rw [hq] at g5; cases g5
      | some v => rw [hq] at g6; rw [g6]; exact g v hq
    unfold canF; rw [this, Bool.and_false]
/-- and where it can -/
theorem go_of {cur : List UInt8} {m : Int} {v : Val} (g1 : tkE cur = 0) (g2 : tkX cur / 8 ≤ 65535) (g0 : m < (tkX cur : Int) / 8) (g3 : tkE (r1 cur) = 0) (g4 : tkX (r1 cur) ≤ (r2 cur).length) (hv : tkVal ((tkX cur : Int) % 8) ((r2 cur).take (tkX (r1 cur))) = some v) (hok : okV v = true) :
    tkFld cur = some (⟨(tkX cur : Int) / 8, v⟩, tkN cur + tkN (r1 cur) + tkX (r1 cur)) ∧ canF ⟨(tkX cur : Int) / 8, v⟩ m = true := by
  refine ⟨?_, ?_⟩
  · unfold tkFld
    rw [if_pos ⟨g1, g2, g3, g4⟩]
    have e : ((tkX cur % 8 : Nat) : Int) = (tkX cur : Int) % 8 := by omega
    have e2 : ((tkX cur / 8 : Nat) : Int) = (tkX cur : Int) / 8 := by omega
    rw [e, hv, e2]; rfl
  · unfold canF
    rw [decide_eq_true g0, decide_eq_true (show (tkX cur : Int) / 8 ≤ 65535 by omega), hok]; rfl

set_option maxRecDepth 100000 in
set_option maxHeartbeats 8000000 in
theorem rdec_any {w0 w : World} (h : KSt w0 w) {A : Option Addr} {b : List UInt8} (c : Nat) (hA : Byt w w.heap.size A b) (hc : b.length ≤ c) (hm : b.length ≤ 140737488355328) :
    Calls Tryd.prog 20 #[.slice A b.length c] w (NewDec w b) := by
  by_cases hlong : 16777215 < b.length
  · have hd := Lib.hid (der_long hlong)
    go_enter Tryd.func20, Tryd.ntmps20
    go_wp2
    go_ret2
    exact new_dec_bad hd.out (Below.refl _ _)
  have H0 := Lib.hid h.self
  have HA := Lib.hid hA
  clear h hA
  go_enter Tryd.func20, Tryd.ntmps20
  go_wp2
  go_loopw [4, 5, 6] (fun rs ax la wr => ∃ (at_ c2 : Nat) (A2 : Option Addr) (rec : List Fd) (m : Int), rs = .slice A2 rec.length c2 ∧ ax = .int .i64 at_ ∧ la = .int .i64 m ∧ at_ ≤ b.length ∧ Below w.heap.size w wr ∧ 0 ≤ m ∧
    Hid (b = enc rec ++ b.drop at_) ∧ Hid (Is 0 rec) ∧ Hid (m = lastOf 0 rec) ∧ Hid (OwnF wr w.heap.size A2 c2 rec)) (fun _ ax _ _ => b.length - (intOf ax).toNat)
  case atStart => exact ⟨0, 0, none, [], 0, rfl, rfl, rfl, Nat.zero_le _, Below.refl _ _, Int.le_refl _, by unfold Hid; rw [List.drop_zero]; rfl, trivial, rfl, OwnF.nil _ _⟩
  case round =>
    obtain ⟨at_, c2, A2, rec, m, rfl, rfl, rfl, hat, hB, hm0, HE, HI, HM, HO⟩ := hrel
    by_cases h0 : at_ < b.length
    · have hK : KSt w wr := H0.out.then_ hB
      have hbs := hB.size
      obtain ⟨cur, hcu⟩ : ∃ cur, b.drop at_ = cur := ⟨_, rfl⟩
      rw [hcu] at HE
      have hcl : cur.length = b.length - at_ := by rw [← hcu, List.length_drop]
      have hne : cur ≠ [] := fun e => by rw [e] at hcl; simp at hcl; omega
      obtain ⟨A1, hA1⟩ : ∃ A1, (if c = at_ then A else A.map (·.add at_)) = A1 := ⟨_, rfl⟩
      have hcut1 := run_cut_l (P := Tryd.prog) Tryd.underlying28 (by kernel_rfl) A A1 b.length c at_ (by omega) hA1.symm
      rw [← hcl] at hcut1
      have hC1 := ((HA.out.below hB).more hB.size).drop (k := at_) (cap := c) hc (by omega)
      rw [hA1, hcu] at hC1
      have ct1 := rtake_any (c - at_) hC1 (by omega)
      have htl := tk_le cur
      have hbl : b.length ≤ 16777215 := by omega
      have hstop : (¬ tkE cur = 0 ∨ ¬ tkX cur / 8 ≤ 65535 ∨ (tkX cur : Int) / 8 ≤ m ∨ ¬ tkE (r1 cur) = 0 ∨ ¬ tkX (r1 cur) ≤ (r2 cur).length ∨ ∀ v, tkVal ((tkX cur : Int) % 8) ((r2 cur).take (tkX (r1 cur))) = some v → okV v = false) → der b = 3 ∧ dre b = [] := fun hh =>
        der_bad hbl (dec_stop HI.out HE.out hbl hne (by rw [← HM.out]; exact stop_of (cur := cur) (m := m) hh))
      clear hbl
      have HSTOP := Lib.hid hstop
      obtain ⟨N1, hN1⟩ : ∃ x, tkN cur = x := ⟨_, rfl⟩
      obtain ⟨X1, hX1⟩ : ∃ x, tkX cur = x := ⟨_, rfl⟩
      rw [hN1, hX1] at ct1
      rw [hN1] at htl
      have HNX := Lib.hid (And.intro hN1 hX1)
      have HCU := Lib.hid hcu
      have HCL := Lib.hid hcl
      have HC1 := Lib.hid hC1
      clear hstop hne hA1 hC1 hN1 hX1 hcu hcl
      by_cases g1 : tkE cur = 0
      rotate_left
      · have hd := Lib.hid (HSTOP.out (.inl g1))
        have hE5 : tkE cur ≤ 5 := by rcases tk_err (l := cur) with g | g | g <;> omega
        have hEb : ((tkE cur : Int) != 0) = true := by simp; omega
        obtain ⟨E, hEE⟩ : ∃ x, tkE cur = x := ⟨_, rfl⟩
        rw [hEE] at ct1 hEb hE5
        clear hEE g1
        go_wp2_with (go_at_call 38; refine ct1.mono ?_; rintro e w1 ⟨rfl, rfl⟩)
        go_ret2
        exact new_dec_bad hd.out hB
      have z0 : ((0 : Nat) : Int) = 0 := rfl
      rw [g1, z0] at ct1
      have hx1 : X1 ≤ 18446744073709551615 := by have := (tk_ok g1).2.2.2.2; rw [HNX.out.2] at this; exact this
      by_cases g2 : X1 / 8 ≤ 65535
      rotate_left
      · have hd := Lib.hid (HSTOP.out (.inr (.inl (by rw [HNX.out.2]; exact g2))))
        have g2z : (65535 : Int) < (X1 : Int) / 8 := by omega
        have g2n : 65535 < X1 / 8 := by omega
        clear g1 g2 z0
        go_wp2_with (go_at_call 38; refine ct1.mono ?_; rintro e w1 ⟨rfl, rfl⟩)
        go_ret2
        exact new_dec_bad hd.out hB
      have g2z : ¬ (65535 : Int) < (X1 : Int) / 8 := by omega
      have g2n : ¬ 65535 < X1 / 8 := by omega
      by_cases g0 : (X1 : Int) / 8 ≤ m
      · have hd := Lib.hid (HSTOP.out (.inr (.inr (.inl (by rw [HNX.out.2]; exact g0)))))
        clear g1 g2 z0
        go_wp2_with (go_at_call 38; refine ct1.mono ?_; rintro e w1 ⟨rfl, rfl⟩)
        go_ret2
        exact new_dec_bad hd.out hB
      obtain ⟨R, hR⟩ : ∃ R, r1 cur = R := ⟨_, rfl⟩
      have hRd : b.drop (at_ + N1) = R := by rw [← hR, r1, HNX.out.1, ← HCU.out, List.drop_drop]
      have hRl : R.length = b.length - (at_ + N1) := by rw [← hRd, List.length_drop]
      have hcl := HCL.out
      obtain ⟨A3, hA3⟩ : ∃ A3, (if c = at_ + N1 then A else A.map (·.add (at_ + N1))) = A3 := ⟨_, rfl⟩
      have hcut2 := run_cut_l (P := Tryd.prog) Tryd.underlying28 (by kernel_rfl) A A3 b.length c (at_ + N1) (by omega) hA3.symm
      rw [← hRl] at hcut2
      have hcut2' : ∀ W : World, (Instr.sliceAt 28 (.slice A b.length c) (some (.int .i64 ((at_ : Int) + (N1 : Int)))) none none).run Tryd.prog W = .ok (.slice A3 R.length (c - (at_ + N1))) W := fun W => by
        have := hcut2 W
        simpa using this
      have hC2 := ((HA.out.below hB).more hB.size).drop (k := at_ + N1) (cap := c) hc (by omega)
      rw [hA3, hRd] at hC2
      have ct2 := rtake_any (c - (at_ + N1)) hC2 (by omega)
      have htl2 := tk_le R
      have hr2l : (r2 cur).length = R.length - tkN R := by unfold r2; rw [hR, List.length_drop]
      rw [hR] at HSTOP
      obtain ⟨N2, hN2⟩ : ∃ x, tkN R = x := ⟨_, rfl⟩
      obtain ⟨X2, hX2⟩ : ∃ x, tkX R = x := ⟨_, rfl⟩
      rw [hN2, hX2] at ct2
      rw [hN2] at htl2 hr2l
      have HNX2 := Lib.hid (And.intro hN2 hX2)
      have HRL := Lib.hid hRl
      have HRD := Lib.hid (And.intro hR hRd)
      have HR2L := Lib.hid hr2l
      have hn12 : at_ + N1 + N2 ≤ b.length := by omega
      have hat1 : at_ + N1 ≤ b.length := by omega
      clear hcut2 hC2 hA3 hN2 hX2 hRd hRl hr2l hcl
      by_cases g3 : tkE R = 0
      rotate_left
      · have hd := Lib.hid (HSTOP.out (.inr (.inr (.inr (.inl g3)))))
        have hE5 : tkE R ≤ 5 := by rcases tk_err (l := R) with g | g | g <;> omega
        have hEb : ((tkE R : Int) != 0) = true := by simp; omega
        obtain ⟨E, hEE⟩ : ∃ x, tkE R = x := ⟨_, rfl⟩
        rw [hEE] at ct2 hEb hE5
        clear hEE g3 g1 g2 z0 hR
        go_wp2_with (first
          | (go_at_call 38; with_reducible refine ct1.mono ?_; rintro e w1 ⟨rfl, rfl⟩)
          | (go_at_call 38; with_reducible refine ct2.mono ?_; rintro e w1 ⟨rfl, rfl⟩))
        go_ret2
        exact new_dec_bad hd.out hB
      rw [g3, z0] at ct2
      have hx2 : X2 ≤ 18446744073709551615 := by have := (tk_ok g3).2.2.2.2; rw [HNX2.out.2] at this; exact this
      by_cases g4 : X2 ≤ b.length - (at_ + N1 + N2)
      rotate_left
      · have hd := Lib.hid (HSTOP.out (.inr (.inr (.inr (.inr (.inl (by have h1 := HR2L.out; have h2 := HRL.out; rw [HNX2.out.2]; omega)))))))
        have g4z : (b.length : Int) - ((at_ : Int) + (N1 : Int)) - (N2 : Int) < (X2 : Int) := by omega
        clear g3 g1 g2 z0 hR g4
        go_wp2_with (first
          | (go_at_call 38; with_reducible refine ct1.mono ?_; rintro e w1 ⟨rfl, rfl⟩)
          | (go_at_call 38; with_reducible refine ct2.mono ?_; rintro e w1 ⟨rfl, rfl⟩))
        go_ret2
        exact new_dec_bad hd.out hB
      have g4z : ¬ (b.length : Int) - ((at_ : Int) + (N1 : Int)) - (N2 : Int) < (X2 : Int) := by omega
      have hend : at_ + N1 + N2 + X2 ≤ b.length := by omega
      obtain ⟨p, hp⟩ : ∃ p, (r2 cur).take X2 = p := ⟨_, rfl⟩
      have hr2d : r2 cur = b.drop (at_ + N1 + N2) := by unfold r2; rw [HRD.out.1, HNX2.out.1, ← HRD.out.2, List.drop_drop]
      have hpl : p.length = at_ + N1 + N2 + X2 - (at_ + N1 + N2) := by
        rw [← hp, hr2d, List.length_take, List.length_drop]; omega
      obtain ⟨A5, hA5⟩ : ∃ A5, (if c = at_ + N1 + N2 then A else A.map (·.add (at_ + N1 + N2))) = A5 := ⟨_, rfl⟩
      have hcut3 := run_cut_lh (P := Tryd.prog) Tryd.underlying28 (by kernel_rfl) A A5 b.length c (at_ + N1 + N2) (at_ + N1 + N2 + X2) (by omega) (by omega) hA5.symm
      rw [← hpl] at hcut3
      have hcut3' : ∀ W : World, (Instr.sliceAt 28 (.slice A b.length c) (some (.int .i64 ((at_ : Int) + (N1 : Int) + (N2 : Int)))) (some (.int .i64 ((at_ : Int) + (N1 : Int) + (N2 : Int) + (X2 : Int)))) none).run Tryd.prog W = .ok (.slice A5 p.length (c - (at_ + N1 + N2))) W := fun W => by
        have := hcut3 W
        simpa using this
      have hC3 := (((HA.out.below hB).more hB.size).drop (k := at_ + N1 + N2) (cap := c) hc (by omega)).take X2
      rw [hA5, ← hr2d, hp] at hC3
      have hpm : p.length ≤ 140737488355328 := by omega
      have HPP := Lib.hid hp
      have HC3 := Lib.hid hC3
      clear hcut3 hC3 hA5 hpl hr2d hp
      cases hv : tkVal ((X1 : Int) % 8) p with
      | none =>
        have hd := Lib.hid (HSTOP.out (.inr (.inr (.inr (.inr (.inr (fun v q => by rw [HNX.out.2, HNX2.out.2, HPP.out, hv] at q; cases q)))))))
        have cv := rval_no hK (c - (at_ + N1 + N2)) HC3.out hpm (k := (X1 : Int) % 8) (fun v q => by rw [hv] at q; cases q)
        clear hv g3 g1 g2 z0 hR g4
        go_wp2_with (first
          | (go_at_call 38; with_reducible refine ct1.mono ?_; rintro e w1 ⟨rfl, rfl⟩)
          | (go_at_call 38; with_reducible refine ct2.mono ?_; rintro e w1 ⟨rfl, rfl⟩)
          | (go_at_call 39; refine cv.mono ?_; rintro e w5 ⟨⟨k', n', s', rfl⟩, hb5⟩))
        go_ret2
        exact new_dec_bad hd.out (hB.trans ((hb5.mono hB.size).trans (((Below.refl _ _).alloc (Nat.le_refl _) _).mono (by have := hb5.size; omega))))
      | some v =>
        cases hok : okV v with
        | false =>
          have hd := Lib.hid (HSTOP.out (.inr (.inr (.inr (.inr (.inr (fun v' q => by rw [HNX.out.2, HNX2.out.2, HPP.out, hv] at q; obtain rfl := Option.some.inj q; exact hok)))))))
          have cv := rval_no hK (c - (at_ + N1 + N2)) HC3.out hpm (k := (X1 : Int) % 8) (fun v' q => by rw [hv] at q; obtain rfl := Option.some.inj q; exact hok)
          clear hv hok g3 g1 g2 z0 hR g4
          go_wp2_with (first
            | (go_at_call 38; with_reducible refine ct1.mono ?_; rintro e w1 ⟨rfl, rfl⟩)
            | (go_at_call 38; with_reducible refine ct2.mono ?_; rintro e w1 ⟨rfl, rfl⟩)
            | (go_at_call 39; refine cv.mono ?_; rintro e w5 ⟨⟨k', n', s', rfl⟩, hb5⟩))
          go_ret2
          exact new_dec_bad hd.out (hB.trans ((hb5.mono hB.size).trans (((Below.refl _ _).alloc (Nat.le_refl _) _).mono (by have := hb5.size; omega))))
        | true =>
          have cv := rval_yes hK (c - (at_ + N1 + N2)) HC3.out hpm hv hok
          have hgo := go_of (cur := cur) (m := m) (v := v) g1 (by rw [HNX.out.2]; exact g2) (by rw [HNX.out.2]; omega) (by rw [hR]; exact g3) (by have h1 := HR2L.out; have h2 := HRL.out; rw [hR, HNX2.out.2]; omega) (by rw [hR, HNX.out.2, HNX2.out.2, HPP.out]; exact hv) hok
          rw [hR, HNX.out.1, HNX.out.2, HNX2.out.1, HNX2.out.2] at hgo
          obtain ⟨s1, s2⟩ := dec_step HI.out HE.out hgo.1 (by rw [← HM.out]; exact hgo.2)
          obtain ⟨f, hf⟩ : ∃ f : Fd, (⟨(X1 : Int) / 8, v⟩ : Fd) = f := ⟨_, rfl⟩
          rw [hf] at s1 s2
          obtain ⟨r, hr⟩ : ∃ r, r = rec ++ [f] := ⟨_, rfl⟩
          have hrl : r.length ≤ 65535 := by rw [hr]; exact is_few s1
          have hlast : (X1 : Int) / 8 = lastOf 0 r := by rw [hr, last_snoc, ← hf]
          have hdr : cur.drop (N1 + N2 + X2) = b.drop (at_ + N1 + N2 + X2) := by rw [← HCU.out, List.drop_drop]; congr 1; omega
          rw [← hr, hdr] at s2
          rw [← hr] at s1
          have hwf := fun (W : World) (ho : OwnF W w.heap.size A2 c2 rec) (hb : w.heap.size ≤ W.heap.size) => run_app_fld ho f r hr (by omega) hb
          rw [← hf] at hwf
          have hpos : 1 ≤ N1 := by have := (tk_ok g1).2.1; rw [HNX.out.1] at this; exact this
          have HS := Lib.hid (And.intro s1 (And.intro s2 hlast))
          have HWF := Lib.hid hwf
          have hx8 : (0 : Int) ≤ (X1 : Int) / 8 := by omega
          clear hv hok g3 g1 g2 z0 hR g4 hgo s1 s2 hlast hdr hf hr hwf
          obtain ⟨k, nn, sv⟩ := v
          unfold ffC at HWF
          unfold IsVal at cv
          dsimp only at HWF cv
          go_wp2_with (first
            | (go_at_call 38; with_reducible refine ct1.mono ?_; rintro e w1 ⟨rfl, rfl⟩)
            | (go_at_call 38; with_reducible refine ct2.mono ?_; rintro e w1 ⟨rfl, rfl⟩)
            | (go_at_call 39; refine cv.mono ?_; rintro e w5 ⟨rfl, hb5⟩; obtain ⟨A4, c4, w6, hr6, ho6, hb6, _⟩ := HWF.out (w5.alloc (.cells #[.int .i64 k, .int .u64 nn, .string sv] 39)) ((HO.out.then_ hb5).then_ ((Below.refl _ _).alloc (Nat.le_refl _) _)) (by have := hb5.size; simp; omega); rw [size_alloc1] at hr6; have HR6 := Lib.hid hr6; clear hr6)
            | (at_builtin; refine wpList_append_run rfl (.tmp 92) (.tmp 96) _ rfl rfl rfl HR6.out ?_))
          go_roundw
          case rel => exact ⟨at_ + N1 + N2 + X2, c4, A4, r, (X1 : Int) / 8, rfl, by go_num, rfl, hend, hB.trans ((hb5.mono hB.size).trans ((((Below.refl _ _).alloc (Nat.le_refl _) _).mono (by have := hb5.size; omega)).trans hb6)), hx8, HS.out.2.1, HS.out.1, HS.out.2.2, ho6⟩
          case measure => simp [intOf]; omega
    · obtain rfl : at_ = b.length := by omega
      have hd := Lib.hid (der_ok (b := b) (by omega) HI.out (by have := HE.out; rw [List.drop_length, List.append_nil] at this; exact this.symm))
      go_wp2
      go_ret2
      exact new_dec_ok hd.out HO.out hB
end Go.Proofs.YthekbefbhjllnaaDoor
