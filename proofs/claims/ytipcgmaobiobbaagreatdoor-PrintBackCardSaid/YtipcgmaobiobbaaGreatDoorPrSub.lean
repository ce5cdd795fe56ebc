/- The walks of the code: a node by its kids; a subtree. -/
import Derived.Test.YtipcgmaobiobbaaGreatDoorPrLeaf
import Derived.Deep.RegionHeld3
namespace Go.Proofs.YtipcgmaobiobbaaGreatDoor
open Go.RowKit

theorem Wr.chain {w : World} {g B : Nat} {t X S : List UInt8} {lg dp : Bool} (h : Wr w g B ((t ++ X) ++ S) (over (t ++ X) S.length (over t X.length lg)) dp) : Wr w g B (t ++ (X ++ S)) (over t (X ++ S).length lg) dp := by
  rw [over_two t X.length S.length lg X rfl, ← List.length_append, List.append_assoc] at h
  exact h
/-- the contract of a subtree's writer, at a root -/
def SubC (g B x f d : Nat) (A : Option Addr) (c : Nat) (N : List Rn) (F D : List Nat) (r : Nat) : Prop := ∀ {w : World} {t : List UInt8} {lg dp : Bool} {e : Pe}, Wr w g B t lg dp → Ec w g B x f d A c N F D → peAt N r e →
  Calls Tryz.prog 39 #[.pointer (some ⟨g, 0, none⟩), .agg #[.pointer (some ⟨x, 0, none⟩), .int .i64 (r : Nat)]] w (PutT g B t e.tx lg dp w)
theorem inter_take {b : List UInt8} {l : List (List UInt8)} {i : Nat} (hi : i < l.length) (h0 : i ≠ 0) : inter b (l.take (i + 1)) = inter b (l.take i) ++ (b ++ l[i]) := by
  rw [List.take_succ_eq_append_getElem hi, inter_snoc _ _ _ (by intro e; rcases List.take_eq_nil_iff.1 e with e | e; exact h0 e; rw [e] at hi; simp at hi)]
theorem inter_first {b : List UInt8} {l : List (List UInt8)} (hi : 0 < l.length) : inter b (l.take 1) = l[0] := by
  rw [show (1 : Nat) = 0 + 1 from rfl, List.take_succ_eq_append_getElem hi]
  simp [inter]
/-- the texts of a node's kids -/
def kidTx (P : List Pe) (k : Nat) : List (List UInt8) := (P.take k).reverse.map (·.tx)

set_option maxRecDepth 100000 in
set_option maxHeartbeats 8000000 in
theorem pwrap_any {w : World} {g B x f d : Nat} {A : Option Addr} {c : Nat} {N : List Rn} {F D : List Nat} {t : List UInt8} {lg dp : Bool} {r k : Nat} {P : List Pe} (IH : ∀ r', r' < r → SubC g B x f d A c N F D r') (h : Wr w g B t lg dp) (hE : Ec w g B x f d A c N F D) (hP : pileP N r = some P) (hk : k ≤ P.length) (hF : F[r]? = some (bottom r (P.take k))) (hr : r < N.length)
    (a b z : List UInt8) (ha : a.length ≤ 100) (hb : b.length ≤ 100) (hz : z.length ≤ 100) :
    Calls Tryz.prog 45 #[.agg #[.pointer (some ⟨g, 0, none⟩), .string (str a), .string (str b), .string (str z)], .agg #[.pointer (some ⟨x, 0, none⟩), .int .i64 (r : Nat)]] w (PutT g B t (a ++ inter b (kidTx P k) ++ z) lg dp w) := by
  have hB := h.Bw
  obtain ⟨w1, hw1⟩ : ∃ w1, w.alloc (.cells #[.pointer (some ⟨g, 0, none⟩), .string (str a), .string (str b), .string (str z)] 104) = w1 := ⟨_, rfl⟩
  obtain ⟨w2, hw2⟩ : ∃ w2, w1.alloc (.cells #[.pointer (some ⟨x, 0, none⟩), .int .i64 (r : Nat)] 97) = w2 := ⟨_, rfl⟩
  have s1 : w1.heap.size = w.heap.size + 1 := by rw [← hw1]; simp
  have b1 : Below w.heap.size w w1 := by rw [← hw1]; exact (Below.refl _ w).alloc (Nat.le_refl _) _
  have b2 : Below w1.heap.size w1 w2 := by rw [← hw2]; exact (Below.refl _ w1).alloc (Nat.le_refl _) _
  have b12 : Below w.heap.size w w2 := b1.trans (b2.mono (by omega))
  have k2 : CB w2 w.heap.size 104 #[.pointer (some ⟨g, 0, none⟩), .string (str a), .string (str b), .string (str z)] := CB.below (by rw [← hw1]; exact CB.new w _ _) b2
  have q2 : CB w2 (w.heap.size + 1) 97 #[.pointer (some ⟨x, 0, none⟩), .int .i64 (r : Nat)] := by rw [← s1, ← hw2]; exact CB.new w1 _ _
  have h2 := h.below b12
  have p2 : Pr g B w w2 := Pr.of b12 hB
  have E2 := hE.pr p2
  have n1 := h2.off k2 (by decide)
  have n2 := h2.off q2 (by decide)
  -- what every world knows in which but the writer has turned
  have FX : Hid (∀ W, Pr g B w2 W → W.cell? ⟨w.heap.size, 0, none⟩ = some (.pointer (some ⟨g, 0, none⟩)) ∧ W.cell? ⟨w.heap.size, 1, none⟩ = some (.string (str a)) ∧ W.cell? ⟨w.heap.size, 2, none⟩ = some (.string (str b)) ∧ W.cell? ⟨w.heap.size, 3, none⟩ = some (.string (str z)) ∧ W.cell? ⟨w.heap.size + 1, 0, none⟩ = some (.pointer (some ⟨x, 0, none⟩)) ∧ W.cell? ⟨w.heap.size + 1, 1, none⟩ = some (.int .i64 (r : Nat))) := fun W hW => by
    have kW := k2.pr hW n1 (by decide)
    have qW := q2.pr hW n2 (by decide)
    exact ⟨kW.at_ 0, kW.at_ 1, kW.at_ 2, kW.at_ 3, qW.at_ 0, qW.at_ 1⟩
  obtain ⟨c0, c1, c2, c3, c4, c5⟩ := FX.out w2 (Pr.refl g B w2)
  have CP1 : Hid (Calls Tryz.prog 29 #[.pointer (some ⟨g, 0, none⟩), .string (str a)] w2 fun e w' => e = .returned (.tuple #[]) ∧ Hid (Wr w' g B (t ++ a) (over t a.length lg) dp ∧ Pr g B w2 w')) := by
    refine (pput_any h2 (str a) (by rw [str_size]; omega)).mono ?_
    rintro e w' ⟨he, h1, h2⟩
    rw [ls_str, str_size] at h1
    exact ⟨he, h1, h2⟩
  have CK : Hid (∀ W, Pr g B w2 W → Calls Tryz.prog 78 #[.agg #[.pointer (some ⟨x, 0, none⟩), .int .i64 (r : Nat)]] W (KidsOut x P k W)) := fun W hW => by
    have EW := E2.pr hW
    exact pkids_any EW.xb EW.kn hP hk hF hr EW.few
  have HE2 := Lib.hid E2
  have HP := Lib.hid hP
  have hkb : k ≤ 2932031007402 := by have := chain_len P r (pile_chain r P hP); have := HE2.out.few; omega
  have hlk : (kidTx P k).length = k := by unfold kidTx; rw [List.length_map, List.length_reverse, List.length_take]; omega
  have hlr : (kidRoots P k).length = k := by unfold kidRoots; rw [List.length_reverse, List.length_map, List.length_take]; omega
  have KID : Hid (∀ i (hi : i < k), ∃ e, peAt N e.r e ∧ e.r < r ∧ (kidRoots P k)[i]'(by rw [hlr]; exact hi) = e.r ∧ (kidTx P k)[i]'(by rw [hlk]; exact hi) = e.tx) := fun i hi => by
    have hl : i < (P.take k).reverse.length := by rw [List.length_reverse, List.length_take]; omega
    have hm : (P.take k).reverse[i] ∈ P := List.mem_of_mem_take (List.mem_reverse.1 (List.getElem_mem hl))
    obtain ⟨m1, P', m2⟩ := pile_mem r P hP _ hm
    refine ⟨_, ⟨P', m2⟩, m1, ?_, ?_⟩
    · unfold kidRoots
      simp only [← List.map_reverse, List.getElem_map]
    · unfold kidTx
      rw [List.getElem_map]
  have HIH := Lib.hid IH
  have hp20 := Lib.hid p2
  unfold PutT WrAt
  clear h hE hP hk hF hr k2 q2 E2 IH b1 b2 h2 p2
  go_enter Tryz.func45, Tryz.ntmps45
  go_wp2_with (first
    | (go_at_call 29; refine CP1.out.mono ?_; rintro e w3 ⟨rfl, H3⟩; obtain ⟨d0, d1, d2, d3, d4, d5⟩ := FX.out w3 H3.out.2)
    | (go_at_call 78; refine (CK.out w3 H3.out.2).mono ?_; rintro e w4 ⟨Ak, ck, rfl, hb4, hkr⟩; have HK4 := Lib.hid hkr; clear hkr))
  have h34 : Pr g B w3 w4 := Pr.of hb4 H3.out.1.Bw
  have H4 : Hid (Wr w4 g B (t ++ (a ++ inter b ((kidTx P k).take 0))) (over t (a ++ inter b ((kidTx P k).take 0)).length lg) dp ∧ Pr g B w2 w4) := by
    have e0 : a ++ inter b ((kidTx P k).take 0) = a := by simp [inter]
    rw [e0]
    exact ⟨H3.out.1.below hb4, H3.out.2.trans h34⟩
  have hg3 := H3.out.1.len
  clear d0 d1 d2 d3 d4 d5 c0 c1 c2 c3 c4 c5 CP1 CK h34 hb4 H3
  go_loopw [14] (fun u wr => ∃ (i : Nat), u = .int .i64 i ∧ i ≤ k ∧ Hid (Wr wr g B (t ++ (a ++ inter b ((kidTx P k).take i))) (over t (a ++ inter b ((kidTx P k).take i)).length lg) dp ∧ Pr g B w2 wr ∧ Pr g B w4 wr)) (fun u _ => k - (intOf u).toNat)
  case atStart => exact ⟨0, rfl, Nat.zero_le _, H4.out.1, H4.out.2, Pr.refl _ _ _⟩
  case round =>
    clear H4
    obtain ⟨i, rfl, hik, HF⟩ := hrel
    obtain ⟨d0, d1, d2, d3, d4, d5⟩ := FX.out wr HF.out.2.1
    have hl0 : w.heap.size < wr.heap.size := World.block_lt_of_cell? wr _ d0
    by_cases hlt : i < k
    · have hiz : (i : Int) < (k : Int) := by omega
      have hi0 : (0 : Int) ≤ (i : Int) := by omega
      obtain ⟨gk, rfl, hgk, hkr⟩ := HK4.out.resolve_left (by omega)
      have hkr4 := hkr.pr HF.out.2.2 (by omega)
      obtain ⟨e, he1, he2, he3, he4⟩ := KID.out i hlt
      obtain ⟨e1, e2, _, _⟩ := hkr4.at_ (j := i) (by rw [hlr]; exact hlt)
      rw [he3] at e2
      have hba : Below wr.heap.size wr (wr.alloc (.cells #[.pointer (some ⟨x, 0, none⟩), .int .i64 (e.r : Nat)] 97)) := (Below.refl _ wr).alloc (Nat.le_refl _) _
      have kn := CB.new wr 97 #[.pointer (some ⟨x, 0, none⟩), .int .i64 (e.r : Nat)]
      have hBr := HF.out.1.Bw
      have hpa : Pr g B wr (wr.alloc (.cells #[.pointer (some ⟨x, 0, none⟩), .int .i64 (e.r : Nat)] 97)) := Pr.of hba hBr
      have hwa := HF.out.1.below hba
      have nk := hwa.off kn (by decide)
      have HEa := Lib.hid ((HE2.out.pr (HF.out.2.1.trans hpa)))
      have HSUB : Hid (∀ {W : World} {t' : List UInt8} {lg' dp' : Bool}, Wr W g B t' lg' dp' → Ec W g B x f d A c N F D → Calls Tryz.prog 39 #[.pointer (some ⟨g, 0, none⟩), .agg #[.pointer (some ⟨x, 0, none⟩), .int .i64 (e.r : Nat)]] W (PutT g B t' e.tx lg' dp' W)) := fun h1 h2 => HIH.out e.r he2 h1 h2 he1
      obtain ⟨o0, _, _, _, _, _⟩ := FX.out _ (HF.out.2.1.trans hpa)
      have o5 : (wr.alloc (.cells #[.pointer (some ⟨x, 0, none⟩), .int .i64 (e.r : Nat)] 97)).cell? ⟨wr.heap.size, 0, none⟩ = some (.pointer (some ⟨x, 0, none⟩)) := kn.at_ 0
      have o6 : (wr.alloc (.cells #[.pointer (some ⟨x, 0, none⟩), .int .i64 (e.r : Nat)] 97)).cell? ⟨wr.heap.size, 1, none⟩ = some (.int .i64 (e.r : Nat)) := kn.at_ 1
      by_cases h0 : i = 0
      · subst h0
        have hgz : ¬ (0 : Int) < ((0 : Nat) : Int) := by omega
        have CS : Hid (Calls Tryz.prog 39 #[.pointer (some ⟨g, 0, none⟩), .agg #[.pointer (some ⟨x, 0, none⟩), .int .i64 (e.r : Nat)]] (wr.alloc (.cells #[.pointer (some ⟨x, 0, none⟩), .int .i64 (e.r : Nat)] 97)) fun q w' => q = .returned (.tuple #[]) ∧ Hid (Wr w' g B (t ++ (a ++ inter b ((kidTx P k).take (0 + 1)))) (over t (a ++ inter b ((kidTx P k).take (0 + 1))).length lg) dp ∧ Pr g B wr w')) := by
          refine (HSUB.out hwa HEa.out).mono ?_
          rintro q w' ⟨hq, h1, h2⟩
          refine ⟨hq, ?_, hpa.trans h2⟩
          have := h1.chain
          have e3 : a ++ inter b ((kidTx P k).take 0) ++ e.tx = a ++ inter b ((kidTx P k).take (0 + 1)) := by
            rw [inter_first (by omega), he4]
            simp [inter]
          rw [e3] at this
          exact this
        clear he1 he2 he3 he4 kn hkr hkr4 hba hpa HSUB
        go_wp2_with (go_at_call 39; refine CS.out.mono ?_; rintro q w6 ⟨rfl, H6⟩)
        go_roundw
        case rel => exact ⟨0 + 1, by go_num, by omega, H6.out.1, HF.out.2.1.trans H6.out.2, HF.out.2.2.trans H6.out.2⟩
        case measure => simp [intOf]; omega
      · have hgz : (0 : Int) < (i : Int) := by omega
        have CS : Hid (Calls Tryz.prog 29 #[.pointer (some ⟨g, 0, none⟩), .string (str b)] (wr.alloc (.cells #[.pointer (some ⟨x, 0, none⟩), .int .i64 (e.r : Nat)] 97)) fun q w5 => q = .returned (.tuple #[]) ∧ w5.cell? ⟨w.heap.size, 0, none⟩ = some (.pointer (some ⟨g, 0, none⟩)) ∧ w5.cell? ⟨wr.heap.size, 0, none⟩ = some (.pointer (some ⟨x, 0, none⟩)) ∧ w5.cell? ⟨wr.heap.size, 1, none⟩ = some (.int .i64 (e.r : Nat)) ∧
            Hid (Calls Tryz.prog 39 #[.pointer (some ⟨g, 0, none⟩), .agg #[.pointer (some ⟨x, 0, none⟩), .int .i64 (e.r : Nat)]] w5 fun q w' => q = .returned (.tuple #[]) ∧ Hid (Wr w' g B (t ++ (a ++ inter b ((kidTx P k).take (i + 1)))) (over t (a ++ inter b ((kidTx P k).take (i + 1))).length lg) dp ∧ Pr g B wr w'))) := by
          refine (pput_any hwa (str b) (by rw [str_size]; omega)).mono ?_
          rintro q w5 ⟨hq, h1, h2⟩
          rw [ls_str, str_size] at h1
          have h1' := h1.chain
          have hp5 := hpa.trans h2
          have k5 := kn.pr h2 nk (by decide)
          refine ⟨hq, (FX.out w5 (HF.out.2.1.trans hp5)).1, k5.at_ 0, k5.at_ 1, (HSUB.out h1' (HEa.out.pr h2)).mono ?_⟩
          rintro q w' ⟨hq, h3, h4⟩
          refine ⟨hq, ?_, hp5.trans h4⟩
          have := h3.chain
          have e3 : a ++ inter b ((kidTx P k).take i) ++ b ++ e.tx = a ++ inter b ((kidTx P k).take (i + 1)) := by
            rw [inter_take (by omega) h0, he4]
            simp
          rw [e3] at this
          exact this
        clear he1 he2 he3 he4 kn hkr hkr4 hba hpa HSUB h0
        go_wp2_with (first
          | (go_at_call 29; refine CS.out.mono ?_; rintro q w5 ⟨rfl, u0, u1, u2, CT⟩)
          | (go_at_call 39; refine CT.out.mono ?_; rintro q w6 ⟨rfl, H6⟩))
        go_roundw
        case rel => exact ⟨i + 1, by go_num, by omega, H6.out.1, HF.out.2.1.trans H6.out.2, HF.out.2.2.trans H6.out.2⟩
        case measure => simp [intOf]; omega
    · obtain rfl : i = k := by omega
      have hiz : ¬ (i : Int) < (i : Int) := by omega
      have CZ : Hid (Calls Tryz.prog 29 #[.pointer (some ⟨g, 0, none⟩), .string (str z)] wr fun q w' => q = .returned (.tuple #[]) ∧ Hid (Wr w' g B (t ++ (a ++ inter b (kidTx P i) ++ z)) (over t (a ++ inter b (kidTx P i) ++ z).length lg) dp ∧ Pr g B w w')) := by
        refine (pput_any HF.out.1 (str z) (by rw [str_size]; omega)).mono ?_
        rintro q w' ⟨hq, h1, h2⟩
        rw [ls_str, str_size] at h1
        have h1' := h1.chain
        rw [List.take_of_length_le (by omega)] at h1'
        exact ⟨hq, h1', (hp20.out.trans HF.out.2.1).trans h2⟩
      go_wp2_with (go_at_call 29; refine CZ.out.mono ?_; rintro q w6 ⟨rfl, H6⟩)
      go_end0
      exact ⟨rfl, H6.out⟩
end Go.Proofs.YtipcgmaobiobbaaGreatDoor
