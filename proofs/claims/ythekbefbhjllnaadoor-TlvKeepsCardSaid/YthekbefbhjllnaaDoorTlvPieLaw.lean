/- The walk of TlvPieces. -/
import Derived.Test.YthekbefbhjllnaaDoorTlvBackLaw
namespace Go.Proofs.YthekbefbhjllnaaDoor
open Go.RowKit
open Go.Lib (byteCells uvarint)

theorem run_size4 (W : World) : (sizeOf 41).run Tryd.prog W = .ok 4 W := by
  obtain ⟨i, hi, _, hs, _⟩ := info_f
  simp [sizeOf, typeInfo, hi, hs]
theorem run_cutF_l (A A' : Option Addr) (n c k : Nat) (hk : k ≤ n) (hA : A' = if c = k then A else A.map (·.add (k * 4))) (W : World) :
    (Instr.sliceAt 22 (.slice A n c) (some (.int .i64 (k : Int))) none none).run Tryd.prog W = .ok (.slice A' (n - k) (c - k)) W := by
  have hE : Tryd.prog.elem 22 = 41 := elem_of Tryd.underlying22
  have ht' : Tryd.prog.underlying 22 = some (.slice (Tryd.prog.elem 22)) := by rw [hE]; exact Tryd.underlying22
  rw [run_sliceAt_slice _ _ _ _ _ _ ht', run_slice_l _ _ A n c ht' .i64 k (by omega) (by omega), hE, run_size4]
  simp only [Result.andThen, sliced, Int.toNat_natCast]
  rw [← hA]
theorem run_cutF_h (A : Option Addr) (n c k : Nat) (hk : k ≤ c) (W : World) :
    (Instr.sliceAt 22 (.slice A n c) none (some (.int .i64 (k : Int))) none).run Tryd.prog W = .ok (.slice A k c) W := by
  have hE : Tryd.prog.elem 22 = 41 := elem_of Tryd.underlying22
  have ht' : Tryd.prog.underlying 22 = some (.slice (Tryd.prog.elem 22)) := by rw [hE]; exact Tryd.underlying22
  rw [run_sliceAt_slice _ _ _ _ _ _ ht', run_slice_h _ _ A n c ht' .i64 k (by omega) (by omega), hE, run_size4]
  simp only [Result.andThen, sliced, Int.toNat_natCast, Nat.zero_mul, Nat.sub_zero, map_add_zero]
  simp

theorem str_app (a b : List UInt8) : str a ++ str b = str (a ++ b) := by
  apply ByteArray.ext
  rw [ByteArray.data_append]
  simp [str]
theorem str_size (a : List UInt8) : (str a).size = a.length := by simp [str, ByteArray.size]

/-- what is known of the pieces -/
theorem piece_err {l : List Fd} (hg : Good l) (h : Is 0 l) : cer l ≠ 1 := by
  rcases cer_is hg.fit with ⟨_, g⟩ | ⟨g, _⟩ | ⟨g, _⟩
  · exact absurd h g
  · omega
  · omega

set_option maxRecDepth 100000 in
set_option maxHeartbeats 2000000 in
theorem pieces_out {w : World} (h : KSt w w) {A : Option Addr} {l : List Fd} (c : Nat) (z : Int) (hA : FRow w w.heap.size A l) (hg : Good l) (hl : l.length ≤ 140737488355328) (hz : hvy l = true ∨ z < 0 ∨ (l.length : Int) < z) :
    Calls Tryd.prog 7 #[.slice A l.length c, .int .i64 z] w (Yes w) := by
  have ch := fun {W : World} (q : KSt w W) => c_heavy c hA hg hl q
  cases hh : hvy l with
  | true =>
    simp only [hh] at ch
    clear hh hz
    go_enter Tryd.func7, Tryd.ntmps7
    go_wp2_with (first
      | (go_at_call 11; refine (c_lives h).mono ?_; rintro e w1 ⟨rfl, h1⟩)
      | (go_at_call 12; refine (ch h1).mono ?_; rintro e w2 ⟨rfl, rfl⟩))
    go_ret
    exact ⟨rfl, h1.below⟩
  | false =>
    simp only [hh] at ch
    by_cases z0 : z < 0
    · clear hh hz
      go_enter Tryd.func7, Tryd.ntmps7
      go_wp2_with (first
        | (go_at_call 11; refine (c_lives h).mono ?_; rintro e w1 ⟨rfl, h1⟩)
        | (go_at_call 12; refine (ch h1).mono ?_; rintro e w2 ⟨rfl, rfl⟩))
      go_ret
      exact ⟨rfl, h1.below⟩
    · have z1 : (l.length : Int) < z := by
        rcases hz with g | g | g
        · rw [hh] at g; cases g
        · omega
        · exact g
      clear hh hz
      go_enter Tryd.func7, Tryd.ntmps7
      go_wp2_with (first
        | (go_at_call 11; refine (c_lives h).mono ?_; rintro e w1 ⟨rfl, h1⟩)
        | (go_at_call 12; refine (ch h1).mono ?_; rintro e w2 ⟨rfl, rfl⟩))
      go_ret
      exact ⟨rfl, h1.below⟩

set_option maxRecDepth 100000 in
set_option maxHeartbeats 2000000 in
theorem pieces_in {w : World} (h : KSt w w) {A : Option Addr} {l : List Fd} (c k : Nat) (hA : FRow w w.heap.size A l) (hg : Good l) (hl : l.length ≤ 140737488355328) (hc : l.length ≤ c) (hk : k ≤ l.length) (hh : hvy l = false) :
    Calls Tryd.prog 7 #[.slice A l.length c, .int .i64 (k : Int)] w (Yes w) := by
  have ch := fun {W : World} (q : KSt w W) => c_heavy c hA hg hl q
  have hL := hvy_light hh
  simp only [hh] at ch
  clear hh
  have ce := fun {W : World} (q : KSt w W) => c_encode c hA hg hL q
  have hcut1 := run_cutF_h A l.length c k (by omega)
  obtain ⟨A2, hA2⟩ : ∃ A2, (if c = k then A else A.map (·.add (k * 4))) = A2 := ⟨_, rfl⟩
  have hcut2 := run_cutF_l A A2 l.length c k hk hA2.symm
  have f1 := hA.take k
  have f2 := hA.drop (k := k) (cap := c) hc hk
  rw [hA2] at f2
  have g1 := hg.take k
  have g2 := hg.drop k
  have l1 := hL.take k
  have l2 := hL.drop k
  have e1 : (l.take k).length = k := by rw [List.length_take]; omega
  have e2 : (l.drop k).length = l.length - k := List.length_drop
  have ce1 := fun {W : World} (q : KSt w W) => c_encode c f1 g1 l1 q
  have ce2 := fun {W : World} (q : KSt w W) => c_encode (c - k) f2 g2 l2 q
  have hap : enc (l.take k) ++ enc (l.drop k) = enc l := by rw [← enc_app, List.take_append_drop]
  have hlp := congrArg List.length hap
  rw [List.length_append] at hlp
  rcases cer_is hg.fit with ⟨g, his⟩ | ⟨g, his, hm⟩ | ⟨g, his, hm⟩
  · have hb : cby l = [] := by unfold cby; rw [g]; rfl
    simp only [g, hb] at ce
    rw [e1] at ce1
    rw [e2] at ce2
    obtain ⟨d1, hd1⟩ : ∃ d, cer (l.take k) = d := ⟨_, rfl⟩
    obtain ⟨d2, hd2⟩ : ∃ d, cer (l.drop k) = d := ⟨_, rfl⟩
    simp only [hd1] at ce1
    simp only [hd2] at ce2
    obtain ⟨b1, hb1⟩ : ∃ d, cby (l.take k) = d := ⟨_, rfl⟩
    obtain ⟨b2, hb2⟩ : ∃ d, cby (l.drop k) = d := ⟨_, rfl⟩
    simp only [hb1] at ce1
    simp only [hb2] at ce2
    clear g his hb e1 e2 f1 f2 g1 g2 l1 l2 hd1 hd2 hb1 hb2 hap hlp hA2
    go_enter Tryd.func7, Tryd.ntmps7
    go_wp2_with (first
      | (go_at_call 11; refine (c_lives h).mono ?_; rintro e w1 ⟨rfl, h1⟩)
      | (go_at_call 12; refine (ch h1).mono ?_; rintro e w2 ⟨rfl, rfl⟩)
      | (go_at_call 16; with_reducible refine (ce h1).mono ?_; rintro e w3 ⟨A3, c3, rfl, h3⟩; have h3s := h3.st)
      | (go_at_call 16; with_reducible refine (ce1 h3s).mono ?_; rintro e w4 ⟨A4, c4, rfl, h4⟩; have h4s := h4.st)
      | (go_at_call 16; with_reducible refine (ce2 h4s).mono ?_; rintro e w5 ⟨A5, c5, rfl, h5⟩; have h5s := h5.st))
    go_ret
    exact ⟨rfl, h5s.below⟩
  · obtain ⟨_, _, _, hb⟩ := cer_long his hm
    simp only [g, hb] at ce
    rw [e1] at ce1
    rw [e2] at ce2
    have n1 := piece_err g1 (is_take k his)
    have n2 := piece_err g2 (is_drop k his)
    obtain ⟨d1, hd1⟩ : ∃ d, cer (l.take k) = d := ⟨_, rfl⟩
    obtain ⟨d2, hd2⟩ : ∃ d, cer (l.drop k) = d := ⟨_, rfl⟩
    simp only [hd1] at ce1
    simp only [hd2] at ce2
    rw [hd1] at n1
    rw [hd2] at n2
    have m1 : (d1 != 1) = true := by simpa using n1
    have m2 : (d2 != 1) = true := by simpa using n2
    obtain ⟨b1, hb1⟩ : ∃ d, cby (l.take k) = d := ⟨_, rfl⟩
    obtain ⟨b2, hb2⟩ : ∃ d, cby (l.drop k) = d := ⟨_, rfl⟩
    simp only [hb1] at ce1
    simp only [hb2] at ce2
    clear g his hm hb e1 e2 f1 f2 g1 g2 l1 l2 hd1 hd2 hb1 hb2 hap hlp hA2 n1 n2
    go_enter Tryd.func7, Tryd.ntmps7
    go_wp2_with (first
      | (go_at_call 11; refine (c_lives h).mono ?_; rintro e w1 ⟨rfl, h1⟩)
      | (go_at_call 12; refine (ch h1).mono ?_; rintro e w2 ⟨rfl, rfl⟩)
      | (go_at_call 16; with_reducible refine (ce h1).mono ?_; rintro e w3 ⟨A3, c3, rfl, h3⟩; have h3s := h3.st)
      | (go_at_call 16; with_reducible refine (ce1 h3s).mono ?_; rintro e w4 ⟨A4, c4, rfl, h4⟩; have h4s := h4.st)
      | (go_at_call 16; with_reducible refine (ce2 h4s).mono ?_; rintro e w5 ⟨A5, c5, rfl, h5⟩; have h5s := h5.st))
    go_ret
    exact ⟨rfl, h5s.below⟩
  · obtain ⟨_, _, _, hb⟩ := cer_ok his hm
    obtain ⟨z1, _, _, hb1⟩ := cer_ok (is_take k his) (by omega)
    obtain ⟨z2, _, _, hb2⟩ := cer_ok (is_drop k his) (by omega)
    rw [e1] at ce1
    rw [e2] at ce2
    simp only [g, hb] at ce
    simp only [z1, hb1] at ce1
    simp only [z2, hb2] at ce2
    obtain ⟨r, hr⟩ : ∃ r, enc l = r := ⟨_, rfl⟩
    obtain ⟨r1, hr1⟩ : ∃ r, enc (l.take k) = r := ⟨_, rfl⟩
    obtain ⟨r2, hr2⟩ : ∃ r, enc (l.drop k) = r := ⟨_, rfl⟩
    simp only [hr] at ce
    simp only [hr1] at ce1
    simp only [hr2] at ce2
    rw [hr, hr1, hr2] at hap hlp
    rw [hr] at hm
    have hsz : ¬ 9223372036854775807 < (str r1).size + (str r2).size := by rw [str_size, str_size]; omega
    have heq : ((str r).toList == (str r1 ++ str r2).toList) = true := by rw [str_app, hap]; simp
    clear g his hm hb e1 e2 f1 f2 g1 g2 l1 l2 hb1 hb2 hap hlp hA2 z1 z2 hr hr1 hr2
    go_enter Tryd.func7, Tryd.ntmps7
    go_wp2_with (first
      | (go_at_call 11; refine (c_lives h).mono ?_; rintro e w1 ⟨rfl, h1⟩)
      | (go_at_call 12; refine (ch h1).mono ?_; rintro e w2 ⟨rfl, rfl⟩)
      | (go_at_call 16; with_reducible refine (ce h1).mono ?_; rintro e w3 ⟨A3, c3, rfl, h3⟩; have h3s := h3.st)
      | (go_at_call 16; with_reducible refine (ce1 h3s).mono ?_; rintro e w4 ⟨A4, c4, rfl, h4⟩; have h4s := h4.st)
      | (go_at_call 16; with_reducible refine (ce2 h4s).mono ?_; rintro e w5 ⟨A5, c5, rfl, h5⟩; have h5s := h5.st; have y1 := run_str (P := Tryd.prog) ((h3.reads.then_ h4.old).then_ h5.old) 28 5 9 Tryd.underlying28 Tryd.underlying5 Tryd.underlying9 c3; have y2 := run_str (P := Tryd.prog) (h4.reads.then_ h5.old) 28 5 9 Tryd.underlying28 Tryd.underlying5 Tryd.underlying9 c4; have y3 := run_str (P := Tryd.prog) h5.reads 28 5 9 Tryd.underlying28 Tryd.underlying5 Tryd.underlying9 c5))
    go_ret
    exact ⟨rfl, h5s.below⟩

theorem pieces_any {w : World} (h : KSt w w) {A : Option Addr} {l : List Fd} (c : Nat) (z : Int) (hA : FRow w w.heap.size A l) (hg : Good l) (hl : l.length ≤ 140737488355328) (hc : l.length ≤ c) :
    Calls Tryd.prog 7 #[.slice A l.length c, .int .i64 z] w (Yes w) := by
  by_cases hh : hvy l = true
  · exact pieces_out h c z hA hg hl (.inl hh)
  · by_cases z0 : z < 0
    · exact pieces_out h c z hA hg hl (.inr (.inl z0))
    · by_cases z1 : (l.length : Int) < z
      · exact pieces_out h c z hA hg hl (.inr (.inr z1))
      · obtain ⟨k, rfl⟩ := Int.eq_ofNat_of_zero_le (show 0 ≤ z by omega)
        exact pieces_in h c k hA hg hl hc (by omega) (by simpa using hh)
end Go.Proofs.YthekbefbhjllnaaDoor
