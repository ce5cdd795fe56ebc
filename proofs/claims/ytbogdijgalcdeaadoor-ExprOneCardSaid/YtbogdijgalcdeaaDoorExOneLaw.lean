/- The walk of ExprOne. gen_onelaw.py wrote this. -/
import Derived.Test.YtbogdijgalcdeaaDoorExAw
import Derived.Test.YtbogdijgalcdeaaDoorExOneP
namespace Go.Proofs.YtbogdijgalcdeaaDoor
open Go.RowKit

/-- the counts behind a kind -/
theorem one_step {N : List Rn} {k K n av ev o d : Nat} (hk : k + 1 = K) (hn : N.length = n) (hv : (valV N (K : Nat)).at_ = av ∧ (valV N (K : Nat)).e = ev) (ho : o = okC N k) (hd : d = kdC N k) :
    (o + if ev = 0 then 1 else 0) = okC N K ∧ (d + if ev = 110 ∧ av + 1 = n then 1 else 0) = kdC N K := by
  subst hk ho hd
  have e1 : ((k + 1 : Nat) : Int) = (k : Int) + 1 := by omega
  rw [e1] at hv
  constructor
  · conv => rhs; unfold okC
    rw [hv.2]
  · conv => rhs; unfold kdC
    rw [hv.2, hv.1, hn]

set_option maxRecDepth 100000 in
set_option maxHeartbeats 8000000 in
theorem onelaw_any {w : World} {A : Option Addr} {c : Nat} {N : List Rn} (hK : KSt w w) (hR : RN w w.heap.size A N) (hF : Few N) :
    Calls Tryd.prog 9 #[.slice A N.length c] w fun e w' => e = .returned (.bool true) ∧ Below w.heap.size w w' := by
  obtain ⟨n, hn⟩ : ∃ n, N.length = n := ⟨_, rfl⟩
  obtain ⟨fv, hfv⟩ : ∃ fv, (valV N 1).e = fv := ⟨_, rfl⟩
  have HFV := Lib.hid hfv
  clear hfv
  have hn9 : n ≤ 2932031007402 := by rw [← hn]; exact hF.few
  have CL := Lib.hid (lives_any hK)
  have CV : Hid (∀ W (K : Nat), Below w.heap.size w W → 1 ≤ K → K ≤ 5 → ∃ (z0 : Int) (z1 : Nat) (z2 : ByteArray) (av ev : Nat), Calls Tryd.prog 20 #[.slice A n c, .int .i64 (K : Nat)] W (fun e w' => e = .returned (.tuple #[.agg #[.int .i64 z0, .int .u64 (z1 : Nat), .string z2], .int .i64 (av : Nat), .int .i64 (ev : Nat)]) ∧ Hid (Below w.heap.size w w')) ∧ Hid ((valV N (K : Nat)).at_ = av ∧ (valV N (K : Nat)).e = ev)) := fun W K hb h1 h2 => by
    refine ⟨(valV N K).k, (valV N K).n, str (valV N K).s, (valV N K).at_, (valV N K).e, ?_, rfl, rfl⟩
    have := value_any (c := c) (k := K) (hK.then_ hb).self ((hR.below hb).more hb.size) hF
    rw [hn] at this
    refine this.mono ?_
    rintro e w' ⟨he, hb'⟩
    exact ⟨he, hb.trans (hb'.mono hb.size)⟩
  have HN := Lib.hid hn
  have BA : Hid (∀ (W : World) o, Below w.heap.size w W → Below w.heap.size w (W.alloc o)) := fun W o h => h.trans (((Below.refl _ W).alloc (Nat.le_refl _) _).mono h.size)
  rw [hn]
  clear hK hR hF hn
  go_enter Tryd.func9, Tryd.ntmps9
  go_wp2_with (go_at_call 10; refine CL.out.mono ?_; rintro e w1 ⟨rfl, H1⟩)
  have HB1 := Lib.hid H1
  clear H1 CL
  go_loopw [3, 4, 5, 6] (fun vo vd vf vk wr => ∃ (k K o d f : Nat), vo = .int .i64 o ∧ vd = .int .i64 d ∧ vf = .int .i64 f ∧ vk = .int .i64 K ∧ K ≤ 6 ∧ 1 ≤ K ∧ o < K ∧ d < K ∧ Hid (Below w.heap.size w wr ∧ k + 1 = K ∧ o = okC N k ∧ d = kdC N k ∧ (1 ≤ k → f = fv))) (fun _ _ _ vk _ => 6 - (intOf vk).toNat)
  case atStart => exact ⟨0, 1, 0, 0, 0, rfl, rfl, rfl, rfl, by decide, by decide, by decide, by decide, HB1.out, rfl, rfl, rfl, fun h => absurd h (by decide)⟩
  case round =>
    obtain ⟨k, K, o, d, f, rfl, rfl, rfl, rfl, hK6, hK1, ho9, hd9, HF⟩ := hrel
    by_cases hlt : K ≤ 5
    · have hlz : (K : Int) ≤ 5 := by omega
      obtain ⟨z0, z1, z2, av, ev, cv, HV⟩ := CV.out wr K HF.out.1 hK1 hlt
      have hpass := one_pass N (k := (K : Nat)) (by omega) (by omega)
      rw [HV.out.2, HFV.out] at hpass
      have hst := one_step HF.out.2.1 HN.out HV.out HF.out.2.2.1 HF.out.2.2.2.1
      have hf1 := HF.out.2.2.2.2
      have hkK := HF.out.2.1
      have HB := Lib.hid HF.out.1
      -- what each way needs
      have HR : Hid (∀ w', Below w.heap.size w w' → ∀ (vo vd vf vk : Int) (o' d' f' : Nat), vo = (o' : Nat) → vd = (d' : Nat) → vf = (f' : Nat) → vk = (K : Int) + 1 → o' = o + (if ev = 0 then 1 else 0) → d' = d + (if ev = 110 ∧ av + 1 = n then 1 else 0) → f' = fv → ∃ (k2 K2 o2 d2 f2 : Nat), Value.int .i64 vo = .int .i64 o2 ∧ Value.int .i64 vd = .int .i64 d2 ∧ Value.int .i64 vf = .int .i64 f2 ∧ Value.int .i64 vk = .int .i64 K2 ∧ K2 ≤ 6 ∧ 1 ≤ K2 ∧ o2 < K2 ∧ d2 < K2 ∧ Hid (Below w.heap.size w w' ∧ k2 + 1 = K2 ∧ o2 = okC N k2 ∧ d2 = kdC N k2 ∧ (1 ≤ k2 → f2 = fv))) := by
        rintro w' hb _ _ _ _ o' d' f' rfl rfl rfl rfl h1 h2 h3
        refine ⟨K, K + 1, o', d', f', rfl, rfl, rfl, by congr 1, by omega, by omega, ?_, ?_, hb, rfl, by rw [h1]; exact hst.1, by rw [h2]; exact hst.2, fun _ => h3⟩
        · rw [h1]; split <;> omega
        · rw [h2]; split <;> omega
      have hev1 : K = 1 → ev = fv := fun h => by have := HV.out.2; rw [h] at this; exact this.symm.trans HFV.out
      have hmeas : 6 - ((K : Int) + 1).toNat < 6 - (K : Int).toNat := by omega
      have hbz : Hid (∀ W, Below w.heap.size w W → Below w.heap.size w (W.alloc (.cells #[.int .i64 z0, .int .u64 (z1 : Nat), .string z2] 39))) := fun W h => BA.out W _ h
      have ho1 : (0 : Int) ≤ o ∧ (o : Int) < 7 := by omega
      have hd1 : (0 : Int) ≤ d ∧ (d : Int) < 7 := by omega
      clear hst HF HV CV BA
      have h11 : k = 0 → K = 1 := by omega
      by_cases hk0 : k = 0
      · have hKK : K = 1 := h11 hk0
        have hev1 : ev = fv := hev1 hKK
        have hz1 : ((K : Int) == 1) = true := by rw [beq_iff_eq]; omega
        have hz2 : ¬ (1 : Int) < (K : Int) := by omega
        clear h11 hk0 hkK hf1 hpass hKK
        by_cases hc0 : ev = 0
        · have c0 : ((ev : Int) == 0) = true := by rw [beq_iff_eq]; omega
          have c0' : ((ev : Int) != 0) = false := by rw [bne_eq_false_iff_eq]; omega
          have c1 : ((ev : Int) == 110) = false := by rw [beq_eq_false_iff_ne]; omega
          go_wp2_with (go_at_call 20; refine cv.mono ?_; rintro e w4 ⟨rfl, H4⟩)
          go_roundw
          case rel => exact HR.out _ (hbz.out _ H4.out) ((o : Int) + 1) (d : Nat) (fv : Nat) ((K : Int) + 1) (o + 1) (d) (fv) (by omega) (by omega) (by omega) rfl (by rw [if_pos hc0]) (by rw [if_neg (by omega)]; rfl) (by rfl)
          case measure => simp [intOf]; omega
        · have c0 : ((ev : Int) == 0) = false := by rw [beq_eq_false_iff_ne]; omega
          have c0' : ((ev : Int) != 0) = true := by rw [bne_iff_ne]; omega
          by_cases hc1 : ev = 110
          · have c1 : ((ev : Int) == 110) = true := by rw [beq_iff_eq]; omega
            have c1' : ((ev : Int) != 110) = false := by rw [bne_eq_false_iff_eq]; omega
            by_cases hat : av + 1 = n
            · have c2 : ((av : Int) == (n : Int) - 1) = true := by rw [beq_iff_eq]; omega
              go_wp2_with (go_at_call 20; refine cv.mono ?_; rintro e w4 ⟨rfl, H4⟩)
              go_roundw
              case rel => exact HR.out _ (hbz.out _ H4.out) (o : Nat) ((d : Int) + 1) (110 : Int) ((K : Int) + 1) (o) (d + 1) (fv) (by omega) (by omega) (by omega) rfl (by rw [if_neg hc0]; rfl) (by rw [if_pos ⟨hc1, hat⟩]) (by rfl)
              case measure => simp [intOf]; omega
            · have c2 : ((av : Int) == (n : Int) - 1) = false := by rw [beq_eq_false_iff_ne]; omega
              go_wp2_with (go_at_call 20; refine cv.mono ?_; rintro e w4 ⟨rfl, H4⟩)
              go_roundw
              case rel => exact HR.out _ (hbz.out _ H4.out) (o : Nat) (d : Nat) (110 : Int) ((K : Int) + 1) (o) (d) (fv) (by omega) (by omega) (by omega) rfl (by rw [if_neg hc0]; rfl) (by rw [if_neg (fun h => hat h.2)]; rfl) (by rfl)
              case measure => simp [intOf]; omega
          · have c1 : ((ev : Int) == 110) = false := by rw [beq_eq_false_iff_ne]; omega
            have c1' : ((ev : Int) != 110) = true := by rw [bne_iff_ne]; omega
            go_wp2_with (go_at_call 20; refine cv.mono ?_; rintro e w4 ⟨rfl, H4⟩)
            go_roundw
            case rel => exact HR.out _ (hbz.out _ H4.out) (o : Nat) (d : Nat) (fv : Nat) ((K : Int) + 1) (o) (d) (fv) (by omega) (by omega) (by omega) rfl (by rw [if_neg hc0]; rfl) (by rw [if_neg (fun h => hc1 h.1)]; rfl) (by rfl)
            case measure => simp [intOf]; omega
      · have hKK : 1 < K := by omega
        obtain rfl : f = fv := hf1 (by omega)
        have hz1 : ((K : Int) == 1) = false := by rw [beq_eq_false_iff_ne]; omega
        have hz2 : (1 : Int) < (K : Int) := by omega
        clear h11 hk0 hkK hf1 hev1 hKK
        by_cases hc0 : ev = 0
        · have c0 : ((ev : Int) == 0) = true := by rw [beq_iff_eq]; omega
          have c0' : ((ev : Int) != 0) = false := by rw [bne_eq_false_iff_eq]; omega
          have c1 : ((ev : Int) == 110) = false := by rw [beq_eq_false_iff_ne]; omega
          go_wp2_with (go_at_call 20; refine cv.mono ?_; rintro e w4 ⟨rfl, H4⟩)
          go_roundw
          case rel => exact HR.out _ (hbz.out _ H4.out) ((o : Int) + 1) (d : Nat) (f : Nat) ((K : Int) + 1) (o + 1) (d) (f) (by omega) (by omega) (by omega) rfl (by rw [if_pos hc0]) (by rw [if_neg (by omega)]; rfl) (by rfl)
          case measure => simp [intOf]; omega
        · have c0 : ((ev : Int) == 0) = false := by rw [beq_eq_false_iff_ne]; omega
          have c0' : ((ev : Int) != 0) = true := by rw [bne_iff_ne]; omega
          by_cases hc1 : ev = 110
          · have c1 : ((ev : Int) == 110) = true := by rw [beq_iff_eq]; omega
            have c1' : ((ev : Int) != 110) = false := by rw [bne_eq_false_iff_eq]; omega
            by_cases hat : av + 1 = n
            · have c2 : ((av : Int) == (n : Int) - 1) = true := by rw [beq_iff_eq]; omega
              go_wp2_with (go_at_call 20; refine cv.mono ?_; rintro e w4 ⟨rfl, H4⟩)
              go_roundw
              case rel => exact HR.out _ (hbz.out _ H4.out) (o : Nat) ((d : Int) + 1) (f : Nat) ((K : Int) + 1) (o) (d + 1) (f) (by omega) (by omega) (by omega) rfl (by rw [if_neg hc0]; rfl) (by rw [if_pos ⟨hc1, hat⟩]) (by rfl)
              case measure => simp [intOf]; omega
            · have c2 : ((av : Int) == (n : Int) - 1) = false := by rw [beq_eq_false_iff_ne]; omega
              go_wp2_with (go_at_call 20; refine cv.mono ?_; rintro e w4 ⟨rfl, H4⟩)
              go_roundw
              case rel => exact HR.out _ (hbz.out _ H4.out) (o : Nat) (d : Nat) (f : Nat) ((K : Int) + 1) (o) (d) (f) (by omega) (by omega) (by omega) rfl (by rw [if_neg hc0]; rfl) (by rw [if_neg (fun h => hat h.2)]; rfl) (by rfl)
              case measure => simp [intOf]; omega
          · have c1 : ((ev : Int) == 110) = false := by rw [beq_eq_false_iff_ne]; omega
            have c1' : ((ev : Int) != 110) = true := by rw [bne_iff_ne]; omega
            by_cases hc3 : ev = 111
            · have c3 : ((ev : Int) != 111) = false := by rw [bne_eq_false_iff_eq]; omega
              go_wp2_with (go_at_call 20; refine cv.mono ?_; rintro e w4 ⟨rfl, H4⟩)
              go_roundw
              case rel => exact HR.out _ (hbz.out _ H4.out) (o : Nat) (d : Nat) (f : Nat) ((K : Int) + 1) (o) (d) (f) (by omega) (by omega) (by omega) rfl (by rw [if_neg hc0]; rfl) (by rw [if_neg (fun h => hc1 h.1)]; rfl) (by rfl)
              case measure => simp [intOf]; omega
            · have c3 : ((ev : Int) != 111) = true := by rw [bne_iff_ne]; omega
              have c4 : ((ev : Int) != (f : Int)) = false := by rw [bne_eq_false_iff_eq]; omega
              go_wp2_with (go_at_call 20; refine cv.mono ?_; rintro e w4 ⟨rfl, H4⟩)
              go_roundw
              case rel => exact HR.out _ (hbz.out _ H4.out) (o : Nat) (d : Nat) (f : Nat) ((K : Int) + 1) (o) (d) (f) (by omega) (by omega) (by omega) rfl (by rw [if_neg hc0]; rfl) (by rw [if_neg (fun h => hc1 h.1)]; rfl) (by rfl)
              case measure => simp [intOf]; omega
    · obtain rfl : K = 6 := by omega
      obtain ⟨hb, hkk, h1, h2, _⟩ := HF.out
      obtain rfl : k = 5 := by omega
      have hl := one_last N
      rw [← h1, ← h2] at hl
      have ho2 : (o : Int) ≤ 2 := by omega
      clear h1 h2 hkk CV BA HB1 hlt
      by_cases ho0 : o = 0
      · subst ho0
        go_wp2
        go_ret
        exact ⟨rfl, hb⟩
      · have hz : ((o : Int) == 0) = false := by rw [beq_eq_false_iff_ne]; omega
        have h4 : (4 : Int) ≤ (o : Int) + (d : Int) := by omega
        have ho3 : (0 : Int) ≤ (o : Int) := by omega
        have hd3 : (0 : Int) ≤ (d : Int) ∧ (d : Int) < 7 := by omega
        go_wp2
        go_ret
        exact ⟨rfl, hb⟩
end Go.Proofs.YtbogdijgalcdeaaDoor
