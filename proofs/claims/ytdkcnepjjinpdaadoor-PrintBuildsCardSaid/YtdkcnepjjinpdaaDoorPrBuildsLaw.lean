/- The walk of PrintBuilds, whatever comes in. -/
import Derived.Test.YtdkcnepjjinpdaaDoorPrBuilds6
import Derived.Test.YtdkcnepjjinpdaaDoorPrBuilds7
import Derived.Test.YtdkcnepjjinpdaaDoorPrBuilds8
import Derived.Test.YtdkcnepjjinpdaaDoorPrBt
namespace Go.Proofs.YtdkcnepjjinpdaaDoor
open Go.RowKit

theorem mark_five (z : Int) : wrap64 (6 + wrap64 ((IntKind.u64.wrap z).tmod 5)) = 6 ∨ wrap64 (6 + wrap64 ((IntKind.u64.wrap z).tmod 5)) = 7 ∨ wrap64 (6 + wrap64 ((IntKind.u64.wrap z).tmod 5)) = 8 ∨ wrap64 (6 + wrap64 ((IntKind.u64.wrap z).tmod 5)) = 9 ∨ wrap64 (6 + wrap64 ((IntKind.u64.wrap z).tmod 5)) = 10 := by
  have h : IntKind.u64.wrap z = z % 18446744073709551616 := rfl
  have h1 : (IntKind.u64.wrap z).tmod 5 = (IntKind.u64.wrap z) % 5 := Int.tmod_eq_emod_of_nonneg (by rw [h]; omega)
  rw [h1]
  have h2 : 0 ≤ (IntKind.u64.wrap z) % 5 ∧ (IntKind.u64.wrap z) % 5 < 5 := by omega
  obtain ⟨d, hd⟩ : ∃ d, (IntKind.u64.wrap z) % 5 = d := ⟨_, rfl⟩
  rw [hd] at h2 ⊢
  unfold wrap64
  omega

set_option maxRecDepth 100000 in
set_option maxHeartbeats 8000000 in
theorem builds_no {W : World} {A B : Option Addr} {cA cB : Nat} {N M : List Rn} {z : Int} (hT : Ten W W.heap.size) (hN : RN W W.heap.size A N) (hM : RN W W.heap.size B M) (fN : Few N) (fM : Few M) (hne : (valP N).2 ≠ 0 ∨ (valP M).2 ≠ 0) :
    Calls Tryd.prog 5 #[.agg #[.slice A N.length cA, .slice B M.length cB, .int .i64 z]] W fun e w' => e = .returned (.bool true) ∧ Below W.heap.size W w' := by
  obtain ⟨w1, hw1⟩ : ∃ w1, W.alloc (.cells #[.slice A N.length cA, .slice B M.length cB, .int .i64 z] 34) = w1 := ⟨_, rfl⟩
  have b1 : Below W.heap.size W w1 := by rw [← hw1]; exact (Below.refl _ W).alloc (Nat.le_refl _) _
  have k1 : CB w1 W.heap.size 34 #[.slice A N.length cA, .slice B M.length cB, .int .i64 z] := by rw [← hw1]; exact CB.new W _ _
  obtain ⟨sN, hsN⟩ : ∃ sN, str (valP N).1 = sN := ⟨_, rfl⟩
  obtain ⟨sM, hsM⟩ : ∃ sM, str (valP M).1 = sM := ⟨_, rfl⟩
  obtain ⟨kN, hkN⟩ : ∃ kN : Int, ((valP N).2 : Nat) = kN := ⟨_, rfl⟩
  obtain ⟨kM, hkM⟩ : ∃ kM : Int, ((valP M).2 : Nat) = kM := ⟨_, rfl⟩
  have hT1 := (hT.below b1).more b1.size
  have ca := pawake_any w1 hT1
  have CA : Hid (∀ w', Below w1.heap.size w1 w' → Calls Tryd.prog 9 #[.slice A N.length cA] w' fun e w2 => e = .returned (.tuple #[.string sN, .int .i64 kN]) ∧ Hid (Below w1.heap.size w1 w2)) := by
    intro w' hb
    refine (pvalue_any (c := cA) ((((hN.below b1).more b1.size).below hb).more hb.size) ((hT1.below hb).more hb.size) fN).mono ?_
    rintro e w2 ⟨rfl, hb2⟩
    rw [hsN, hkN]
    exact ⟨rfl, hb.trans (hb2.mono hb.size)⟩
  have CM : Hid (∀ w', Below w1.heap.size w1 w' → Calls Tryd.prog 9 #[.slice B M.length cB] w' fun e w2 => e = .returned (.tuple #[.string sM, .int .i64 kM]) ∧ Hid (Below w1.heap.size w1 w2)) := by
    intro w' hb
    refine (pvalue_any (c := cB) ((((hM.below b1).more b1.size).below hb).more hb.size) ((hT1.below hb).more hb.size) fM).mono ?_
    rintro e w2 ⟨rfl, hb2⟩
    rw [hsM, hkM]
    exact ⟨rfl, hb.trans (hb2.mono hb.size)⟩
  have hne' : kN ≠ 0 ∨ kM ≠ 0 := by omega
  obtain ⟨nA, hnA⟩ : ∃ nA, N.length = nA := ⟨_, rfl⟩
  obtain ⟨nB, hnB⟩ : ∃ nB, M.length = nB := ⟨_, rfl⟩
  rw [hnA, hnB] at k1 hw1
  rw [hnA] at CA
  rw [hnB] at CM
  have FX : Hid (∀ w', Below w1.heap.size w1 w' → Hid (Below W.heap.size W w') ∧ w'.cell? ⟨W.heap.size, 0, none⟩ = some (.slice A nA cA) ∧ w'.cell? ⟨W.heap.size, 1, none⟩ = some (.slice B nB cB)) := fun w' hb =>
    ⟨b1.trans (hb.mono b1.size), (k1.below hb).at_ 0, (k1.below hb).at_ 1⟩
  rw [hnA, hnB]
  clear hT hN hM fN fM hne hsN hsM hkN hkM k1 hnA hnB b1 hT1
  by_cases hz : kN = 0
  · have q1 : (kN != 0) = false := by rw [hz]; rfl
    have q2 : (kM != 0) = true := bne_iff_ne.2 (hne'.resolve_left fun q => q hz)
    clear hne' hz
    go_enter Tryd.func5, Tryd.ntmps5
    go_wp2_with (first
      | (go_at_call 8; (with_reducible refine ca.mono ?_); rintro e w2 ⟨rfl, hb2⟩; have cv := CA.out w2 hb2; obtain ⟨-, d0, d1⟩ := FX.out w2 hb2)
      | (go_at_call 9; (with_reducible refine cv.mono ?_); rintro e w3 ⟨rfl, H3⟩; have cx := CM.out w3 H3.out; obtain ⟨-, e0, e1⟩ := FX.out w3 H3.out; clear cv)
      | (go_at_call 9; (with_reducible refine cx.mono ?_); rintro e w4 ⟨rfl, H4⟩; clear cx))
    go_ret
    exact ⟨rfl, (FX.out _ H4.out).1.out⟩
  · have q1 : (kN != 0) = true := bne_iff_ne.2 hz
    clear hne' hz
    go_enter Tryd.func5, Tryd.ntmps5
    go_wp2_with (first
      | (go_at_call 8; (with_reducible refine ca.mono ?_); rintro e w2 ⟨rfl, hb2⟩; have cv := CA.out w2 hb2; obtain ⟨-, d0, d1⟩ := FX.out w2 hb2)
      | (go_at_call 9; (with_reducible refine cv.mono ?_); rintro e w3 ⟨rfl, H3⟩; have cx := CM.out w3 H3.out; obtain ⟨-, e0, e1⟩ := FX.out w3 H3.out; clear cv)
      | (go_at_call 9; (with_reducible refine cx.mono ?_); rintro e w4 ⟨rfl, H4⟩; clear cx))
    go_ret
    exact ⟨rfl, (FX.out _ H4.out).1.out⟩
theorem builds_any {W : World} {A B : Option Addr} {cA cB : Nat} {N M : List Rn} {z : Int} (hT : Ten W W.heap.size) (hN : RN W W.heap.size A N) (hM : RN W W.heap.size B M) (fN : Few N) (fM : Few M) :
    Calls Tryd.prog 5 #[.agg #[.slice A N.length cA, .slice B M.length cB, .int .i64 z]] W fun e w' => e = .returned (.bool true) ∧ Below W.heap.size W w' := by
  by_cases h : (valP N).2 ≠ 0 ∨ (valP M).2 ≠ 0
  · exact builds_no hT hN hM fN fM h
  · obtain ⟨e, hE, _, hle, hve⟩ := val_ok (N := N) (by omega)
    obtain ⟨f, hF, _, hlf, hvf⟩ := val_ok (N := M) (by omega)
    rcases mark_five z with hq | hq | hq | hq | hq
    · exact builds6_any hT hN hM fN fM hE hF hve hvf hle hlf hq
    · exact builds7_any hT hN hM fN fM hE hF hve hvf hle hlf hq
    · exact builds8_any hT hN hM fN fM hE hF hve hvf hle hlf hq
    · exact builds9_any hT hN hM fN fM hE hF hve hvf hle hlf hq
    · exact builds10_any hT hN hM fN fM hE hF hve hvf hle hlf hq
end Go.Proofs.YtdkcnepjjinpdaaDoor
