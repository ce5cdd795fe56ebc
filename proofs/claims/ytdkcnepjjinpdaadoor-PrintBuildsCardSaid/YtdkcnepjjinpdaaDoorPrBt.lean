/- The walk of PrintBuilds where the mark is 9 (gen_builds.py). -/
import Derived.Test.YtdkcnepjjinpdaaDoorPrBu
namespace Go.Proofs.YtdkcnepjjinpdaaDoor
open Go.RowKit

set_option maxRecDepth 100000 in
set_option maxHeartbeats 8000000 in
theorem builds9_any {W : World} {A B : Option Addr} {cA cB : Nat} {N M : List Rn} {e f : Pe} {z : Int} (hT : Ten W W.heap.size) (hN : RN W W.heap.size A N) (hM : RN W W.heap.size B M) (fN : Few N) (fM : Few M)
    (hE : exprP N = some e) (hF : exprP M = some f) (hve : valP N = (e.tx, 0)) (hvf : valP M = (f.tx, 0)) (hle : e.tx.length ≤ 1048576) (hlf : f.tx.length ≤ 1048576) (hq : wrap64 (6 + wrap64 ((IntKind.u64.wrap z).tmod 5)) = 9) :
    Calls Tryd.prog 5 #[.agg #[.slice A N.length cA, .slice B M.length cB, .int .i64 z]] W fun e w' => e = .returned (.bool true) ∧ Below W.heap.size W w' := by
  obtain ⟨w1, hw1⟩ : ∃ w1, W.alloc (.cells #[.slice A N.length cA, .slice B M.length cB, .int .i64 z] 34) = w1 := ⟨_, rfl⟩
  have b1 : Below W.heap.size W w1 := by rw [← hw1]; exact (Below.refl _ W).alloc (Nat.le_refl _) _
  have k1 : CB w1 W.heap.size 34 #[.slice A N.length cA, .slice B M.length cB, .int .i64 z] := by rw [← hw1]; exact CB.new W _ _
  have hTw : Two w1 A B N M e f := ⟨(hT.below b1).more b1.size, (hN.below b1).more b1.size, (hM.below b1).more b1.size, fN, fM, hE, hF, hle, hlf⟩
  obtain ⟨SA, hSA⟩ : ∃ SA, str e.tx = SA := ⟨_, rfl⟩
  obtain ⟨SB, hSB⟩ : ∃ SB, str f.tx = SB := ⟨_, rfl⟩
  have hA : SA.size ≤ 1048576 := by rw [← hSA, str_size]; exact hle
  have hB : SB.size ≤ 1048576 := by rw [← hSB, str_size]; exact hlf
  have V8 : Three (⟨#[99, 97, 116, 40]⟩ ++ SA ++ ⟨#[44, 32]⟩ ++ SB ++ ⟨#[41]⟩) (valP (N ++ M ++ [⟨9, 2, 0, [], 0⟩])) := by
    obtain ⟨r, hx⟩ := expr_two_of hE hF (show arity ⟨9, 2, 0, [], 0⟩ = some 2 by decide)
    refine three_of hx ?_
    rw [← hSA, ← hSB, show (⟨#[99, 97, 116, 40]⟩ : ByteArray) = str [99, 97, 116, 40] from rfl, show (⟨#[44, 32]⟩ : ByteArray) = str [44, 32] from rfl, show (⟨#[41]⟩ : ByteArray) = str [41] from rfl, str_app, str_app, str_app, str_app, ls_str]
    simp [aheadL, betwL, behL, sCat]
  have V9 : Three (⟨#[45]⟩ ++ SA) (valP (N ++ [⟨5, 0, 0, [], 0⟩])) := by
    obtain ⟨r, hx⟩ := expr_one_of hE (show arity ⟨5, 0, 0, [], 0⟩ = some 1 by decide)
    refine three_of hx ?_
    rw [← hSA, show (⟨#[45]⟩ : ByteArray) = str [45] from rfl, str_app, ls_str]
    simp [aheadL, behL]
  have V10 : Three (⟨#[108, 101, 110, 40]⟩ ++ SA ++ ⟨#[41]⟩) (valP (N ++ [⟨11, 0, 0, [], 0⟩])) := by
    obtain ⟨r, hx⟩ := expr_one_of hE (show arity ⟨11, 0, 0, [], 0⟩ = some 1 by decide)
    refine three_of hx ?_
    rw [← hSA, show (⟨#[108, 101, 110, 40]⟩ : ByteArray) = str [108, 101, 110, 40] from rfl, show (⟨#[41]⟩ : ByteArray) = str [41] from rfl, str_app, str_app, ls_str]
    simp [aheadL, behL, sLen]
  obtain ⟨_, _, s3, s4⟩ := hTw.sizes
  have fNM : Few (N ++ M) := few_both fN fM (by omega)
  have hNM : (N ++ M).length = N.length + M.length := List.length_append
  have ca := pawake_any w1 hTw.ten
  have CA : Hid (∀ w', Below w1.heap.size w1 w' → Calls Tryd.prog 9 #[.slice A N.length cA] w' fun e w2 => e = .returned (.tuple #[.string SA, .int .i64 0]) ∧ Hid (Below w1.heap.size w1 w2)) := by
    intro w' hb
    refine (pvalue_any (c := cA) ((hTw.a.below hb).more hb.size) ((hTw.ten.below hb).more hb.size) fN).mono ?_
    rintro e w2 ⟨rfl, hb2⟩
    rw [hve, ← hSA]
    exact ⟨rfl, hb.trans (hb2.mono hb.size)⟩
  have CM : Hid (∀ w', Below w1.heap.size w1 w' → Calls Tryd.prog 9 #[.slice B M.length cB] w' fun e w2 => e = .returned (.tuple #[.string SB, .int .i64 0]) ∧ Hid (Below w1.heap.size w1 w2)) := by
    intro w' hb
    refine (pvalue_any (c := cB) ((hTw.b.below hb).more hb.size) ((hTw.ten.below hb).more hb.size) fM).mono ?_
    rintro e w2 ⟨rfl, hb2⟩
    rw [hvf, ← hSB]
    exact ⟨rfl, hb.trans (hb2.mono hb.size)⟩
  obtain ⟨nA, hnA⟩ : ∃ nA, N.length = nA := ⟨_, rfl⟩
  obtain ⟨nB, hnB⟩ : ∃ nB, M.length = nB := ⟨_, rfl⟩
  have A1 : Hid (∀ w', Below w1.heap.size w1 w' → ∃ g c' w5, (Builtin.append_ #[22, 22] 22 #[.slice none 0 0, .slice A nA cA]).run Tryd.prog w' = .ok (.slice (some ⟨g, 0, none⟩) nA c') w5 ∧ nA ≤ c' ∧ Hid (OwnRn w5 w1.heap.size (some ⟨g, 0, none⟩) c' N ∧ Below w1.heap.size w1 w5)) := by
    intro w' hb
    obtain ⟨g, c', w5, h1, h2, h3⟩ := hTw.first cA hb
    rw [hnA] at h1
    exact ⟨g, c', w5, h1, by have := own_cap h2; omega, h2, h3⟩
  have A2 : Hid (∀ (w5 : World) (g c' : Nat), OwnRn w5 w1.heap.size (some ⟨g, 0, none⟩) c' N ∧ Below w1.heap.size w1 w5 → ∃ g2 c2 w6, (Builtin.append_ #[22, 22] 22 #[.slice (some ⟨g, 0, none⟩) nA c', .slice B nB cB]).run Tryd.prog w5 = .ok (.slice (some ⟨g2, 0, none⟩) (nA + nB) c2) w6 ∧ Hid (OwnRn w6 w1.heap.size (some ⟨g2, 0, none⟩) c2 (N ++ M) ∧ Below w1.heap.size w1 w6)) := by
    intro w5 g c' hh
    obtain ⟨g2, c2, w6, h1, h2, h3⟩ := hTw.second cB hh.1 hh.2
    rw [hnA, hnB] at h1
    exact ⟨g2, c2, w6, h1, h2, h3⟩
  have A3 : Hid (∀ (w6 : World) (g c' : Nat), OwnRn w6 w1.heap.size (some ⟨g, 0, none⟩) c' (N ++ M) ∧ Below w1.heap.size w1 w6 → ∃ g' c2 w8, (Builtin.append_ #[22, 22] 22 #[.slice (some ⟨g, 0, none⟩) (nA + nB) c', .slice (some ⟨w6.heap.size + 1, 0, none⟩) 1 1]).run Tryd.prog ((w6.alloc (.cells #[.int .i64 9, .int .i64 2, .int .u64 0, .string ⟨#[]⟩, .int .i64 0] 38)).alloc (.cells #[.int .i64 9, .int .i64 2, .int .u64 0, .string ⟨#[]⟩, .int .i64 0] 38)) = .ok (.slice (some ⟨g', 0, none⟩) (nA + nB + 1) c2) w8 ∧
      Hid (Calls Tryd.prog 9 #[.slice (some ⟨g', 0, none⟩) (nA + nB + 1) c2] w8 fun e w'' => ((e = .returned (.tuple #[.string (⟨#[99, 97, 116, 40]⟩ ++ SA ++ ⟨#[44, 32]⟩ ++ SB ++ ⟨#[41]⟩), .int .i64 0]) ∨ e = .returned (.tuple #[.string ⟨#[]⟩, .int .i64 91]) ∨ e = .returned (.tuple #[.string ⟨#[]⟩, .int .i64 2])) ∧ Hid (Below w1.heap.size w1 w'')))) := by
    intro w6 g c' hh
    have ba : Below w6.heap.size w6 (w6.alloc (.cells #[.int .i64 9, .int .i64 2, .int .u64 0, .string ⟨#[]⟩, .int .i64 0] 38)) := (Below.refl _ _).alloc (Nat.le_refl _) _
    obtain ⟨g', c2, w8, h1, h2⟩ := hTw.more fNM (by rw [hNM]; omega) (hh.1.below ba) (hh.2.trans (ba.mono hh.2.size)) 9 2 (by decide) V8
    rw [hNM, hnA, hnB, show (w6.alloc (.cells #[.int .i64 9, .int .i64 2, .int .u64 0, .string ⟨#[]⟩, .int .i64 0] 38)).heap.size = w6.heap.size + 1 by simp] at h1
    rw [hNM, hnA, hnB] at h2
    exact ⟨g', c2, w8, h1, h2.out.mono fun _ _ hz => ⟨hz.1, hz.2.2⟩⟩
  have A4 : Hid (∀ (w6 : World) (g c' : Nat), OwnRn w6 w1.heap.size (some ⟨g, 0, none⟩) c' N ∧ Below w1.heap.size w1 w6 → ∃ g' c2 w8, (Builtin.append_ #[22, 22] 22 #[.slice (some ⟨g, 0, none⟩) nA c', .slice (some ⟨w6.heap.size, 0, none⟩) 1 1]).run Tryd.prog (w6.alloc (.cells #[.int .i64 5, .int .i64 0, .int .u64 0, .string ⟨#[]⟩, .int .i64 0] 38)) = .ok (.slice (some ⟨g', 0, none⟩) (nA + 1) c2) w8 ∧
      Hid (Calls Tryd.prog 9 #[.slice (some ⟨g', 0, none⟩) (nA + 1) c2] w8 fun e w'' => ((e = .returned (.tuple #[.string (⟨#[45]⟩ ++ SA), .int .i64 0]) ∨ e = .returned (.tuple #[.string ⟨#[]⟩, .int .i64 91]) ∨ e = .returned (.tuple #[.string ⟨#[]⟩, .int .i64 2])) ∧ Hid (OwnRn w'' w1.heap.size (some ⟨g, 0, none⟩) c' N ∧ Below w1.heap.size w1 w'')))) := by
    intro w6 g c' hh
    obtain ⟨g', c2, w8, h1, h2⟩ := hTw.more fN (by omega) hh.1 hh.2 5 0 (by decide) V9
    rw [hnA] at h1 h2
    exact ⟨g', c2, w8, h1, h2.out.mono fun _ _ hz => ⟨hz.1, hz.2⟩⟩
  have A5 : Hid (∀ (w6 : World) (g c' : Nat), OwnRn w6 w1.heap.size (some ⟨g, 0, none⟩) c' N ∧ Below w1.heap.size w1 w6 → ∃ g' c2 w8, (Builtin.append_ #[22, 22] 22 #[.slice (some ⟨g, 0, none⟩) nA c', .slice (some ⟨w6.heap.size, 0, none⟩) 1 1]).run Tryd.prog (w6.alloc (.cells #[.int .i64 11, .int .i64 0, .int .u64 0, .string ⟨#[]⟩, .int .i64 0] 38)) = .ok (.slice (some ⟨g', 0, none⟩) (nA + 1) c2) w8 ∧
      Hid (Calls Tryd.prog 9 #[.slice (some ⟨g', 0, none⟩) (nA + 1) c2] w8 fun e w'' => ((e = .returned (.tuple #[.string (⟨#[108, 101, 110, 40]⟩ ++ SA ++ ⟨#[41]⟩), .int .i64 0]) ∨ e = .returned (.tuple #[.string ⟨#[]⟩, .int .i64 91]) ∨ e = .returned (.tuple #[.string ⟨#[]⟩, .int .i64 2])) ∧ Hid (Below W.heap.size W w'')))) := by
    intro w6 g c' hh
    obtain ⟨g', c2, w8, h1, h2⟩ := hTw.more fN (by omega) hh.1 hh.2 11 0 (by decide) V10
    rw [hnA] at h1 h2
    exact ⟨g', c2, w8, h1, h2.out.mono fun _ _ hz => ⟨hz.1, b1.trans (hz.2.2.mono b1.size)⟩⟩
  rw [hnA, hnB] at k1 hw1
  rw [hnA] at CA
  rw [hnB] at CM
  have FX : Hid (∀ w', Below w1.heap.size w1 w' → Hid (Below W.heap.size W w') ∧ w'.cell? ⟨W.heap.size, 0, none⟩ = some (.slice A nA cA) ∧ w'.cell? ⟨W.heap.size, 1, none⟩ = some (.slice B nB cB) ∧ w'.cell? ⟨W.heap.size, 2, none⟩ = some (.int .i64 z)) := fun w' hb =>
    ⟨b1.trans (hb.mono b1.size), (k1.below hb).at_ 0, (k1.below hb).at_ 1, (k1.below hb).at_ 2⟩
  obtain ⟨c0, c1, c2⟩ := (FX.out w1 (Below.refl _ _)).2
  have z1 : ¬ 9223372036854775807 < 4 + SA.size := by omega
  have z2 : ¬ 9223372036854775807 < 4 + SA.size + 2 := by omega
  have z3 : ¬ 9223372036854775807 < 4 + SA.size + 2 + SB.size := by omega
  have z4 : ¬ 9223372036854775807 < 4 + SA.size + 2 + SB.size + 1 := by omega
  have z5 : ¬ 9223372036854775807 < 1 + SA.size := by omega
  have z6 : ¬ 9223372036854775807 < 4 + SA.size := by omega
  have z7 : ¬ 9223372036854775807 < 4 + SA.size + 1 := by omega
  rw [hnA, hnB]
  have hnz : (nA : Int) ≤ 1048576 := by omega
  clear hT hN hM fN fM hE hF hve hvf hle hlf hTw hSA hSB V8 V9 V10 s3 s4 fNM hNM k1 hnA hnB hA hB b1
  go_enter Tryd.func5, Tryd.ntmps5
  go_wp2_with (first
    | (go_at_call 8; (with_reducible refine ca.mono ?_); rintro e w2 ⟨rfl, hb2⟩; have cv := CA.out w2 hb2; obtain ⟨-, d0, d1, d2⟩ := FX.out w2 hb2)
    | (go_at_call 9; (with_reducible refine cv.mono ?_); rintro e w3 ⟨rfl, H3⟩; have cx := CM.out w3 H3.out; obtain ⟨-, e0, e1, e2⟩ := FX.out w3 H3.out; clear cv)
    | (go_at_call 9; (with_reducible refine cx.mono ?_); rintro e w4 ⟨rfl, H4⟩; obtain ⟨-, f0, f1, f2⟩ := FX.out w4 H4.out; obtain ⟨g5, c5, w5, hr5, n5, H5⟩ := A1.out w4 H4.out; obtain ⟨-, g0, g1, g2⟩ := FX.out w5 H5.out.2; obtain ⟨g6, c6, w6, hr6, H6⟩ := A2.out w5 g5 c5 H5.out; obtain ⟨-, h0, h1, h2⟩ := FX.out w6 H6.out.2; have n6 : W.heap.size ≠ w6.heap.size := Nat.ne_of_lt (World.block_lt_of_cell? w6 _ h0); obtain ⟨g8, c8, w8, hr8, C8⟩ := A3.out w6 g6 c6 H6.out; clear cx)
    | (at_builtin; refine wpList_append_run rfl (.tmp 33) (.tmp 35) _ rfl rfl rfl hr5 ?_)
    | (at_builtin; refine wpList_append_run rfl (.tmp 37) (.tmp 39) _ rfl rfl rfl hr6 ?_)
    | (at_builtin; refine wpList_append_run rfl (.tmp 92) (.tmp 94) _ rfl rfl rfl hr8 ?_)
    | (go_at_call 9; (with_reducible refine C8.out.mono ?_); rintro e w9 ⟨he, H9⟩; obtain ⟨-, i0, i1, i2⟩ := FX.out w9 H9.out; obtain ⟨g10, c10, w10, hr10, n10, H10⟩ := A1.out w9 H9.out; obtain ⟨g11, c11, w11, hr11, C11⟩ := A4.out w10 g10 c10 H10.out; clear C8; rcases he with rfl | rfl | rfl)
    | (at_builtin; refine wpList_append_run rfl (.tmp 114) (.tmp 116) _ rfl rfl rfl hr10 ?_)
    | (at_builtin; refine wpList_append_run rfl (.tmp 119) (.tmp 121) _ rfl rfl rfl hr11 ?_)
    | (go_at_call 9; (with_reducible refine C11.out.mono ?_); rintro e w12 ⟨he, H12⟩; obtain ⟨-, j0, j1, j2⟩ := FX.out w12 H12.out.2; obtain ⟨g13, c13, w13, hr13, C13⟩ := A5.out w12 g10 c10 H12.out; clear C11; rcases he with rfl | rfl | rfl)
    | (at_builtin; refine wpList_append_run rfl (.tmp 152) (.tmp 154) _ rfl rfl rfl hr13 ?_)
    | (go_at_call 9; (with_reducible refine C13.out.mono ?_); rintro e w14 ⟨he, H14⟩; rcases he with rfl | rfl | rfl))
  all_goals go_ret
  all_goals first
    | exact ⟨rfl, H14.out⟩
    | exact ⟨rfl, (FX.out _ H9.out).1.out⟩
end Go.Proofs.YtdkcnepjjinpdaaDoor
/- The walk of PrintBuilds where the mark is 10 (gen_builds.py). -/
namespace Go.Proofs.YtdkcnepjjinpdaaDoor
open Go.RowKit

set_option maxRecDepth 100000 in
set_option maxHeartbeats 8000000 in
theorem builds10_any {W : World} {A B : Option Addr} {cA cB : Nat} {N M : List Rn} {e f : Pe} {z : Int} (hT : Ten W W.heap.size) (hN : RN W W.heap.size A N) (hM : RN W W.heap.size B M) (fN : Few N) (fM : Few M)
    (hE : exprP N = some e) (hF : exprP M = some f) (hve : valP N = (e.tx, 0)) (hvf : valP M = (f.tx, 0)) (hle : e.tx.length ≤ 1048576) (hlf : f.tx.length ≤ 1048576) (hq : wrap64 (6 + wrap64 ((IntKind.u64.wrap z).tmod 5)) = 10) :
    Calls Tryd.prog 5 #[.agg #[.slice A N.length cA, .slice B M.length cB, .int .i64 z]] W fun e w' => e = .returned (.bool true) ∧ Below W.heap.size W w' := by
  obtain ⟨w1, hw1⟩ : ∃ w1, W.alloc (.cells #[.slice A N.length cA, .slice B M.length cB, .int .i64 z] 34) = w1 := ⟨_, rfl⟩
  have b1 : Below W.heap.size W w1 := by rw [← hw1]; exact (Below.refl _ W).alloc (Nat.le_refl _) _
  have k1 : CB w1 W.heap.size 34 #[.slice A N.length cA, .slice B M.length cB, .int .i64 z] := by rw [← hw1]; exact CB.new W _ _
  have hTw : Two w1 A B N M e f := ⟨(hT.below b1).more b1.size, (hN.below b1).more b1.size, (hM.below b1).more b1.size, fN, fM, hE, hF, hle, hlf⟩
  obtain ⟨SA, hSA⟩ : ∃ SA, str e.tx = SA := ⟨_, rfl⟩
  obtain ⟨SB, hSB⟩ : ∃ SB, str f.tx = SB := ⟨_, rfl⟩
  have hA : SA.size ≤ 1048576 := by rw [← hSA, str_size]; exact hle
  have hB : SB.size ≤ 1048576 := by rw [← hSB, str_size]; exact hlf
  have V8 : Three (⟨#[114, 101, 112, 40]⟩ ++ SA ++ ⟨#[44, 32]⟩ ++ SB ++ ⟨#[41]⟩) (valP (N ++ M ++ [⟨10, 0, 0, [], 0⟩])) := by
    obtain ⟨r, hx⟩ := expr_two_of hE hF (show arity ⟨10, 0, 0, [], 0⟩ = some 2 by decide)
    refine three_of hx ?_
    rw [← hSA, ← hSB, show (⟨#[114, 101, 112, 40]⟩ : ByteArray) = str [114, 101, 112, 40] from rfl, show (⟨#[44, 32]⟩ : ByteArray) = str [44, 32] from rfl, show (⟨#[41]⟩ : ByteArray) = str [41] from rfl, str_app, str_app, str_app, str_app, ls_str]
    simp [aheadL, betwL, behL, sRep]
  have V9 : Three (⟨#[45]⟩ ++ SA) (valP (N ++ [⟨5, 0, 0, [], 0⟩])) := by
    obtain ⟨r, hx⟩ := expr_one_of hE (show arity ⟨5, 0, 0, [], 0⟩ = some 1 by decide)
    refine three_of hx ?_
    rw [← hSA, show (⟨#[45]⟩ : ByteArray) = str [45] from rfl, str_app, ls_str]
    simp [aheadL, behL]
  have V10 : Three (⟨#[108, 101, 110, 40]⟩ ++ SA ++ ⟨#[41]⟩) (valP (N ++ [⟨11, 0, 0, [], 0⟩])) := by
    obtain ⟨r, hx⟩ := expr_one_of hE (show arity ⟨11, 0, 0, [], 0⟩ = some 1 by decide)
    refine three_of hx ?_
    rw [← hSA, show (⟨#[108, 101, 110, 40]⟩ : ByteArray) = str [108, 101, 110, 40] from rfl, show (⟨#[41]⟩ : ByteArray) = str [41] from rfl, str_app, str_app, ls_str]
    simp [aheadL, behL, sLen]
  obtain ⟨_, _, s3, s4⟩ := hTw.sizes
  have fNM : Few (N ++ M) := few_both fN fM (by omega)
  have hNM : (N ++ M).length = N.length + M.length := List.length_append
  have ca := pawake_any w1 hTw.ten
  have CA : Hid (∀ w', Below w1.heap.size w1 w' → Calls Tryd.prog 9 #[.slice A N.length cA] w' fun e w2 => e = .returned (.tuple #[.string SA, .int .i64 0]) ∧ Hid (Below w1.heap.size w1 w2)) := by
    intro w' hb
    refine (pvalue_any (c := cA) ((hTw.a.below hb).more hb.size) ((hTw.ten.below hb).more hb.size) fN).mono ?_
    rintro e w2 ⟨rfl, hb2⟩
    rw [hve, ← hSA]
    exact ⟨rfl, hb.trans (hb2.mono hb.size)⟩
  have CM : Hid (∀ w', Below w1.heap.size w1 w' → Calls Tryd.prog 9 #[.slice B M.length cB] w' fun e w2 => e = .returned (.tuple #[.string SB, .int .i64 0]) ∧ Hid (Below w1.heap.size w1 w2)) := by
    intro w' hb
    refine (pvalue_any (c := cB) ((hTw.b.below hb).more hb.size) ((hTw.ten.below hb).more hb.size) fM).mono ?_
    rintro e w2 ⟨rfl, hb2⟩
    rw [hvf, ← hSB]
    exact ⟨rfl, hb.trans (hb2.mono hb.size)⟩
  obtain ⟨nA, hnA⟩ : ∃ nA, N.length = nA := ⟨_, rfl⟩
  obtain ⟨nB, hnB⟩ : ∃ nB, M.length = nB := ⟨_, rfl⟩
  have A1 : Hid (∀ w', Below w1.heap.size w1 w' → ∃ g c' w5, (Builtin.append_ #[22, 22] 22 #[.slice none 0 0, .slice A nA cA]).run Tryd.prog w' = .ok (.slice (some ⟨g, 0, none⟩) nA c') w5 ∧ nA ≤ c' ∧ Hid (OwnRn w5 w1.heap.size (some ⟨g, 0, none⟩) c' N ∧ Below w1.heap.size w1 w5)) := by
    intro w' hb
    obtain ⟨g, c', w5, h1, h2, h3⟩ := hTw.first cA hb
    rw [hnA] at h1
    exact ⟨g, c', w5, h1, by have := own_cap h2; omega, h2, h3⟩
  have A2 : Hid (∀ (w5 : World) (g c' : Nat), OwnRn w5 w1.heap.size (some ⟨g, 0, none⟩) c' N ∧ Below w1.heap.size w1 w5 → ∃ g2 c2 w6, (Builtin.append_ #[22, 22] 22 #[.slice (some ⟨g, 0, none⟩) nA c', .slice B nB cB]).run Tryd.prog w5 = .ok (.slice (some ⟨g2, 0, none⟩) (nA + nB) c2) w6 ∧ Hid (OwnRn w6 w1.heap.size (some ⟨g2, 0, none⟩) c2 (N ++ M) ∧ Below w1.heap.size w1 w6)) := by
    intro w5 g c' hh
    obtain ⟨g2, c2, w6, h1, h2, h3⟩ := hTw.second cB hh.1 hh.2
    rw [hnA, hnB] at h1
    exact ⟨g2, c2, w6, h1, h2, h3⟩
  have A3 : Hid (∀ (w6 : World) (g c' : Nat), OwnRn w6 w1.heap.size (some ⟨g, 0, none⟩) c' (N ++ M) ∧ Below w1.heap.size w1 w6 → ∃ g' c2 w8, (Builtin.append_ #[22, 22] 22 #[.slice (some ⟨g, 0, none⟩) (nA + nB) c', .slice (some ⟨w6.heap.size + 1, 0, none⟩) 1 1]).run Tryd.prog ((w6.alloc (.cells #[.int .i64 10, .int .i64 0, .int .u64 0, .string ⟨#[]⟩, .int .i64 0] 38)).alloc (.cells #[.int .i64 10, .int .i64 0, .int .u64 0, .string ⟨#[]⟩, .int .i64 0] 38)) = .ok (.slice (some ⟨g', 0, none⟩) (nA + nB + 1) c2) w8 ∧
      Hid (Calls Tryd.prog 9 #[.slice (some ⟨g', 0, none⟩) (nA + nB + 1) c2] w8 fun e w'' => ((e = .returned (.tuple #[.string (⟨#[114, 101, 112, 40]⟩ ++ SA ++ ⟨#[44, 32]⟩ ++ SB ++ ⟨#[41]⟩), .int .i64 0]) ∨ e = .returned (.tuple #[.string ⟨#[]⟩, .int .i64 91]) ∨ e = .returned (.tuple #[.string ⟨#[]⟩, .int .i64 2])) ∧ Hid (Below w1.heap.size w1 w'')))) := by
    intro w6 g c' hh
    have ba : Below w6.heap.size w6 (w6.alloc (.cells #[.int .i64 10, .int .i64 0, .int .u64 0, .string ⟨#[]⟩, .int .i64 0] 38)) := (Below.refl _ _).alloc (Nat.le_refl _) _
    obtain ⟨g', c2, w8, h1, h2⟩ := hTw.more fNM (by rw [hNM]; omega) (hh.1.below ba) (hh.2.trans (ba.mono hh.2.size)) 10 0 (by decide) V8
    rw [hNM, hnA, hnB, show (w6.alloc (.cells #[.int .i64 10, .int .i64 0, .int .u64 0, .string ⟨#[]⟩, .int .i64 0] 38)).heap.size = w6.heap.size + 1 by simp] at h1
    rw [hNM, hnA, hnB] at h2
    exact ⟨g', c2, w8, h1, h2.out.mono fun _ _ hz => ⟨hz.1, hz.2.2⟩⟩
  have A4 : Hid (∀ (w6 : World) (g c' : Nat), OwnRn w6 w1.heap.size (some ⟨g, 0, none⟩) c' N ∧ Below w1.heap.size w1 w6 → ∃ g' c2 w8, (Builtin.append_ #[22, 22] 22 #[.slice (some ⟨g, 0, none⟩) nA c', .slice (some ⟨w6.heap.size, 0, none⟩) 1 1]).run Tryd.prog (w6.alloc (.cells #[.int .i64 5, .int .i64 0, .int .u64 0, .string ⟨#[]⟩, .int .i64 0] 38)) = .ok (.slice (some ⟨g', 0, none⟩) (nA + 1) c2) w8 ∧
      Hid (Calls Tryd.prog 9 #[.slice (some ⟨g', 0, none⟩) (nA + 1) c2] w8 fun e w'' => ((e = .returned (.tuple #[.string (⟨#[45]⟩ ++ SA), .int .i64 0]) ∨ e = .returned (.tuple #[.string ⟨#[]⟩, .int .i64 91]) ∨ e = .returned (.tuple #[.string ⟨#[]⟩, .int .i64 2])) ∧ Hid (OwnRn w'' w1.heap.size (some ⟨g, 0, none⟩) c' N ∧ Below w1.heap.size w1 w'')))) := by
    intro w6 g c' hh
    obtain ⟨g', c2, w8, h1, h2⟩ := hTw.more fN (by omega) hh.1 hh.2 5 0 (by decide) V9
    rw [hnA] at h1 h2
    exact ⟨g', c2, w8, h1, h2.out.mono fun _ _ hz => ⟨hz.1, hz.2⟩⟩
  have A5 : Hid (∀ (w6 : World) (g c' : Nat), OwnRn w6 w1.heap.size (some ⟨g, 0, none⟩) c' N ∧ Below w1.heap.size w1 w6 → ∃ g' c2 w8, (Builtin.append_ #[22, 22] 22 #[.slice (some ⟨g, 0, none⟩) nA c', .slice (some ⟨w6.heap.size, 0, none⟩) 1 1]).run Tryd.prog (w6.alloc (.cells #[.int .i64 11, .int .i64 0, .int .u64 0, .string ⟨#[]⟩, .int .i64 0] 38)) = .ok (.slice (some ⟨g', 0, none⟩) (nA + 1) c2) w8 ∧
      Hid (Calls Tryd.prog 9 #[.slice (some ⟨g', 0, none⟩) (nA + 1) c2] w8 fun e w'' => ((e = .returned (.tuple #[.string (⟨#[108, 101, 110, 40]⟩ ++ SA ++ ⟨#[41]⟩), .int .i64 0]) ∨ e = .returned (.tuple #[.string ⟨#[]⟩, .int .i64 91]) ∨ e = .returned (.tuple #[.string ⟨#[]⟩, .int .i64 2])) ∧ Hid (Below W.heap.size W w'')))) := by
    intro w6 g c' hh
    obtain ⟨g', c2, w8, h1, h2⟩ := hTw.more fN (by omega) hh.1 hh.2 11 0 (by decide) V10
    rw [hnA] at h1 h2
    exact ⟨g', c2, w8, h1, h2.out.mono fun _ _ hz => ⟨hz.1, b1.trans (hz.2.2.mono b1.size)⟩⟩
  rw [hnA, hnB] at k1 hw1
  rw [hnA] at CA
  rw [hnB] at CM
  have FX : Hid (∀ w', Below w1.heap.size w1 w' → Hid (Below W.heap.size W w') ∧ w'.cell? ⟨W.heap.size, 0, none⟩ = some (.slice A nA cA) ∧ w'.cell? ⟨W.heap.size, 1, none⟩ = some (.slice B nB cB) ∧ w'.cell? ⟨W.heap.size, 2, none⟩ = some (.int .i64 z)) := fun w' hb =>
    ⟨b1.trans (hb.mono b1.size), (k1.below hb).at_ 0, (k1.below hb).at_ 1, (k1.below hb).at_ 2⟩
  obtain ⟨c0, c1, c2⟩ := (FX.out w1 (Below.refl _ _)).2
  have z1 : ¬ 9223372036854775807 < 4 + SA.size := by omega
  have z2 : ¬ 9223372036854775807 < 4 + SA.size + 2 := by omega
  have z3 : ¬ 9223372036854775807 < 4 + SA.size + 2 + SB.size := by omega
  have z4 : ¬ 9223372036854775807 < 4 + SA.size + 2 + SB.size + 1 := by omega
  have z5 : ¬ 9223372036854775807 < 1 + SA.size := by omega
  have z6 : ¬ 9223372036854775807 < 4 + SA.size := by omega
  have z7 : ¬ 9223372036854775807 < 4 + SA.size + 1 := by omega
  rw [hnA, hnB]
  have hnz : (nA : Int) ≤ 1048576 := by omega
  clear hT hN hM fN fM hE hF hve hvf hle hlf hTw hSA hSB V8 V9 V10 s3 s4 fNM hNM k1 hnA hnB hA hB b1
  go_enter Tryd.func5, Tryd.ntmps5
  go_wp2_with (first
    | (go_at_call 8; (with_reducible refine ca.mono ?_); rintro e w2 ⟨rfl, hb2⟩; have cv := CA.out w2 hb2; obtain ⟨-, d0, d1, d2⟩ := FX.out w2 hb2)
    | (go_at_call 9; (with_reducible refine cv.mono ?_); rintro e w3 ⟨rfl, H3⟩; have cx := CM.out w3 H3.out; obtain ⟨-, e0, e1, e2⟩ := FX.out w3 H3.out; clear cv)
    | (go_at_call 9; (with_reducible refine cx.mono ?_); rintro e w4 ⟨rfl, H4⟩; obtain ⟨-, f0, f1, f2⟩ := FX.out w4 H4.out; obtain ⟨g5, c5, w5, hr5, n5, H5⟩ := A1.out w4 H4.out; obtain ⟨-, g0, g1, g2⟩ := FX.out w5 H5.out.2; obtain ⟨g6, c6, w6, hr6, H6⟩ := A2.out w5 g5 c5 H5.out; obtain ⟨-, h0, h1, h2⟩ := FX.out w6 H6.out.2; have n6 : W.heap.size ≠ w6.heap.size := Nat.ne_of_lt (World.block_lt_of_cell? w6 _ h0); obtain ⟨g8, c8, w8, hr8, C8⟩ := A3.out w6 g6 c6 H6.out; clear cx)
    | (at_builtin; refine wpList_append_run rfl (.tmp 33) (.tmp 35) _ rfl rfl rfl hr5 ?_)
    | (at_builtin; refine wpList_append_run rfl (.tmp 37) (.tmp 39) _ rfl rfl rfl hr6 ?_)
    | (at_builtin; refine wpList_append_run rfl (.tmp 92) (.tmp 94) _ rfl rfl rfl hr8 ?_)
    | (go_at_call 9; (with_reducible refine C8.out.mono ?_); rintro e w9 ⟨he, H9⟩; obtain ⟨-, i0, i1, i2⟩ := FX.out w9 H9.out; obtain ⟨g10, c10, w10, hr10, n10, H10⟩ := A1.out w9 H9.out; obtain ⟨g11, c11, w11, hr11, C11⟩ := A4.out w10 g10 c10 H10.out; clear C8; rcases he with rfl | rfl | rfl)
    | (at_builtin; refine wpList_append_run rfl (.tmp 114) (.tmp 116) _ rfl rfl rfl hr10 ?_)
    | (at_builtin; refine wpList_append_run rfl (.tmp 119) (.tmp 121) _ rfl rfl rfl hr11 ?_)
    | (go_at_call 9; (with_reducible refine C11.out.mono ?_); rintro e w12 ⟨he, H12⟩; obtain ⟨-, j0, j1, j2⟩ := FX.out w12 H12.out.2; obtain ⟨g13, c13, w13, hr13, C13⟩ := A5.out w12 g10 c10 H12.out; clear C11; rcases he with rfl | rfl | rfl)
    | (at_builtin; refine wpList_append_run rfl (.tmp 152) (.tmp 154) _ rfl rfl rfl hr13 ?_)
    | (go_at_call 9; (with_reducible refine C13.out.mono ?_); rintro e w14 ⟨he, H14⟩; rcases he with rfl | rfl | rfl))
  all_goals go_ret
  all_goals first
    | exact ⟨rfl, H14.out⟩
    | exact ⟨rfl, (FX.out _ H9.out).1.out⟩
end Go.Proofs.YtdkcnepjjinpdaaDoor
