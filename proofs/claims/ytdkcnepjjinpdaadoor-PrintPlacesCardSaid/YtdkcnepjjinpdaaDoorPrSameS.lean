/- The walk of the statements' own function that sets steps side by side (gen_same.py). -/
import Derived.Test.YtdkcnepjjinpdaaDoorPrSame
import Derived.Test.YtdkcnepjjinpdaaDoorPrEvOk
namespace Go.Proofs.YtdkcnepjjinpdaaDoor
open Go.RowKit

set_option maxRecDepth 100000 in
set_option maxHeartbeats 4000000 in
theorem psteps_any {w : World} {B B' : Nat} {m m' : Mv} (ha : MvAt w B m) (hb : MvAt w B' m') (hB : B ≤ w.heap.size) (hB' : B' ≤ w.heap.size) (hr : Rel2 (fun x y : Ms => EqS x.s y.s) m.st m'.st) :
    Calls Tryd.prog 64 #[.slice m.A m.st.length m.c, .slice m'.A m'.st.length m'.c] w fun e w' => e = .returned (.bool true) ∧ Below w.heap.size w w' := by
  have hlb : m'.st.length = m.st.length := hr.len
  rw [hlb]
  obtain ⟨n, hn⟩ : ∃ n, m.st.length = n := ⟨_, rfl⟩
  have hvl : n ≤ 140737488355328 := by rw [← hn]; exact ha.len
  rw [hn] at hlb ⊢
  have hne : ((n : Int) != (n : Int)) = false := by simp
  have HA := Lib.hid (ha.more hB)
  have HB := Lib.hid (hb.more hB')
  have HR := Lib.hid hr
  have HL := Lib.hid hlb
  have HN := Lib.hid hn
  obtain ⟨num, sa, A, c, p⟩ := m
  obtain ⟨num', sb, A', c', p'⟩ := m'
  clear ha hb hr hlb hn
  dsimp only
  go_enter Tryd.func64, Tryd.ntmps64
  go_wp2
  go_loopw [5] (fun i wr => ∃ k : Nat, i = .int .i64 k ∧ k ≤ n ∧ Hid (Below w.heap.size w wr)) (fun i _ => n - (intOf i).toNat)
  case atStart => exact ⟨0, rfl, Nat.zero_le _, Below.refl _ _⟩
  case round =>
    obtain ⟨k, rfl, hk, HW⟩ := hrel
    by_cases hlt : k < n
    · have hltz : (k : Int) < (n : Int) := by omega
      have k0 : (0 : Int) ≤ (k : Int) := by omega
      obtain ⟨x, hx⟩ : ∃ f, sa[k]? = some f := ⟨_, List.getElem?_eq_getElem (show k < sa.length by have : sa.length = n := HN.out; omega)⟩
      obtain ⟨y, hy⟩ : ∃ g, sb[k]? = some g := ⟨_, List.getElem?_eq_getElem (show k < sb.length by have : sb.length = n := HL.out; omega)⟩
      have hn := Rel2.at_ HR.out hx hy
      obtain ⟨ga, oa, hA, hga, ca, hX⟩ := (HA.out.below HW.out).cells hx
      have hA : A = some ⟨ga, oa, none⟩ := hA
      subst hA
      obtain ⟨gb, ob, hA, hgb, cb, hY⟩ := (HB.out.below HW.out).cells hy
      have hA : A' = some ⟨gb, ob, none⟩ := hA
      subst hA
      obtain ⟨⟨xk, xa, xb, xc, xs, xt, xv, xp⟩, xA, xC⟩ := x
      obtain ⟨⟨yk, ya, yb, yc, ys, yt, yv, yp⟩, yA, yC⟩ := y
      obtain ⟨e1, e2, e3, e4, e5, e6, e7⟩ := hn
      dsimp only at e1 e2 e3 e4 e5 e6 e7 ca cb
      subst e1 e2 e3 e4 e5 e6
      obtain ⟨wo, rfl⟩ : ∃ wo : World, wo = wr := ⟨_, rfl⟩
      have hsz := HW.out.size
      obtain ⟨a0, a1, a2, a3, a4, a5, a6, a7⟩ := ca
      have nea : ga ≠ wo.heap.size := by omega
      have neb : gb ≠ wo.heap.size := by omega
      have hgb' : gb < wo.heap.size := by omega
      have CN : Hid (∀ W, Below wo.heap.size wo W → Calls Tryd.prog 88 #[.slice xA xv.length xC, .slice yA yv.length yC] W fun e w' => e = .returned (.bool true) ∧ Below W.heap.size W w') := fun W hW => by
        have hs := hW.size
        have q1 : RN W w.heap.size xA xv := hX.rn.below (hW.mono hsz)
        have q2 : RN W w.heap.size yA yv := hY.rn.below (hW.mono hsz)
        exact pnodes_any q1 q2 (by omega) (by omega) e7 (by have : xv.length ≤ 2932031007402 := hX.lt.few.few; omega)
      have kb := fun j => ((Below.refl _ wo).alloc (Nat.le_refl _) (.cells #[.int .i64 yk, .string (str ya), .string (str yb), .string (str yc), .string (str ys), .string (str yt), .slice xA xv.length xC, .int .i64 xp] 54)).cell (p := ⟨gb, j, none⟩) hgb'
      obtain ⟨b0, b1, b2, b3, b4, b5, b6, b7⟩ := cb
      have d0 : (wo.alloc (.cells #[.int .i64 yk, .string (str ya), .string (str yb), .string (str yc), .string (str ys), .string (str yt), .slice xA xv.length xC, .int .i64 xp] 54)).cell? ⟨gb, ob + k * 8, none⟩ = some (.int .i64 yk) := (kb _).trans b0
      have d1 : (wo.alloc (.cells #[.int .i64 yk, .string (str ya), .string (str yb), .string (str yc), .string (str ys), .string (str yt), .slice xA xv.length xC, .int .i64 xp] 54)).cell? ⟨gb, ob + k * 8 + 1, none⟩ = some (.string (str ya)) := (kb _).trans b1
      have d2 : (wo.alloc (.cells #[.int .i64 yk, .string (str ya), .string (str yb), .string (str yc), .string (str ys), .string (str yt), .slice xA xv.length xC, .int .i64 xp] 54)).cell? ⟨gb, ob + k * 8 + 2, none⟩ = some (.string (str yb)) := (kb _).trans b2
      have d3 : (wo.alloc (.cells #[.int .i64 yk, .string (str ya), .string (str yb), .string (str yc), .string (str ys), .string (str yt), .slice xA xv.length xC, .int .i64 xp] 54)).cell? ⟨gb, ob + k * 8 + 3, none⟩ = some (.string (str yc)) := (kb _).trans b3
      have d4 : (wo.alloc (.cells #[.int .i64 yk, .string (str ya), .string (str yb), .string (str yc), .string (str ys), .string (str yt), .slice xA xv.length xC, .int .i64 xp] 54)).cell? ⟨gb, ob + k * 8 + 4, none⟩ = some (.string (str ys)) := (kb _).trans b4
      have d5 : (wo.alloc (.cells #[.int .i64 yk, .string (str ya), .string (str yb), .string (str yc), .string (str ys), .string (str yt), .slice xA xv.length xC, .int .i64 xp] 54)).cell? ⟨gb, ob + k * 8 + 5, none⟩ = some (.string (str yt)) := (kb _).trans b5
      have d6 : (wo.alloc (.cells #[.int .i64 yk, .string (str ya), .string (str yb), .string (str yc), .string (str ys), .string (str yt), .slice xA xv.length xC, .int .i64 xp] 54)).cell? ⟨gb, ob + k * 8 + 6, none⟩ = some (.slice yA yv.length yC) := (kb _).trans b6
      have d7 : (wo.alloc (.cells #[.int .i64 yk, .string (str ya), .string (str yb), .string (str yc), .string (str ys), .string (str yt), .slice xA xv.length xC, .int .i64 xp] 54)).cell? ⟨gb, ob + k * 8 + 7, none⟩ = some (.int .i64 yp) := (kb _).trans b7
      have hB2 : Hid (Below wo.heap.size wo ((wo.alloc (.cells #[.int .i64 yk, .string (str ya), .string (str yb), .string (str yc), .string (str ys), .string (str yt), .slice xA xv.length xC, .int .i64 xp] 54)).alloc (.cells #[.int .i64 yk, .string (str ya), .string (str yb), .string (str yc), .string (str ys), .string (str yt), .slice yA yv.length yC, .int .i64 yp] 54))) := ((Below.refl _ wo).alloc (Nat.le_refl _) _).alloc (by simp) _
      clear kb hX hY b0 b1 b2 b3 b4 b5 b6 b7 e7 hx hy
      go_wp2_with (go_at_call 88; refine (CN.out _ hB2.out).mono ?_; rintro e w5 ⟨rfl, hb5⟩)
      go_roundw
      case rel => exact ⟨k + 1, by go_num, by omega, Below.both (Below.both HW.out hB2.out) hb5⟩
      case measure => simp [intOf]; omega
    · have hge : ¬ (k : Int) < (n : Int) := by omega
      go_wp2
      go_ret
      exact ⟨rfl, HW.out⟩
end Go.Proofs.YtdkcnepjjinpdaaDoor
