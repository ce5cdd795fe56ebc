/- The walks of the statements' own functions that set nodes, steps side by side: they are the same but for their places. -/
import Derived.Test.YtipcgmaobiobbaaGreatDoorPrTree
import Derived.Test.YtipcgmaobiobbaaGreatDoorParGa
import Derived.Test.YtipcgmaobiobbaaGreatDoorPrEvOk
import Derived.Laws.StructEq
import Derived.Deep.RegionHeld3
import Derived.BigQuiet
namespace Go.Proofs.YtipcgmaobiobbaaGreatDoor
open Go.RowKit

theorem Rel2.unmap {α β γ δ : Type} {r : γ → δ → Prop} {f : α → γ} {g : β → δ} : ∀ {l : List α} {m : List β}, Rel2 r (l.map f) (m.map g) → Rel2 (fun x y => r (f x) (g y)) l m
  | [], [], _ => .nil
  | [], _ :: _, h => by cases h
  | _ :: _, [], h => by cases h
  | _ :: _, _ :: _, .cons h k => .cons h (Rel2.unmap k)
theorem Rel2.onmap {α β γ δ : Type} {r : γ → δ → Prop} {f : α → γ} {g : β → δ} {l : List α} {m : List β} (h : Rel2 (fun x y => r (f x) (g y)) l m) : Rel2 r (l.map f) (m.map g) := by
  induction h with
  | nil => exact .nil
  | cons h _ ih => exact .cons h ih
theorem Rel2.imp {α β : Type} {r q : α → β → Prop} {l : List α} {m : List β} (h : Rel2 r l m) (k : ∀ x ∈ l, ∀ y ∈ m, r x y → q x y) : Rel2 q l m := by
  induction h with
  | nil => exact .nil
  | cons h _ ih => exact .cons (k _ (.head _) _ (.head _) h) (ih fun x hx y hy => k x (.tail _ hx) y (.tail _ hy))
/-- the same but for places -/
structure EqN (x y : Rn) : Prop where
  op : y.op = x.op
  n : y.n = x.n
  num : y.num = x.num
  t : y.t = x.t
structure EqS (x y : Rs) : Prop where
  kind : y.kind = x.kind
  a : y.a = x.a
  b : y.b = x.b
  c : y.c = x.c
  sep : y.sep = x.sep
  ty : y.ty = x.ty
  v : Rel2 EqN x.v y.v
structure EqV (x y : Rv) : Prop where
  num : y.num = x.num
  st : Rel2 EqS x.st y.st
structure EqE (x y : Re) : Prop where
  name : y.name = x.name
  vs : Rel2 EqV x.vs y.vs

set_option maxRecDepth 100000 in
set_option maxHeartbeats 2000000 in
theorem pnodes_any {w : World} {B B' : Nat} {A A' : Option Addr} {c c' : Nat} {a b : List Rn} (ha : RN w B A a) (hb : RN w B' A' b) (hB : B ≤ w.heap.size) (hB' : B' ≤ w.heap.size) (hr : Rel2 EqN a b) (hl : a.length ≤ 9223372036854775806) :
    Calls Tryz.prog 11 #[.slice A a.length c, .slice A' b.length c'] w fun e w' => e = .returned (.bool true) ∧ Below w.heap.size w w' := by
  have hlb : b.length = a.length := hr.len
  rw [hlb]
  have hne : ((a.length : Int) != (a.length : Int)) = false := by simp
  have HA := Lib.hid (ha.more hB)
  have HB := Lib.hid (hb.more hB')
  have HR := Lib.hid hr
  have HL := Lib.hid hlb
  clear ha hb hr hlb
  go_enter Tryz.func11, Tryz.ntmps11
  go_wp2
  go_loopw [5] (fun i wr => ∃ k : Nat, i = .int .i64 k ∧ k ≤ a.length ∧ Hid (Below w.heap.size w wr)) (fun i _ => a.length - (intOf i).toNat)
  case atStart => exact ⟨0, rfl, Nat.zero_le _, Below.refl _ _⟩
  case round =>
    obtain ⟨k, rfl, hk, HW⟩ := hrel
    by_cases hlt : k < a.length
    · have hltz : (k : Int) < (a.length : Int) := by omega
      have k0 : (0 : Int) ≤ (k : Int) := by omega
      obtain ⟨x, hx⟩ : ∃ f, a[k]? = some f := ⟨a[k], List.getElem?_eq_getElem hlt⟩
      obtain ⟨y, hy⟩ : ∃ g, b[k]? = some g := ⟨b[k]'(by have := HL.out; omega), List.getElem?_eq_getElem (by have := HL.out; omega)⟩
      have hn := HR.out.at_ hx hy
      obtain ⟨ga, oa, rfl, hga, a0, a1, a2, a3, a4⟩ := RN.cells (HA.out.below HW.out) hx
      obtain ⟨gb, ob, rfl, hgb, b0, b1, b2, b3, b4⟩ := RN.cells (HB.out.below HW.out) hy
      obtain ⟨op, n, num, t, pa⟩ := x
      obtain ⟨op', n', num', t', pb⟩ := y
      obtain ⟨e1, e2, e3, e4⟩ := hn
      dsimp only at e1 e2 e3 e4 a0 a1 a2 a3 a4 b0 b1 b2 b3 b4
      subst e1 e2 e3 e4
      obtain ⟨wo, rfl⟩ : ∃ wo : World, wo = wr := ⟨_, rfl⟩
      have hsz := HW.out.size
      have nea : ga ≠ wo.heap.size := by omega
      have neb : gb ≠ wo.heap.size := by omega
      have hgb' : gb < wo.heap.size := by omega
      have kb := fun j => ((Below.refl _ wo).alloc (Nat.le_refl _) (.cells #[.int .i64 op', .int .i64 n', .int .u64 (num' : Nat), .string (str t'), .int .i64 pb] 64)).cell (p := ⟨gb, j, none⟩) hgb'
      have b0' : (wo.alloc (.cells #[.int .i64 op', .int .i64 n', .int .u64 (num' : Nat), .string (str t'), .int .i64 pb] 64)).cell? ⟨gb, ob + k * 5, none⟩ = some (.int .i64 op') := (kb _).trans b0
      have b1' : (wo.alloc (.cells #[.int .i64 op', .int .i64 n', .int .u64 (num' : Nat), .string (str t'), .int .i64 pb] 64)).cell? ⟨gb, ob + k * 5 + 1, none⟩ = some (.int .i64 n') := (kb _).trans b1
      have b2' : (wo.alloc (.cells #[.int .i64 op', .int .i64 n', .int .u64 (num' : Nat), .string (str t'), .int .i64 pb] 64)).cell? ⟨gb, ob + k * 5 + 2, none⟩ = some (.int .u64 (num' : Nat)) := (kb _).trans b2
      have b3' : (wo.alloc (.cells #[.int .i64 op', .int .i64 n', .int .u64 (num' : Nat), .string (str t'), .int .i64 pb] 64)).cell? ⟨gb, ob + k * 5 + 3, none⟩ = some (.string (str t')) := (kb _).trans b3
      have b4' : (wo.alloc (.cells #[.int .i64 op', .int .i64 n', .int .u64 (num' : Nat), .string (str t'), .int .i64 pb] 64)).cell? ⟨gb, ob + k * 5 + 4, none⟩ = some (.int .i64 pb) := (kb _).trans b4
      have ko := fun j => cell_of_row _ wo.heap.size j _ 64 (0, 0) (heap_alloc_new wo (.cells #[.int .i64 op', .int .i64 n', .int .u64 (num' : Nat), .string (str t'), .int .i64 pb] 64))
      have o0 : (wo.alloc (.cells #[.int .i64 op', .int .i64 n', .int .u64 (num' : Nat), .string (str t'), .int .i64 pb] 64)).cell? ⟨wo.heap.size, 0, none⟩ = some (.int .i64 op') := ko 0
      have o1 : (wo.alloc (.cells #[.int .i64 op', .int .i64 n', .int .u64 (num' : Nat), .string (str t'), .int .i64 pb] 64)).cell? ⟨wo.heap.size, 1, none⟩ = some (.int .i64 n') := ko 1
      have o2 : (wo.alloc (.cells #[.int .i64 op', .int .i64 n', .int .u64 (num' : Nat), .string (str t'), .int .i64 pb] 64)).cell? ⟨wo.heap.size, 2, none⟩ = some (.int .u64 (num' : Nat)) := ko 2
      have o3 : (wo.alloc (.cells #[.int .i64 op', .int .i64 n', .int .u64 (num' : Nat), .string (str t'), .int .i64 pb] 64)).cell? ⟨wo.heap.size, 3, none⟩ = some (.string (str t')) := ko 3
      have o4 : (wo.alloc (.cells #[.int .i64 op', .int .i64 n', .int .u64 (num' : Nat), .string (str t'), .int .i64 pb] 64)).cell? ⟨wo.heap.size, 4, none⟩ = some (.int .i64 pb) := ko 4
      clear kb ko
      go_wp2
      go_quiet (fail)
      go_wp2
      go_roundw
      case rel => exact ⟨k + 1, by go_num, by omega, Below.thenN (HW.out.alloc (by omega) _) _⟩
      case measure => simp [intOf]; omega
    · have hge : ¬ (k : Int) < (a.length : Int) := by omega
      go_wp2
      go_ret
      exact ⟨rfl, HW.out⟩
end Go.Proofs.YtipcgmaobiobbaaGreatDoor
/- The walk of the statements' own function that sets steps side by side (gen_same.py). -/
namespace Go.Proofs.YtipcgmaobiobbaaGreatDoor
open Go.RowKit

set_option maxRecDepth 100000 in
set_option maxHeartbeats 4000000 in
theorem psteps_any {w : World} {B B' : Nat} {m m' : Mv} (ha : MvAt w B m) (hb : MvAt w B' m') (hB : B ≤ w.heap.size) (hB' : B' ≤ w.heap.size) (hr : Rel2 (fun x y : Ms => EqS x.s y.s) m.st m'.st) :
    Calls Tryz.prog 20 #[.slice m.A m.st.length m.c, .slice m'.A m'.st.length m'.c] w fun e w' => e = .returned (.bool true) ∧ Below w.heap.size w w' := by
  have hlb : m'.st.length = m.st.length := hr.len
  rw [hlb]
  obtain ⟨n, hn⟩ : ∃ n, m.st.length = n := ⟨_, rfl⟩
  have hvl : n ≤ 140737488355328 := by rw [← hn]; exact ha.len
  rw [hn] at hlb ⊢
  have hne : ((n : Int) != (n : Int)) = false := by simp
  have HA := Lib.hid (ha.more hB)
  have HB := Lib.hid (hb.more hB')
  have HR := Lib.hid hr
  have HL := Lib.hid hlb
  have HN := Lib.hid hn
  obtain ⟨num, sa, A, c, p⟩ := m
  obtain ⟨num', sb, A', c', p'⟩ := m'
  clear ha hb hr hlb hn
  dsimp only
  go_enter Tryz.func20, Tryz.ntmps20
  go_wp2
  go_loopw [5] (fun i wr => ∃ k : Nat, i = .int .i64 k ∧ k ≤ n ∧ Hid (Below w.heap.size w wr)) (fun i _ => n - (intOf i).toNat)
  case atStart => exact ⟨0, rfl, Nat.zero_le _, Below.refl _ _⟩
  case round =>
    obtain ⟨k, rfl, hk, HW⟩ := hrel
    by_cases hlt : k < n
    · have hltz : (k : Int) < (n : Int) := by omega
      have k0 : (0 : Int) ≤ (k : Int) := by omega
      obtain ⟨x, hx⟩ : ∃ f, sa[k]? = some f := ⟨_, List.getElem?_eq_getElem (show k < sa.length by have : sa.length = n := HN.out; omega)⟩
      obtain ⟨y, hy⟩ : ∃ g, sb[k]? = some g := ⟨_, List.getElem?_eq_getElem (show k < sb.length by have : sb.length = n := HL.out; omega)⟩
      have hn := Rel2.at_ HR.out hx hy
      obtain ⟨ga, oa, hA, hga, ca, hX⟩ := (HA.out.below HW.out).cells hx
      have hA : A = some ⟨ga, oa, none⟩ := hA
      subst hA
      obtain ⟨gb, ob, hA, hgb, cb, hY⟩ := (HB.out.below HW.out).cells hy
      have hA : A' = some ⟨gb, ob, none⟩ := hA
      subst hA
      obtain ⟨⟨xk, xa, xb, xc, xs, xt, xv, xp⟩, xA, xC⟩ := x
      obtain ⟨⟨yk, ya, yb, yc, ys, yt, yv, yp⟩, yA, yC⟩ := y
      obtain ⟨e1, e2, e3, e4, e5, e6, e7⟩ := hn
      dsimp only at e1 e2 e3 e4 e5 e6 e7 ca cb
      subst e1 e2 e3 e4 e5 e6
      obtain ⟨wo, rfl⟩ : ∃ wo : World, wo = wr := ⟨_, rfl⟩
      have hsz := HW.out.size
      obtain ⟨a0, a1, a2, a3, a4, a5, a6, a7⟩ := ca
      have nea : ga ≠ wo.heap.size := by omega
      have neb : gb ≠ wo.heap.size := by omega
      have hgb' : gb < wo.heap.size := by omega
      have CN : Hid (∀ W, Below wo.heap.size wo W → Calls Tryz.prog 11 #[.slice xA xv.length xC, .slice yA yv.length yC] W fun e w' => e = .returned (.bool true) ∧ Below W.heap.size W w') := fun W hW => by
        have hs := hW.size
        have q1 : RN W w.heap.size xA xv := hX.rn.below (hW.mono hsz)
        have q2 : RN W w.heap.size yA yv := hY.rn.below (hW.mono hsz)
        exact pnodes_any q1 q2 (by omega) (by omega) e7 (by have : xv.length ≤ 2932031007402 := hX.lt.few.few; omega)
      have kb := fun j => ((Below.refl _ wo).alloc (Nat.le_refl _) (.cells #[.int .i64 yk, .string (str ya), .string (str yb), .string (str yc), .string (str ys), .string (str yt), .slice xA xv.length xC, .int .i64 xp] 42)).cell (p := ⟨gb, j, none⟩) hgb'
      obtain ⟨b0, b1, b2, b3, b4, b5, b6, b7⟩ := cb
      have d0 : (wo.alloc (.cells #[.int .i64 yk, .string (str ya), .string (str yb), .string (str yc), .string (str ys), .string (str yt), .slice xA xv.length xC, .int .i64 xp] 42)).cell? ⟨gb, ob + k * 8, none⟩ = some (.int .i64 yk) := (kb _).trans b0
      have d1 : (wo.alloc (.cells #[.int .i64 yk, .string (str ya), .string (str yb), .string (str yc), .string (str ys), .string (str yt), .slice xA xv.length xC, .int .i64 xp] 42)).cell? ⟨gb, ob + k * 8 + 1, none⟩ = some (.string (str ya)) := (kb _).trans b1
      have d2 : (wo.alloc (.cells #[.int .i64 yk, .string (str ya), .string (str yb), .string (str yc), .string (str ys), .string (str yt), .slice xA xv.length xC, .int .i64 xp] 42)).cell? ⟨gb, ob + k * 8 + 2, none⟩ = some (.string (str yb)) := (kb _).trans b2
      have d3 : (wo.alloc (.cells #[.int .i64 yk, .string (str ya), .string (str yb), .string (str yc), .string (str ys), .string (str yt), .slice xA xv.length xC, .int .i64 xp] 42)).cell? ⟨gb, ob + k * 8 + 3, none⟩ = some (.string (str yc)) := (kb _).trans b3
      have d4 : (wo.alloc (.cells #[.int .i64 yk, .string (str ya), .string (str yb), .string (str yc), .string (str ys), .string (str yt), .slice xA xv.length xC, .int .i64 xp] 42)).cell? ⟨gb, ob + k * 8 + 4, none⟩ = some (.string (str ys)) := (kb _).trans b4
      have d5 : (wo.alloc (.cells #[.int .i64 yk, .string (str ya), .string (str yb), .string (str yc), .string (str ys), .string (str yt), .slice xA xv.length xC, .int .i64 xp] 42)).cell? ⟨gb, ob + k * 8 + 5, none⟩ = some (.string (str yt)) := (kb _).trans b5
      have d6 : (wo.alloc (.cells #[.int .i64 yk, .string (str ya), .string (str yb), .string (str yc), .string (str ys), .string (str yt), .slice xA xv.length xC, .int .i64 xp] 42)).cell? ⟨gb, ob + k * 8 + 6, none⟩ = some (.slice yA yv.length yC) := (kb _).trans b6
      have d7 : (wo.alloc (.cells #[.int .i64 yk, .string (str ya), .string (str yb), .string (str yc), .string (str ys), .string (str yt), .slice xA xv.length xC, .int .i64 xp] 42)).cell? ⟨gb, ob + k * 8 + 7, none⟩ = some (.int .i64 yp) := (kb _).trans b7
      have hB2 : Hid (Below wo.heap.size wo ((wo.alloc (.cells #[.int .i64 yk, .string (str ya), .string (str yb), .string (str yc), .string (str ys), .string (str yt), .slice xA xv.length xC, .int .i64 xp] 42)).alloc (.cells #[.int .i64 yk, .string (str ya), .string (str yb), .string (str yc), .string (str ys), .string (str yt), .slice yA yv.length yC, .int .i64 yp] 42))) := ((Below.refl _ wo).alloc (Nat.le_refl _) _).alloc (by simp) _
      clear kb hX hY b0 b1 b2 b3 b4 b5 b6 b7 e7 hx hy
      go_wp2_with (go_at_call 11; refine (CN.out _ hB2.out).mono ?_; rintro e w5 ⟨rfl, hb5⟩)
      go_roundw
      case rel => exact ⟨k + 1, by go_num, by omega, Below.both (Below.both HW.out hB2.out) hb5⟩
      case measure => simp [intOf]; omega
    · have hge : ¬ (k : Int) < (n : Int) := by omega
      go_wp2
      go_ret
      exact ⟨rfl, HW.out⟩
end Go.Proofs.YtipcgmaobiobbaaGreatDoor
/- The walk of the statements' own function that sets trees side by side (gen_same.py). -/
namespace Go.Proofs.YtipcgmaobiobbaaGreatDoor
open Go.RowKit

theorem EqE.un {x y : Me} (h : EqE x.e y.e) : y.name = x.name ∧ Rel2 (fun u v : Mv => EqV u.v v.v) x.vs y.vs := ⟨h.name, Rel2.unmap h.vs⟩
theorem EqV.un {x y : Mv} (h : EqV x.v y.v) : y.num = x.num ∧ Rel2 (fun u v : Ms => EqS u.s v.s) x.st y.st := ⟨h.num, Rel2.unmap h.st⟩

set_option maxRecDepth 100000 in
set_option maxHeartbeats 8000000 in
theorem ptrees_any {w : World} {B B' c c' : Nat} {A A' : Option Addr} {a b : List Me} (ha : MtAt w B A a) (hb : MtAt w B' A' b) (hB : B ≤ w.heap.size) (hB' : B' ≤ w.heap.size) (hr : Rel2 (fun x y : Me => EqE x.e y.e) a b) :
    Calls Tryz.prog 8 #[.agg #[.slice A a.length c], .agg #[.slice A' b.length c']] w fun e w' => e = .returned (.bool true) ∧ Below w.heap.size w w' := by
  have hlb : b.length = a.length := hr.len
  rw [hlb]
  obtain ⟨n, hn⟩ : ∃ n, a.length = n := ⟨_, rfl⟩
  have hvl : n ≤ 140737488355328 := by rw [← hn]; exact ha.len
  rw [hn] at hlb ⊢
  have hne : ((n : Int) != (n : Int)) = false := by simp
  obtain ⟨wz, hwz⟩ : ∃ wz, (w.alloc (.cells #[.slice A n c] 24)).alloc (.cells #[.slice A' n c'] 24) = wz := ⟨_, rfl⟩
  have bz : Below w.heap.size w wz := by rw [← hwz]; exact ((Below.refl _ w).alloc (Nat.le_refl _) _).alloc (by simp) _
  have sz : wz.heap.size = w.heap.size + 1 + 1 := by rw [← hwz]; simp
  have kz : CB wz w.heap.size 24 #[.slice A n c] := by
    rw [← hwz]
    exact (CB.new w 24 #[.slice A n c]).below ((Below.refl _ _).alloc (Nat.le_refl _) _)
  have lz : CB wz (w.heap.size + 1) 24 #[.slice A' n c'] := by
    rw [← hwz]
    have e : (w.alloc (.cells #[.slice A n c] 24)).heap.size = w.heap.size + 1 := by simp
    rw [← e]
    exact CB.new _ _ _
  have HA := Lib.hid ((ha.more hB).below bz)
  have HB := Lib.hid ((hb.more hB').below bz)
  have HR := Lib.hid hr
  have HL := Lib.hid hlb
  have HN := Lib.hid hn
  have HZ := Lib.hid bz
  have BX : Hid (∀ W, Below wz.heap.size wz W → W.cell? ⟨w.heap.size, 0, none⟩ = some (.slice A n c) ∧ W.cell? ⟨w.heap.size + 1, 0, none⟩ = some (.slice A' n c')) := fun W hW => ⟨(kz.below hW).at_ 0, (lz.below hW).at_ 0⟩
  obtain ⟨z0, z1⟩ := BX.out wz (Below.refl _ _)
  have hbz := Lib.hid (Below.refl wz.heap.size wz)
  clear ha hb hr hlb hn kz lz bz
  go_enter Tryz.func8, Tryz.ntmps8
  go_wp2
  go_loopw [5] (fun i wr => ∃ k : Nat, i = .int .i64 k ∧ k ≤ n ∧ Hid (Below wz.heap.size wz wr)) (fun i _ => n - (intOf i).toNat)
  case atStart => exact ⟨0, rfl, Nat.zero_le _, hbz⟩
  case round =>
    clear z0 z1 hbz
    obtain ⟨k, rfl, hk, HW⟩ := hrel
    obtain ⟨z0, z1⟩ := BX.out wr HW.out
    by_cases hlt : k < n
    · have hltz : (k : Int) < (n : Int) := by omega
      have k0 : (0 : Int) ≤ (k : Int) := by omega
      obtain ⟨x, hx⟩ : ∃ f, a[k]? = some f := ⟨_, List.getElem?_eq_getElem (show k < a.length by have : a.length = n := HN.out; omega)⟩
      obtain ⟨y, hy⟩ : ∃ g, b[k]? = some g := ⟨_, List.getElem?_eq_getElem (show k < b.length by have : b.length = n := HL.out; omega)⟩
      obtain ⟨e1, e2⟩ := (HR.out.at_ hx hy).un
      have hW1 : Below w.heap.size wz wr := HW.out.mono (by omega)
      obtain ⟨ga, oa, rfl, hga, ca, hX⟩ := (HA.out.below hW1).cells hx
      obtain ⟨gb, ob, rfl, hgb, cb, hY⟩ := (HB.out.below hW1).cells hy
      have hxl := hX.len
      obtain ⟨xn, xv, xA, xC, xp⟩ := x
      obtain ⟨yn, yv, yA, yC, yp⟩ := y
      dsimp only at e1 e2 ca cb hxl
      subst e1
      have e5 : yv.length = xv.length := e2.len
      obtain ⟨nv, hnv⟩ : ∃ nv, xv.length = nv := ⟨_, rfl⟩
      rw [e5, hnv] at cb
      rw [hnv] at ca hxl e5
      have hne2 : ((nv : Int) != (nv : Int)) = false := by simp
      obtain ⟨wo, rfl⟩ : ∃ wo : World, wo = wr := ⟨_, rfl⟩
      have hsz := HW.out.size
      obtain ⟨a0, a1, a2⟩ := ca
      have nea : ga ≠ wo.heap.size := by omega
      have neb : gb ≠ wo.heap.size := by omega
      have neb1 : gb ≠ wo.heap.size + 1 := by omega
      have nz0 : w.heap.size ≠ wo.heap.size := by omega
      have nz1 : w.heap.size + 1 ≠ wo.heap.size := by omega
      have hgb' : gb < wo.heap.size := by omega
      obtain ⟨w2, hw2⟩ : ∃ w2, wo.alloc (.cells #[.string (str yn), .slice xA nv xC, .int .i64 xp] 48) = w2 := ⟨_, rfl⟩
      have s2 : w2.heap.size = wo.heap.size + 1 := by rw [← hw2]; simp
      have b2 : Below wo.heap.size wo w2 := by rw [← hw2]; exact (Below.refl _ wo).alloc (Nat.le_refl _) _
      have k2 : CB w2 wo.heap.size 48 #[.string (str yn), .slice xA nv xC, .int .i64 xp] := by rw [← hw2]; exact CB.new wo _ _
      obtain ⟨w3, hw3⟩ : ∃ w3, w2.alloc (.cells #[.string (str yn), .slice yA nv yC, .int .i64 yp] 48) = w3 := ⟨_, rfl⟩
      have b3 : Below w2.heap.size w2 w3 := by rw [← hw3]; exact (Below.refl _ w2).alloc (Nat.le_refl _) _
      have k3 : CB w3 (wo.heap.size + 1) 48 #[.string (str yn), .slice yA nv yC, .int .i64 yp] := by rw [← hw3, ← s2]; exact CB.new w2 _ _
      have d0 : w2.cell? ⟨gb, ob + k * 3, none⟩ = some (.string (str yn)) := (b2.cell (p := ⟨gb, _, none⟩) hgb').trans cb.1
      have d1 : w2.cell? ⟨gb, ob + k * 3 + 1, none⟩ = some (.slice yA nv yC) := (b2.cell (p := ⟨gb, _, none⟩) hgb').trans cb.2.1
      have d2 : w2.cell? ⟨gb, ob + k * 3 + 2, none⟩ = some (.int .i64 yp) := (b2.cell (p := ⟨gb, _, none⟩) hgb').trans cb.2.2
      obtain ⟨-, y1⟩ := BX.out w2 (HW.out.trans (b2.mono hsz))
      have k23 : CB w3 wo.heap.size 48 #[.string (str yn), .slice xA nv xC, .int .i64 xp] := k2.below b3
      have s3 : w3.heap.size = w2.heap.size + 1 := by rw [← hw3]; simp
      have B3 : Hid (Below w3.heap.size w3 w3 ∧ Below wz.heap.size wz w3) := ⟨Below.refl _ _, (HW.out.trans (b2.mono hsz)).trans (b3.mono (by omega))⟩
      have bo3 : Below wo.heap.size wo w3 := b2.trans (b3.mono (by omega))
      have INN : Hid (∀ W, Below w3.heap.size w3 W → (Below wz.heap.size wz W ∧ Below wo.heap.size wo W) ∧ W.cell? ⟨wo.heap.size, 1, none⟩ = some (.slice xA nv xC) ∧ W.cell? ⟨wo.heap.size + 1, 1, none⟩ = some (.slice yA nv yC)) := fun W hW =>
        ⟨⟨B3.out.2.trans (hW.mono (by omega)), bo3.trans (hW.mono (by omega))⟩, (k23.below hW).at_ 1, (k3.below hW).at_ 1⟩
      have f0 : w3.cell? ⟨wo.heap.size, 0, none⟩ = some (.string (str yn)) := k23.at_ 0
      have f1 : w3.cell? ⟨wo.heap.size, 1, none⟩ = some (.slice xA nv xC) := k23.at_ 1
      have g0 : w3.cell? ⟨wo.heap.size + 1, 0, none⟩ = some (.string (str yn)) := k3.at_ 0
      have g1 : w3.cell? ⟨wo.heap.size + 1, 1, none⟩ = some (.slice yA nv yC) := k3.at_ 1
      have HX := Lib.hid hX
      have HY := Lib.hid hY
      have E2 := Lib.hid e2
      have E5 := Lib.hid e5
      have NV := Lib.hid hnv
      clear hX hY e2 e5 hnv hx hy b2 b3 k2 k3 k23 cb bo3
      go_wp2
      go_loopw [8] (fun i wq => ∃ j : Nat, i = .int .i64 j ∧ j ≤ nv ∧ Hid (Below w3.heap.size w3 wq)) (fun i _ => nv - (intOf i).toNat)
      case atStart => exact ⟨0, rfl, Nat.zero_le _, B3.out.1⟩
      case round =>
        clear f0 f1 g0 g1 a0 a1 a2 d0 d1 d2 z0 z1 y1
        obtain ⟨j, rfl, hj, HV⟩ := hrel
        obtain ⟨hzw, f1, g1⟩ := INN.out wr HV.out
        have HZW := Lib.hid hzw
        clear hzw
        by_cases hjlt : j < nv
        · have hjz : (j : Int) < (nv : Int) := by omega
          have j0 : (0 : Int) ≤ (j : Int) := by omega
          obtain ⟨u, hu⟩ : ∃ f, xv[j]? = some f := ⟨_, List.getElem?_eq_getElem (show j < xv.length by have : xv.length = nv := NV.out; omega)⟩
          obtain ⟨v, hv⟩ : ∃ g, yv[j]? = some g := ⟨_, List.getElem?_eq_getElem (show j < yv.length by have : yv.length = nv := E5.out; omega)⟩
          obtain ⟨f3, f4⟩ := (Rel2.at_ E2.out hu hv).un
          have hbw : Below w.heap.size wo wr := HZW.out.2.mono (by omega)
          obtain ⟨gc, oc, hq, hgc, ⟨c0, c1, c2⟩, hU⟩ := (HX.out.below hbw).cells hu
          have hq : xA = some ⟨gc, oc, none⟩ := hq
          subst hq
          obtain ⟨gd, od, hq, hgd, ⟨q0, q1, q2⟩, hV⟩ := (HY.out.below hbw).cells hv
          have hq : yA = some ⟨gd, od, none⟩ := hq
          subst hq
          obtain ⟨un, us, uA, uC, up⟩ := u
          obtain ⟨vn, vs, vA, vC, vp⟩ := v
          dsimp only at f3 f4 c0 c1 c2 q0 q1 q2
          subst f3
          have CN : Hid (Calls Tryz.prog 20 #[.slice uA us.length uC, .slice vA vs.length vC] wr.drew fun e w' => e = .returned (.bool true) ∧ Hid (Below w3.heap.size w3 w') ∧ (w'.cell? ⟨wo.heap.size, 1, none⟩ = some (.slice (some ⟨gc, oc, none⟩) nv xC) ∧ w'.cell? ⟨wo.heap.size + 1, 1, none⟩ = some (.slice (some ⟨gd, od, none⟩) nv yC) ∧ w'.cell? ⟨gc, oc + j * 3, none⟩ = some (.int .u64 (vn : Nat)) ∧ w'.cell? ⟨gc, oc + j * 3 + 1, none⟩ = some (.slice uA us.length uC) ∧ w'.cell? ⟨gd, od + j * 3, none⟩ = some (.int .u64 (vn : Nat)) ∧ w'.cell? ⟨gd, od + j * 3 + 1, none⟩ = some (.slice vA vs.length vC))) := by
            have hd : Below wr.heap.size wr wr.drew := Below.thenN (Below.refl _ _) 1
            have hz := HZW.out.1.size
            refine (psteps_any (m := ⟨vn, us, uA, uC, up⟩) (m' := ⟨vn, vs, vA, vC, vp⟩) (hU.below (hd.mono (by omega))) (hV.below (hd.mono (by omega))) (Nat.le_trans (by omega) hd.size) (Nat.le_trans (by omega) hd.size) f4).mono ?_
            rintro e w' ⟨rfl, hb⟩
            have hb2 : Below wr.heap.size wr w' := hd.trans (hb.mono hd.size)
            have kc := fun (g : Nat) (hg : g < wr.heap.size) i => hb2.cell (p := ⟨g, i, none⟩) hg
            have hbig := HV.out.size
            exact ⟨rfl, HV.out.trans (hb2.mono hbig), (kc _ (by omega) _).trans f1, (kc _ (by omega) _).trans g1, (kc _ (by omega) _).trans c0, (kc _ (by omega) _).trans c1, (kc _ (by omega) _).trans q0, (kc _ (by omega) _).trans q1⟩
          have D1 : wr.drew.cell? ⟨wo.heap.size, 1, none⟩ = some (.slice (some ⟨gc, oc, none⟩) nv xC) ∧ wr.drew.cell? ⟨wo.heap.size + 1, 1, none⟩ = some (.slice (some ⟨gd, od, none⟩) nv yC) ∧ wr.drew.cell? ⟨gc, oc + j * 3, none⟩ = some (.int .u64 (vn : Nat)) ∧ wr.drew.cell? ⟨gc, oc + j * 3 + 1, none⟩ = some (.slice uA us.length uC) ∧ wr.drew.cell? ⟨gd, od + j * 3, none⟩ = some (.int .u64 (vn : Nat)) ∧ wr.drew.cell? ⟨gd, od + j * 3 + 1, none⟩ = some (.slice vA vs.length vC) := ⟨f1, g1, c0, c1, q0, q1⟩
          clear hU hV hu hv f4 hbw c2 q2
          go_wp2
          go_region_held3 (fun W => W.cell? ⟨wo.heap.size, 1, none⟩ = some (.slice (some ⟨gc, oc, none⟩) nv xC) ∧ W.cell? ⟨wo.heap.size + 1, 1, none⟩ = some (.slice (some ⟨gd, od, none⟩) nv yC) ∧ W.cell? ⟨gc, oc + j * 3, none⟩ = some (.int .u64 (vn : Nat)) ∧ W.cell? ⟨gc, oc + j * 3 + 1, none⟩ = some (.slice uA us.length uC) ∧ W.cell? ⟨gd, od + j * 3, none⟩ = some (.int .u64 (vn : Nat)) ∧ W.cell? ⟨gd, od + j * 3 + 1, none⟩ = some (.slice vA vs.length vC))
            (first | (with_reducible exact D1) | (with_reducible exact D2) | (with_reducible assumption) | fail)
            (first
              | (go_at_call 20; (with_reducible refine CN.out.mono ?_); rintro e w5 ⟨rfl, H5, D2⟩)
              | fail)
          all_goals
            go_wp2
            go_roundw
            case rel => exact ⟨j + 1, by go_num, by omega, H5⟩
            case measure => simp [intOf]; omega
        · have hge : ¬ (j : Int) < (nv : Int) := by omega
          go_wp2
          go_roundw
          case rel => exact ⟨k + 1, by go_num, by omega, HZW.out.1⟩
          case measure => simp [intOf]; omega
    · have hge : ¬ (k : Int) < (n : Int) := by omega
      go_wp2
      go_ret
      exact ⟨rfl, HZ.out.trans (HW.out.mono (by omega))⟩
end Go.Proofs.YtipcgmaobiobbaaGreatDoor
/- Plain: what is printed doesn't ask for places. No walk here. -/
namespace Go.Proofs.YtipcgmaobiobbaaGreatDoor
open Go.RowKit

section
variable {α β : Type} {r : α → β → Prop}
theorem Rel2.get {l : List α} {m : List β} (h : Rel2 r l m) : ∀ i : Nat, (l[i]? = none ∧ m[i]? = none) ∨ ∃ x y, l[i]? = some x ∧ m[i]? = some y ∧ r x y := by
  induction h with
  | nil => exact fun i => .inl ⟨by simp, by simp⟩
  | cons h _ ih =>
    intro i
    cases i with
    | zero => exact .inr ⟨_, _, rfl, rfl, h⟩
    | succ i => simpa using ih i
theorem Rel2.nils {l : List α} {m : List β} (h : Rel2 r l m) : l = [] ↔ m = [] := by
  cases h with
  | nil => exact ⟨fun _ => rfl, fun _ => rfl⟩
  | cons => exact ⟨nofun, nofun⟩
theorem Rel2.flat {γ : Type} {f : α → List γ} {g : β → List γ} {l : List α} {m : List β} (h : Rel2 r l m) (k : ∀ x y, r x y → g y = f x) : m.flatMap g = l.flatMap f := by
  induction h with
  | nil => rfl
  | cons h _ ih => rw [List.flatMap_cons, List.flatMap_cons, ih, k _ _ h]
theorem Rel2.alls {f : α → Bool} {g : β → Bool} {l : List α} {m : List β} (h : Rel2 r l m) (k : ∀ x y, r x y → g y = f x) : m.all g = l.all f := by
  induction h with
  | nil => rfl
  | cons h _ ih => rw [List.all_cons, List.all_cons, ih, k _ _ h]
theorem Rel2.anys {f : α → Bool} {g : β → Bool} {l : List α} {m : List β} (h : Rel2 r l m) (k : ∀ x y, r x y → g y = f x) : m.any g = l.any f := by
  induction h with
  | nil => rfl
  | cons h _ ih => rw [List.any_cons, List.any_cons, ih, k _ _ h]
end
theorem over_eq {x y : Rn} (h : EqN x y) (i : Nat) (ks : List Pe) : arity y = arity x ∧ overP i y ks = overP i x ks := by
  obtain ⟨op, n, num, t, a⟩ := x
  obtain ⟨op', n', num', t', a'⟩ := y
  obtain ⟨h1, h2, h3, h4⟩ := h
  dsimp only at h1 h2 h3 h4
  subst h1 h2 h3 h4
  exact ⟨rfl, rfl⟩
theorem pile_eq {N M : List Rn} (h : Rel2 EqN N M) : ∀ i, pileP M i = pileP N i
  | 0 => rfl
  | i + 1 => by
    unfold pileP
    rw [pile_eq h i]
    rcases h.get i with ⟨h1, h2⟩ | ⟨x, y, h1, h2, h3⟩
    · rw [h1, h2]
    · rw [h1, h2]
      cases pileP N i with
      | none => rfl
      | some P =>
        dsimp only
        unfold pushP
        rw [(over_eq h3 i []).1]
        cases arity x with
        | none => rfl
        | some k =>
          dsimp only
          rw [(over_eq h3 i (P.take k)).2]
theorem expr_eq {N M : List Rn} (h : Rel2 EqN N M) : exprP M = exprP N := by
  unfold exprP
  rw [h.len, pile_eq h]
theorem val_eq {N M : List Rn} (h : Rel2 EqN N M) : valP M = valP N := by
  unfold valP
  rw [expr_eq h]
theorem step_eq3 {s s' : Rs} (h : EqS s s') : okS s' = okS s ∧ deepS s' = deepS s ∧ ptS s' = ptS s := by
  obtain ⟨k, a, b, c, sep, ty, v, p⟩ := s
  obtain ⟨k', a', b', c', sep', ty', v', p'⟩ := s'
  obtain ⟨h1, h2, h3, h4, h5, h6, h7⟩ := h
  dsimp only at h1 h2 h3 h4 h5 h6 h7
  subst h1 h2 h3 h4 h5 h6
  have e1 := expr_eq h7
  have e2 : decide (v' = []) = decide (v = []) := by
    by_cases hv : v = []
    · rw [decide_eq_true hv, decide_eq_true (h7.nils.1 hv)]
    · rw [decide_eq_false hv, decide_eq_false fun q => hv (h7.nils.2 q)]
  refine ⟨?_, ?_, ?_⟩
  · unfold okS
    dsimp only
    rw [e1, e2]
  · unfold deepS
    dsimp only
    rw [e1]
  · unfold ptS exT
    dsimp only
    rw [e1]
theorem ver_eq2 {v v' : Rv} (h : EqV v v') : v'.st.all okS = v.st.all okS ∧ deepV v' = deepV v ∧ ptV v' = ptV v := by
  refine ⟨h.st.alls fun _ _ q => (step_eq3 q).1, h.st.anys fun _ _ q => (step_eq3 q).2.1, ?_⟩
  unfold ptV
  rw [h.num, h.st.flat (f := plS) (g := plS) fun _ _ q => by unfold plS; rw [(step_eq3 q).2.2]]
theorem ev_eq3 {e e' : Re} (h : EqE e e') : okE e' = okE e ∧ deepE e' = deepE e ∧ ptE e' = ptE e := by
  refine ⟨?_, h.vs.anys fun _ _ q => (ver_eq2 q).2.1, ?_⟩
  · unfold okE
    have e2 : decide (e'.vs = []) = decide (e.vs = []) := by
      by_cases hv : e.vs = []
      · rw [decide_eq_true hv, decide_eq_true (h.vs.nils.1 hv)]
      · rw [decide_eq_false hv, decide_eq_false fun q => hv (h.vs.nils.2 q)]
    rw [h.name, e2, h.vs.alls (f := fun v => v.st.all okS) (g := fun v => v.st.all okS) fun _ _ q => (ver_eq2 q).1]
  · unfold ptE
    rw [h.name, h.vs.flat (f := ptV) (g := ptV) fun _ _ q => (ver_eq2 q).2.2]
theorem sch_eq {l m : List Re} (h : Rel2 EqE l m) : schP m = schP l := by
  unfold schP okT ptT
  rw [h.alls (f := okE) (g := okE) fun _ _ q => (ev_eq3 q).1, h.anys (f := deepE) (g := deepE) fun _ _ q => (ev_eq3 q).2.1, h.flat (f := ptE) (g := ptE) fun _ _ q => (ev_eq3 q).2.2]
theorem sch_err (l : List Re) : (schP l = (ptT l, 0) ∧ okT l = true ∧ l.any deepE = false ∧ (ptT l).length ≤ 1048576) ∨ schP l = ([], 1) ∨ schP l = ([], 91) ∨ schP l = ([], 2) := by
  unfold schP
  by_cases h1 : okT l = false
  · rw [if_pos h1]; exact .inr (.inl rfl)
  · rw [if_neg h1]
    by_cases h2 : l.any deepE = true
    · rw [if_pos h2]; exact .inr (.inr (.inl rfl))
    · rw [if_neg h2]
      by_cases h3 : 1048576 < (ptT l).length
      · rw [if_pos h3]; exact .inr (.inr (.inr rfl))
      · rw [if_neg h3]; exact .inl ⟨rfl, by simpa using h1, by simpa using h2, by omega⟩
end Go.Proofs.YtipcgmaobiobbaaGreatDoor
