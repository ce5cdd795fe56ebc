/- The walks of the statements' own functions that set nodes, steps side by side: they are the same but for their places. -/
import Derived.Test.YtdkcnepjjinpdaaDoorPrTree
import Derived.Test.YtdkcnepjjinpdaaDoorParGa
import Derived.Laws.StructEq
import Derived.Deep.RegionHeld3
import Derived.BigQuiet
namespace Go.Proofs.YtdkcnepjjinpdaaDoor
open Go.RowKit

theorem Rel2.unmap {α β γ δ : Type} {r : γ → δ → Prop} {f : α → γ} {g : β → δ} : ∀ {l : List α} {m : List β}, Rel2 r (l.map f) (m.map g) → Rel2 (fun x y => r (f x) (g y)) l m
  | [], [], _ => .nil
  | [], _ :: _, h => by cases h
  | _ :: _, [], h => by cases h
  | _ :: _, _ :: _, .cons h k => .cons h (Rel2.unmap k)
theorem Rel2.onmap {α β γ δ : Type} {r : γ → δ → Prop} {f : α → γ} {g : β → δ} {l : List α} {m : List β} (h : Rel2 (fun x y => r (f x) (g y)) l m) : Rel2 r (l.map f) (m.map g) := by
  induction h with
  | nil => exact .nil
  | cons h _ ih => exact .cons h ih
theorem Rel2.imp {α β : Type} {r q : α → β → Prop} {l : List α} {m : List β} (h : Rel2 r l m) (k : ∀ x ∈ l, ∀ y ∈ m, r x y → q x y) : Rel2 q l m := by
  induction h with
  | nil => exact .nil
  | cons h _ ih => exact .cons (k _ (.head _) _ (.head _) h) (ih fun x hx y hy => k x (.tail _ hx) y (.tail _ hy))
/-- the same but for places -/
structure EqN (x y : Rn) : Prop where
  op : y.op = x.op
  n : y.n = x.n
  num : y.num = x.num
  t : y.t = x.t
structure EqS (x y : Rs) : Prop where
  kind : y.kind = x.kind
  a : y.a = x.a
  b : y.b = x.b
  c : y.c = x.c
  sep : y.sep = x.sep
  ty : y.ty = x.ty
  v : Rel2 EqN x.v y.v
structure EqV (x y : Rv) : Prop where
  num : y.num = x.num
  st : Rel2 EqS x.st y.st
structure EqE (x y : Re) : Prop where
  name : y.name = x.name
  vs : Rel2 EqV x.vs y.vs

set_option maxRecDepth 100000 in
set_option maxHeartbeats 2000000 in
theorem pnodes_any {w : World} {B B' : Nat} {A A' : Option Addr} {c c' : Nat} {a b : List Rn} (ha : RN w B A a) (hb : RN w B' A' b) (hB : B ≤ w.heap.size) (hB' : B' ≤ w.heap.size) (hr : Rel2 EqN a b) (hl : a.length ≤ 9223372036854775806) :
    Calls Tryd.prog 88 #[.slice A a.length c, .slice A' b.length c'] w fun e w' => e = .returned (.bool true) ∧ Below w.heap.size w w' := by
  have hlb : b.length = a.length := hr.len
  rw [hlb]
  have hne : ((a.length : Int) != (a.length : Int)) = false := by simp
  have HA := Lib.hid (ha.more hB)
  have HB := Lib.hid (hb.more hB')
  have HR := Lib.hid hr
  have HL := Lib.hid hlb
  clear ha hb hr hlb
  go_enter Tryd.func88, Tryd.ntmps88
  go_wp2
  go_loopw [5] (fun i wr => ∃ k : Nat, i = .int .i64 k ∧ k ≤ a.length ∧ Hid (Below w.heap.size w wr)) (fun i _ => a.length - (intOf i).toNat)
  case atStart => exact ⟨0, rfl, Nat.zero_le _, Below.refl _ _⟩
  case round =>
    obtain ⟨k, rfl, hk, HW⟩ := hrel
    by_cases hlt : k < a.length
    · have hltz : (k : Int) < (a.length : Int) := by omega
      have k0 : (0 : Int) ≤ (k : Int) := by omega
      obtain ⟨x, hx⟩ : ∃ f, a[k]? = some f := ⟨a[k], List.getElem?_eq_getElem hlt⟩
      obtain ⟨y, hy⟩ : ∃ g, b[k]? = some g := ⟨b[k]'(by have := HL.out; omega), List.getElem?_eq_getElem (by have := HL.out; omega)⟩
      have hn := HR.out.at_ hx hy
      obtain ⟨ga, oa, rfl, hga, a0, a1, a2, a3, a4⟩ := RN.cells (HA.out.below HW.out) hx
      obtain ⟨gb, ob, rfl, hgb, b0, b1, b2, b3, b4⟩ := RN.cells (HB.out.below HW.out) hy
      obtain ⟨op, n, num, t, pa⟩ := x
      obtain ⟨op', n', num', t', pb⟩ := y
      obtain ⟨e1, e2, e3, e4⟩ := hn
      dsimp only at e1 e2 e3 e4 a0 a1 a2 a3 a4 b0 b1 b2 b3 b4
      subst e1 e2 e3 e4
      obtain ⟨wo, rfl⟩ : ∃ wo : World, wo = wr := ⟨_, rfl⟩
      have hsz := HW.out.size
      have nea : ga ≠ wo.heap.size := by omega
      have neb : gb ≠ wo.heap.size := by omega
      have hgb' : gb < wo.heap.size := by omega
      have kb := fun j => ((Below.refl _ wo).alloc (Nat.le_refl _) (.cells #[.int .i64 op', .int .i64 n', .int .u64 (num' : Nat), .string (str t'), .int .i64 pb] 38)).cell (p := ⟨gb, j, none⟩) hgb'
      have b0' : (wo.alloc (.cells #[.int .i64 op', .int .i64 n', .int .u64 (num' : Nat), .string (str t'), .int .i64 pb] 38)).cell? ⟨gb, ob + k * 5, none⟩ = some (.int .i64 op') := (kb _).trans b0
      have b1' : (wo.alloc (.cells #[.int .i64 op', .int .i64 n', .int .u64 (num' : Nat), .string (str t'), .int .i64 pb] 38)).cell? ⟨gb, ob + k * 5 + 1, none⟩ = some (.int .i64 n') := (kb _).trans b1
      have b2' : (wo.alloc (.cells #[.int .i64 op', .int .i64 n', .int .u64 (num' : Nat), .string (str t'), .int .i64 pb] 38)).cell? ⟨gb, ob + k * 5 + 2, none⟩ = some (.int .u64 (num' : Nat)) := (kb _).trans b2
      have b3' : (wo.alloc (.cells #[.int .i64 op', .int .i64 n', .int .u64 (num' : Nat), .string (str t'), .int .i64 pb] 38)).cell? ⟨gb, ob + k * 5 + 3, none⟩ = some (.string (str t')) := (kb _).trans b3
      have b4' : (wo.alloc (.cells #[.int .i64 op', .int .i64 n', .int .u64 (num' : Nat), .string (str t'), .int .i64 pb] 38)).cell? ⟨gb, ob + k * 5 + 4, none⟩ = some (.int .i64 pb) := (kb _).trans b4
      have ko := fun j => cell_of_row _ wo.heap.size j _ 38 (0, 0) (heap_alloc_new wo (.cells #[.int .i64 op', .int .i64 n', .int .u64 (num' : Nat), .string (str t'), .int .i64 pb] 38))
      have o0 : (wo.alloc (.cells #[.int .i64 op', .int .i64 n', .int .u64 (num' : Nat), .string (str t'), .int .i64 pb] 38)).cell? ⟨wo.heap.size, 0, none⟩ = some (.int .i64 op') := ko 0
      have o1 : (wo.alloc (.cells #[.int .i64 op', .int .i64 n', .int .u64 (num' : Nat), .string (str t'), .int .i64 pb] 38)).cell? ⟨wo.heap.size, 1, none⟩ = some (.int .i64 n') := ko 1
      have o2 : (wo.alloc (.cells #[.int .i64 op', .int .i64 n', .int .u64 (num' : Nat), .string (str t'), .int .i64 pb] 38)).cell? ⟨wo.heap.size, 2, none⟩ = some (.int .u64 (num' : Nat)) := ko 2
      have o3 : (wo.alloc (.cells #[.int .i64 op', .int .i64 n', .int .u64 (num' : Nat), .string (str t'), .int .i64 pb] 38)).cell? ⟨wo.heap.size, 3, none⟩ = some (.string (str t')) := ko 3
      have o4 : (wo.alloc (.cells #[.int .i64 op', .int .i64 n', .int .u64 (num' : Nat), .string (str t'), .int .i64 pb] 38)).cell? ⟨wo.heap.size, 4, none⟩ = some (.int .i64 pb) := ko 4
      clear kb ko
      go_wp2
      go_quiet (fail)
      go_wp2
      go_roundw
      case rel => exact ⟨k + 1, by go_num, by omega, Below.thenN (HW.out.alloc (by omega) _) _⟩
      case measure => simp [intOf]; omega
    · have hge : ¬ (k : Int) < (a.length : Int) := by omega
      go_wp2
      go_ret
      exact ⟨rfl, HW.out⟩
end Go.Proofs.YtdkcnepjjinpdaaDoor
