/- The walk of the statements' own function that sets nodes side by side: they are the same but for their places. -/
import Derived.Test.YtbngelinfpaefaaGreatDoorParGj
import Derived.Test.YtbngelinfpaefaaGreatDoorParGa
import Derived.Test.YtbngelinfpaefaaGreatDoorParGk
import Derived.Laws.StructEq
namespace Go.Proofs.YtbngelinfpaefaaGreatDoor
open Go.RowKit

/-- a place so much further on, or any place -/
def More (more : Int) (places : Bool) (x y : Nat) : Prop := if places = true then wrap64 ((x : Int) + more) = (y : Int) else True
set_option maxRecDepth 100000 in
set_option maxHeartbeats 2000000 in
theorem nodes_any {w : World} {A A' : Option Addr} {c c' : Nat} {a b : List Nd} (more : Int) (places : Bool) (ha : NRow w w.heap.size A a) (hb : NRow w w.heap.size A' b) (hr : Rel2 (Nr (More more places)) a b) (hl : a.length ≤ 9223372036854775807) :
    Calls Tryz.prog 14 #[.slice A a.length c, .slice A' b.length c', .int .i64 more, .bool places] w fun e w' => e = .returned (.bool true) ∧ Below w.heap.size w w' := by
  have hlb : b.length = a.length := hr.len
  rw [hlb]
  have hne : ((a.length : Int) != (a.length : Int)) = false := by simp
  have HA := Lib.hid ha
  have HB := Lib.hid hb
  have HR := Lib.hid hr
  have HL := Lib.hid hlb
  clear ha hb hr hlb
  go_enter Tryz.func14, Tryz.ntmps14
  go_wp2
  go_loopw [9] (fun i wr => ∃ k : Nat, i = .int .i64 k ∧ k ≤ a.length ∧ Hid (Below w.heap.size w wr)) (fun i _ => a.length - (intOf i).toNat)
  case atStart => exact ⟨0, rfl, Nat.zero_le _, Below.refl _ _⟩
  case round =>
    obtain ⟨k, rfl, hk, HW⟩ := hrel
    by_cases hlt : k < a.length
    · have hltz : (k : Int) < (a.length : Int) := by omega
      have k0 : (0 : Int) ≤ (k : Int) := by omega
      obtain ⟨x, hx⟩ : ∃ f, a[k]? = some f := ⟨a[k], List.getElem?_eq_getElem hlt⟩
      obtain ⟨y, hy⟩ : ∃ g, b[k]? = some g := ⟨b[k]'(by have := HL.out; omega), List.getElem?_eq_getElem (by have := HL.out; omega)⟩
      have hn := HR.out.at_ hx hy
      obtain ⟨ga, oa, rfl, hga, a0, a1, a2, a3, a4⟩ := (HA.out.below HW.out).at_ hx
      obtain ⟨gb, ob, rfl, hgb, b0, b1, b2, b3, b4⟩ := (HB.out.below HW.out).at_ hy
      obtain ⟨op, n, num, t, pa⟩ := x
      obtain ⟨op', n', num', t', pb⟩ := y
      obtain ⟨e1, e2, e3, e4, e5⟩ := hn
      dsimp only at e1 e2 e3 e4 e5 a0 a1 a2 a3 a4 b0 b1 b2 b3 b4
      subst e1 e2 e3 e4
      obtain ⟨wo, rfl⟩ : ∃ wo : World, wo = wr := ⟨_, rfl⟩
      have hsz := HW.out.size
      have nea : ga ≠ wo.heap.size := by omega
      have neb : gb ≠ wo.heap.size := by omega
      have hgb' : gb < wo.heap.size := by omega
      have kb := fun j => ((Below.refl _ wo).alloc (Nat.le_refl _) (.cells #[.int .i64 (op' : Nat), .int .i64 (n' : Nat), .int .u64 (num' : Nat), .string (str t'), .int .i64 (wrap64 ((pa : Int) + more))] 53)).cell (p := ⟨gb, j, none⟩) hgb'
      have b0' : (wo.alloc (.cells #[.int .i64 (op' : Nat), .int .i64 (n' : Nat), .int .u64 (num' : Nat), .string (str t'), .int .i64 (wrap64 ((pa : Int) + more))] 53)).cell? ⟨gb, ob + k * 5, none⟩ = some (.int .i64 (op' : Nat)) := (kb _).trans b0
      have b1' : (wo.alloc (.cells #[.int .i64 (op' : Nat), .int .i64 (n' : Nat), .int .u64 (num' : Nat), .string (str t'), .int .i64 (wrap64 ((pa : Int) + more))] 53)).cell? ⟨gb, ob + k * 5 + 1, none⟩ = some (.int .i64 (n' : Nat)) := (kb _).trans b1
      have b2' : (wo.alloc (.cells #[.int .i64 (op' : Nat), .int .i64 (n' : Nat), .int .u64 (num' : Nat), .string (str t'), .int .i64 (wrap64 ((pa : Int) + more))] 53)).cell? ⟨gb, ob + k * 5 + 2, none⟩ = some (.int .u64 (num' : Nat)) := (kb _).trans b2
      have b3' : (wo.alloc (.cells #[.int .i64 (op' : Nat), .int .i64 (n' : Nat), .int .u64 (num' : Nat), .string (str t'), .int .i64 (wrap64 ((pa : Int) + more))] 53)).cell? ⟨gb, ob + k * 5 + 3, none⟩ = some (.string (str t')) := (kb _).trans b3
      have b4' : (wo.alloc (.cells #[.int .i64 (op' : Nat), .int .i64 (n' : Nat), .int .u64 (num' : Nat), .string (str t'), .int .i64 (wrap64 ((pa : Int) + more))] 53)).cell? ⟨gb, ob + k * 5 + 4, none⟩ = some (.int .i64 (pb : Nat)) := (kb _).trans b4
      have ko := fun j => cell_of_row _ wo.heap.size j _ 53 (0, 0) (heap_alloc_new wo (.cells #[.int .i64 (op' : Nat), .int .i64 (n' : Nat), .int .u64 (num' : Nat), .string (str t'), .int .i64 (wrap64 ((pa : Int) + more))] 53))
      have o0 : (wo.alloc (.cells #[.int .i64 (op' : Nat), .int .i64 (n' : Nat), .int .u64 (num' : Nat), .string (str t'), .int .i64 (wrap64 ((pa : Int) + more))] 53)).cell? ⟨wo.heap.size, 0, none⟩ = some (.int .i64 (op' : Nat)) := ko 0
      have o1 : (wo.alloc (.cells #[.int .i64 (op' : Nat), .int .i64 (n' : Nat), .int .u64 (num' : Nat), .string (str t'), .int .i64 (wrap64 ((pa : Int) + more))] 53)).cell? ⟨wo.heap.size, 1, none⟩ = some (.int .i64 (n' : Nat)) := ko 1
      have o2 : (wo.alloc (.cells #[.int .i64 (op' : Nat), .int .i64 (n' : Nat), .int .u64 (num' : Nat), .string (str t'), .int .i64 (wrap64 ((pa : Int) + more))] 53)).cell? ⟨wo.heap.size, 2, none⟩ = some (.int .u64 (num' : Nat)) := ko 2
      have o3 : (wo.alloc (.cells #[.int .i64 (op' : Nat), .int .i64 (n' : Nat), .int .u64 (num' : Nat), .string (str t'), .int .i64 (wrap64 ((pa : Int) + more))] 53)).cell? ⟨wo.heap.size, 3, none⟩ = some (.string (str t')) := ko 3
      have o4 : (wo.alloc (.cells #[.int .i64 (op' : Nat), .int .i64 (n' : Nat), .int .u64 (num' : Nat), .string (str t'), .int .i64 (wrap64 ((pa : Int) + more))] 53)).cell? ⟨wo.heap.size, 4, none⟩ = some (.int .i64 (wrap64 ((pa : Int) + more))) := ko 4
      clear kb ko
      cases places with
      | true =>
        have e6 : wrap64 ((pa : Int) + more) = (pb : Int) := e5
        rw [e6] at b0' b1' b2' b3' b4' o0 o1 o2 o3 o4
        go_wp2
        go_quiet (fail)
        go_wp2
        go_roundw
        case rel => exact ⟨k + 1, by go_num, by omega, Below.thenN (HW.out.alloc (by omega) _) _⟩
        case measure => simp [intOf]; omega
      | false =>
        go_wp2
        go_quiet (fail)
        go_wp2
        go_roundw
        case rel => exact ⟨k + 1, by go_num, by omega, Below.thenN (HW.out.alloc (by omega) _) _⟩
        case measure => simp [intOf]; omega
    · have hge : ¬ (k : Int) < (a.length : Int) := by omega
      go_wp2
      go_ret
      exact ⟨rfl, HW.out⟩
end Go.Proofs.YtbngelinfpaefaaGreatDoor
/- The walk of the statements' own function that sets steps side by side: they are the same but for their places. -/
namespace Go.Proofs.YtbngelinfpaefaaGreatDoor
open Go.RowKit

/-- At the address A stand these rows of s cells each. -/
def RdR {α : Type} (f : α → Array Value) (s : Nat) (w : World) (A : Option Addr) (l : List α) : Prop :=
  l = [] ∨ ∃ g o, A = some ⟨g, o, none⟩ ∧ g < w.heap.size ∧ ∀ i x, l[i]? = some x → ∀ j v, (f x)[j]? = some v → w.cell? ⟨g, o + i * s + j, none⟩ = some v
theorem RdR.at_ {α : Type} {f : α → Array Value} {s : Nat} {w : World} {A : Option Addr} {l : List α} (h : RdR f s w A l) {i : Nat} {x : α} (hx : l[i]? = some x) : ∃ g o, A = some ⟨g, o, none⟩ ∧ g < w.heap.size ∧ ∀ j v, (f x)[j]? = some v → w.cell? ⟨g, o + i * s + j, none⟩ = some v := by
  rcases h with rfl | ⟨g, o, rfl, hg, hc⟩
  · simp at hx
  · exact ⟨g, o, rfl, hg, hc i x hx⟩
theorem RdR.below {α : Type} {f : α → Array Value} {s : Nat} {w w' : World} {A : Option Addr} {l : List α} (h : RdR f s w A l) (hb : Below w.heap.size w w') : RdR f s w' A l := by
  rcases h with rfl | ⟨g, o, rfl, hg, hc⟩
  · exact .inl rfl
  · exact .inr ⟨g, o, rfl, Nat.lt_of_lt_of_le hg hb.size, fun i x hx j v hv => (hb.cell (p := ⟨g, _, none⟩) hg).trans (hc i x hx j v hv)⟩
/-- steps that stand at an address, with their nodes -/
structure RdS (w : World) (A : Option Addr) (l : List LSt) : Prop where
  row : RdR LSt.C 8 w A l
  each : ∀ x ∈ l, NRow w w.heap.size x.A x.s.v ∧ x.s.v.length ≤ 9223372036854775807
theorem RdS.below {w w' : World} {A : Option Addr} {l : List LSt} (h : RdS w A l) (hb : Below w.heap.size w w') : RdS w' A l := ⟨h.row.below hb, fun x hx => ⟨(h.each x hx).1.then_ hb, (h.each x hx).2⟩⟩

set_option maxRecDepth 100000 in
set_option maxHeartbeats 4000000 in
theorem steps_any {w : World} {A A' : Option Addr} {c c' : Nat} {a b : List LSt} (more : Int) (places : Bool) (ha : RdS w A a) (hb : RdS w A' b) (hr : Rel2 (fun x y : LSt => StR (More more places) x.s y.s) a b) (hl : a.length ≤ 9223372036854775807) :
    Calls Tryz.prog 27 #[.slice A a.length c, .slice A' b.length c', .int .i64 more, .bool places] w fun e w' => e = .returned (.bool true) ∧ Below w.heap.size w w' := by
  have hlb : b.length = a.length := hr.len
  rw [hlb]
  have hne : ((a.length : Int) != (a.length : Int)) = false := by simp
  have HA := Lib.hid ha
  have HB := Lib.hid hb
  have HR := Lib.hid hr
  have HL := Lib.hid hlb
  clear ha hb hr hlb
  go_enter Tryz.func27, Tryz.ntmps27
  go_wp2
  go_loopw [9] (fun i wr => ∃ k : Nat, i = .int .i64 k ∧ k ≤ a.length ∧ Hid (Below w.heap.size w wr)) (fun i _ => a.length - (intOf i).toNat)
  case atStart => exact ⟨0, rfl, Nat.zero_le _, Below.refl _ _⟩
  case round =>
    obtain ⟨k, rfl, hk, HW⟩ := hrel
    by_cases hlt : k < a.length
    · have hltz : (k : Int) < (a.length : Int) := by omega
      have k0 : (0 : Int) ≤ (k : Int) := by omega
      obtain ⟨x, hx⟩ : ∃ f, a[k]? = some f := ⟨a[k], List.getElem?_eq_getElem hlt⟩
      obtain ⟨y, hy⟩ : ∃ g, b[k]? = some g := ⟨b[k]'(by have := HL.out; omega), List.getElem?_eq_getElem (by have := HL.out; omega)⟩
      have hn := HR.out.at_ hx hy
      obtain ⟨nx, lx⟩ := (HA.out.below HW.out).each x (List.mem_of_getElem? hx)
      obtain ⟨ny, ly⟩ := (HB.out.below HW.out).each y (List.mem_of_getElem? hy)
      obtain ⟨ga, oa, rfl, hga, ca⟩ := (HA.out.below HW.out).row.at_ hx
      obtain ⟨gb, ob, rfl, hgb, cb⟩ := (HB.out.below HW.out).row.at_ hy
      obtain ⟨⟨xk, xa, xb, xc, xs, xt, xv, xp⟩, xA, xC⟩ := x
      obtain ⟨⟨yk, ya, yb, yc, ys, yt, yv, yp⟩, yA, yC⟩ := y
      obtain ⟨e1, e2, e3, e4, e5, e6, e7, e8⟩ := hn
      dsimp only at e1 e2 e3 e4 e5 e6 e7 e8 nx ny lx ly
      subst e1 e2 e3 e4 e5 e6
      obtain ⟨wo, rfl⟩ : ∃ wo : World, wo = wr := ⟨_, rfl⟩
      have CN : Hid (∀ W, Below wo.heap.size wo W → Calls Tryz.prog 14 #[.slice xA xv.length xC, .slice yA yv.length yC, .int .i64 more, .bool places] W fun e w' => e = .returned (.bool true) ∧ Below W.heap.size W w') := fun W hW => nodes_any more places (nx.then_ hW) (ny.then_ hW) e7 lx
      have a0 : wo.cell? ⟨ga, oa + k * 8, none⟩ = some (.int .i64 (yk : Nat)) := ca 0 _ rfl
      have a1 : wo.cell? ⟨ga, oa + k * 8 + 1, none⟩ = some (.string (str ya)) := ca 1 _ rfl
      have a2 : wo.cell? ⟨ga, oa + k * 8 + 2, none⟩ = some (.string (str yb)) := ca 2 _ rfl
      have a3 : wo.cell? ⟨ga, oa + k * 8 + 3, none⟩ = some (.string (str yc)) := ca 3 _ rfl
      have a4 : wo.cell? ⟨ga, oa + k * 8 + 4, none⟩ = some (.string (str ys)) := ca 4 _ rfl
      have a5 : wo.cell? ⟨ga, oa + k * 8 + 5, none⟩ = some (.string (str yt)) := ca 5 _ rfl
      have a6 : wo.cell? ⟨ga, oa + k * 8 + 6, none⟩ = some (.slice xA xv.length xC) := ca 6 _ rfl
      have a7 : wo.cell? ⟨ga, oa + k * 8 + 7, none⟩ = some (.int .i64 (xp : Nat)) := ca 7 _ rfl
      have nea : ga ≠ wo.heap.size := by omega
      have neb : gb ≠ wo.heap.size := by omega
      have kb := fun j => ((Below.refl _ wo).alloc (Nat.le_refl _) (.cells #[.int .i64 (yk : Nat), .string (str ya), .string (str yb), .string (str yc), .string (str ys), .string (str yt), .slice xA xv.length xC, .int .i64 (xp : Nat)] 51)).cell (p := ⟨gb, j, none⟩) hgb
      have b0 : (wo.alloc (.cells #[.int .i64 (yk : Nat), .string (str ya), .string (str yb), .string (str yc), .string (str ys), .string (str yt), .slice xA xv.length xC, .int .i64 (xp : Nat)] 51)).cell? ⟨gb, ob + k * 8, none⟩ = some (.int .i64 (yk : Nat)) := (kb _).trans (cb 0 _ rfl)
      have b1 : (wo.alloc (.cells #[.int .i64 (yk : Nat), .string (str ya), .string (str yb), .string (str yc), .string (str ys), .string (str yt), .slice xA xv.length xC, .int .i64 (xp : Nat)] 51)).cell? ⟨gb, ob + k * 8 + 1, none⟩ = some (.string (str ya)) := (kb _).trans (cb 1 _ rfl)
      have b2 : (wo.alloc (.cells #[.int .i64 (yk : Nat), .string (str ya), .string (str yb), .string (str yc), .string (str ys), .string (str yt), .slice xA xv.length xC, .int .i64 (xp : Nat)] 51)).cell? ⟨gb, ob + k * 8 + 2, none⟩ = some (.string (str yb)) := (kb _).trans (cb 2 _ rfl)
      have b3 : (wo.alloc (.cells #[.int .i64 (yk : Nat), .string (str ya), .string (str yb), .string (str yc), .string (str ys), .string (str yt), .slice xA xv.length xC, .int .i64 (xp : Nat)] 51)).cell? ⟨gb, ob + k * 8 + 3, none⟩ = some (.string (str yc)) := (kb _).trans (cb 3 _ rfl)
      have b4 : (wo.alloc (.cells #[.int .i64 (yk : Nat), .string (str ya), .string (str yb), .string (str yc), .string (str ys), .string (str yt), .slice xA xv.length xC, .int .i64 (xp : Nat)] 51)).cell? ⟨gb, ob + k * 8 + 4, none⟩ = some (.string (str ys)) := (kb _).trans (cb 4 _ rfl)
      have b5 : (wo.alloc (.cells #[.int .i64 (yk : Nat), .string (str ya), .string (str yb), .string (str yc), .string (str ys), .string (str yt), .slice xA xv.length xC, .int .i64 (xp : Nat)] 51)).cell? ⟨gb, ob + k * 8 + 5, none⟩ = some (.string (str yt)) := (kb _).trans (cb 5 _ rfl)
      have b6 : (wo.alloc (.cells #[.int .i64 (yk : Nat), .string (str ya), .string (str yb), .string (str yc), .string (str ys), .string (str yt), .slice xA xv.length xC, .int .i64 (xp : Nat)] 51)).cell? ⟨gb, ob + k * 8 + 6, none⟩ = some (.slice yA yv.length yC) := (kb _).trans (cb 6 _ rfl)
      have b7 : (wo.alloc (.cells #[.int .i64 (yk : Nat), .string (str ya), .string (str yb), .string (str yc), .string (str ys), .string (str yt), .slice xA xv.length xC, .int .i64 (xp : Nat)] 51)).cell? ⟨gb, ob + k * 8 + 7, none⟩ = some (.int .i64 (yp : Nat)) := (kb _).trans (cb 7 _ rfl)
      have hB2 : Hid (Below wo.heap.size wo ((wo.alloc (.cells #[.int .i64 (yk : Nat), .string (str ya), .string (str yb), .string (str yc), .string (str ys), .string (str yt), .slice xA xv.length xC, .int .i64 (xp : Nat)] 51)).alloc (.cells #[.int .i64 (yk : Nat), .string (str ya), .string (str yb), .string (str yc), .string (str ys), .string (str yt), .slice yA yv.length yC, .int .i64 (yp : Nat)] 51))) := ((Below.refl _ wo).alloc (Nat.le_refl _) _).alloc (by simp) _
      have E7 := Lib.hid e7
      clear nx ny ca cb kb e7
      cases places with
      | true =>
        have e9 : wrap64 ((xp : Int) + more) = (yp : Int) := e8
        go_wp2_with (go_at_call 14; refine (CN.out _ hB2.out).mono ?_; rintro e w5 ⟨rfl, hb5⟩)
        go_roundw
        case rel => exact ⟨k + 1, by go_num, by omega, Below.both (Below.both HW.out hB2.out) hb5⟩
        case measure => simp [intOf]; omega
      | false =>
        go_wp2_with (go_at_call 14; refine (CN.out _ hB2.out).mono ?_; rintro e w5 ⟨rfl, hb5⟩)
        go_roundw
        case rel => exact ⟨k + 1, by go_num, by omega, Below.both (Below.both HW.out hB2.out) hb5⟩
        case measure => simp [intOf]; omega
    · have hge : ¬ (k : Int) < (a.length : Int) := by omega
      go_wp2
      go_ret
      exact ⟨rfl, HW.out⟩
end Go.Proofs.YtbngelinfpaefaaGreatDoor
/- The walk of the statements' own function that sets events side by side: they are the same but for their places. -/
namespace Go.Proofs.YtbngelinfpaefaaGreatDoor
open Go.RowKit

theorem Rel2.of_map {α β γ δ : Type} {r : γ → δ → Prop} {f : α → γ} {g : β → δ} : ∀ {l : List α} {m : List β}, Rel2 r (l.map f) (m.map g) → Rel2 (fun x y => r (f x) (g y)) l m
  | [], [], _ => .nil
  | [], _ :: _, h => by cases h
  | _ :: _, [], h => by cases h
  | _ :: _, _ :: _, .cons h k => .cons h (Rel2.of_map k)
/-- versions that stand at an address, with their steps; events, with their versions -/
structure RdV (w : World) (A : Option Addr) (l : List LVe) : Prop where
  row : RdR LVe.C 3 w A l
  each : ∀ x ∈ l, RdS w x.A x.st ∧ x.st.length ≤ 9223372036854775807
structure RdE (w : World) (A : Option Addr) (l : List LEv) : Prop where
  row : RdR LEv.C 3 w A l
  each : ∀ x ∈ l, RdV w x.A x.vs ∧ x.vs.length ≤ 9223372036854775807
theorem RdV.below {w w' : World} {A : Option Addr} {l : List LVe} (h : RdV w A l) (hb : Below w.heap.size w w') : RdV w' A l := ⟨h.row.below hb, fun x hx => ⟨(h.each x hx).1.below hb, (h.each x hx).2⟩⟩
theorem RdE.below {w w' : World} {A : Option Addr} {l : List LEv} (h : RdE w A l) (hb : Below w.heap.size w w') : RdE w' A l := ⟨h.row.below hb, fun x hx => ⟨(h.each x hx).1.below hb, (h.each x hx).2⟩⟩

set_option maxRecDepth 100000 in
set_option maxHeartbeats 8000000 in
theorem events_any {w : World} {A A' : Option Addr} {c c' : Nat} {a b : List LEv} (more : Int) (places : Bool) (ha : RdE w A a) (hb : RdE w A' b) (hr : Rel2 (fun x y : LEv => EvR (More more places) x.ev y.ev) a b) (hl : a.length ≤ 9223372036854775807) :
    Calls Tryz.prog 11 #[.slice A a.length c, .slice A' b.length c', .int .i64 more, .bool places] w fun e w' => e = .returned (.bool true) ∧ Below w.heap.size w w' := by
  have hlb : b.length = a.length := hr.len
  rw [hlb]
  have hne : ((a.length : Int) != (a.length : Int)) = false := by simp
  have HA := Lib.hid ha
  have HB := Lib.hid hb
  have HR := Lib.hid hr
  have HL := Lib.hid hlb
  clear ha hb hr hlb
  go_enter Tryz.func11, Tryz.ntmps11
  go_wp2
  go_loopw [9] (fun i wr => ∃ k : Nat, i = .int .i64 k ∧ k ≤ a.length ∧ Hid (Below w.heap.size w wr)) (fun i _ => a.length - (intOf i).toNat)
  case atStart => exact ⟨0, rfl, Nat.zero_le _, Below.refl _ _⟩
  case round =>
    obtain ⟨k, rfl, hk, HW⟩ := hrel
    by_cases hlt : k < a.length
    · have hltz : (k : Int) < (a.length : Int) := by omega
      have k0 : (0 : Int) ≤ (k : Int) := by omega
      obtain ⟨x, hx⟩ : ∃ f, a[k]? = some f := ⟨a[k], List.getElem?_eq_getElem hlt⟩
      obtain ⟨y, hy⟩ : ∃ g, b[k]? = some g := ⟨b[k]'(by have := HL.out; omega), List.getElem?_eq_getElem (by have := HL.out; omega)⟩
      have hn := HR.out.at_ hx hy
      have HX := Lib.hid hx
      have HY := Lib.hid hy
      clear hx hy
      obtain ⟨_, lx⟩ := HA.out.each x (List.mem_of_getElem? HX.out)
      obtain ⟨ga, oa, rfl, hga, ca⟩ := (HA.out.below HW.out).row.at_ HX.out
      obtain ⟨gb, ob, rfl, hgb, cb⟩ := (HB.out.below HW.out).row.at_ HY.out
      obtain ⟨xn, xp, xv, xA, xC⟩ := x
      obtain ⟨yn, yp, yv, yA, yC⟩ := y
      obtain ⟨e1, e2, e3⟩ := hn
      replace e1 : yn = xn := e1
      have e4 : Rel2 (fun x y : LVe => VeR (More more places) x.ve y.ve) xv yv := e2.of_map
      have e5 : yv.length = xv.length := e4.len
      replace e3 : More more places xp yp := e3
      replace lx : xv.length ≤ 9223372036854775807 := lx
      subst e1
      have hne2 : ((xv.length : Int) != (xv.length : Int)) = false := by simp
      obtain ⟨wo, rfl⟩ : ∃ wo : World, wo = wr := ⟨_, rfl⟩
      have a0 : wo.cell? ⟨ga, oa + k * 3, none⟩ = some (.string (str yn)) := ca 0 _ rfl
      have a1 : wo.cell? ⟨ga, oa + k * 3 + 1, none⟩ = some (.slice xA xv.length xC) := ca 1 _ rfl
      have a2 : wo.cell? ⟨ga, oa + k * 3 + 2, none⟩ = some (.int .i64 (xp : Nat)) := ca 2 _ rfl
      have b0 : wo.cell? ⟨gb, ob + k * 3, none⟩ = some (.string (str yn)) := cb 0 _ rfl
      have b1 : wo.cell? ⟨gb, ob + k * 3 + 1, none⟩ = some (.slice yA xv.length yC) := by rw [← e5]; exact cb 1 _ rfl
      have b2 : wo.cell? ⟨gb, ob + k * 3 + 2, none⟩ = some (.int .i64 (yp : Nat)) := cb 2 _ rfl
      have E4 := Lib.hid e4
      have E5 := Lib.hid e5
      clear ca cb e2 e4 e5
      have e9 : places = true → wrap64 ((xp : Int) + more) = (yp : Int) := fun z => by
        have e3' := e3
        unfold More at e3'
        rw [if_pos z] at e3'
        exact e3'
      cases places with
      | true =>
        have e10 := e9 rfl
        clear e9 e3
        go_wp2
        go_quiet (fail)
        go_wp2
        clear e10
        go_loopw [10] (fun i wr => ∃ m : Nat, i = .int .i64 m ∧ m ≤ xv.length ∧ Hid (Below w.heap.size w wr)) (fun i _ => xv.length - (intOf i).toNat)
        case atStart => exact ⟨0, rfl, Nat.zero_le _, Below.thenN HW.out _⟩
        case round =>
          clear a0 a1 a2 b0 b1 b2 HW
          obtain ⟨m, rfl, hm, HW⟩ := hrel
          obtain ⟨wi, rfl⟩ : ∃ wi : World, wi = wr := ⟨_, rfl⟩
          obtain ⟨ga2, oa2, he, hga, ca⟩ := (HA.out.below HW.out).row.at_ HX.out
          cases he
          obtain ⟨gb2, ob2, he, hgb, cb⟩ := (HB.out.below HW.out).row.at_ HY.out
          cases he
          have a1 : wi.cell? ⟨ga, oa + k * 3 + 1, none⟩ = some (.slice xA xv.length xC) := ca 1 _ rfl
          have b1 : wi.cell? ⟨gb, ob + k * 3 + 1, none⟩ = some (.slice yA xv.length yC) := by rw [← E5.out]; exact cb 1 _ rfl
          clear ca cb
          by_cases hlm : m < xv.length
          · have hlmz : (m : Int) < (xv.length : Int) := by omega
            have m0 : (0 : Int) ≤ (m : Int) := by omega
            obtain ⟨u, hu⟩ : ∃ f, xv[m]? = some f := ⟨xv[m], List.getElem?_eq_getElem hlm⟩
            obtain ⟨v, hv⟩ : ∃ g, yv[m]? = some g := ⟨yv[m]'(by have := E5.out; omega), List.getElem?_eq_getElem (by have := E5.out; omega)⟩
            have hn := E4.out.at_ hu hv
            have rx : RdV wi xA xv := ((HA.out.below HW.out).each _ (List.mem_of_getElem? HX.out)).1
            have ry : RdV wi yA yv := ((HB.out.below HW.out).each _ (List.mem_of_getElem? HY.out)).1
            obtain ⟨su, lu⟩ := rx.each u (List.mem_of_getElem? hu)
            obtain ⟨sv, _⟩ := ry.each v (List.mem_of_getElem? hv)
            obtain ⟨gc, oc, rfl, hgc, cc⟩ := rx.row.at_ hu
            obtain ⟨gd, od, rfl, hgd, cd⟩ := ry.row.at_ hv
            obtain ⟨un, up, us, uA, uC⟩ := u
            obtain ⟨vn, vp, vs, vA, vC⟩ := v
            obtain ⟨f1, f2, f3⟩ := hn
            replace f1 : vn = un := f1
            have f4 := Rel2.of_map (f := fun z : LSt => z.s) (g := fun z : LSt => z.s) f2
            replace f3 : More more true up vp := f3
            replace lu : us.length ≤ 9223372036854775807 := lu
            subst f1
            have CN : Hid (∀ W, Below wi.heap.size wi W → Calls Tryz.prog 27 #[.slice uA us.length uC, .slice vA vs.length vC, .int .i64 more, .bool true] W fun e w' => e = .returned (.bool true) ∧ Below W.heap.size W w') := fun W hW => steps_any more true (su.below hW) (sv.below hW) f4 lu
            have c0 : wi.cell? ⟨gc, oc + m * 3, none⟩ = some (.int .u64 (vn : Nat)) := cc 0 _ rfl
            have c1 : wi.cell? ⟨gc, oc + m * 3 + 1, none⟩ = some (.slice uA us.length uC) := cc 1 _ rfl
            have c2 : wi.cell? ⟨gc, oc + m * 3 + 2, none⟩ = some (.int .i64 (up : Nat)) := cc 2 _ rfl
            have kb := fun (g : Nat) (hg : g < wi.heap.size) j => ((Below.refl _ wi).alloc (Nat.le_refl _) (.cells #[.int .u64 (vn : Nat), .slice uA us.length uC, .int .i64 (up : Nat)] 49)).cell (p := ⟨g, j, none⟩) hg
            have b1' : (wi.alloc (.cells #[.int .u64 (vn : Nat), .slice uA us.length uC, .int .i64 (up : Nat)] 49)).cell? ⟨gb, ob + k * 3 + 1, none⟩ = some (.slice (some ⟨gd, od, none⟩) xv.length yC) := (kb gb hgb _).trans b1
            have d0 : (wi.alloc (.cells #[.int .u64 (vn : Nat), .slice uA us.length uC, .int .i64 (up : Nat)] 49)).cell? ⟨gd, od + m * 3, none⟩ = some (.int .u64 (vn : Nat)) := (kb gd hgd _).trans (cd 0 _ rfl)
            have d1 : (wi.alloc (.cells #[.int .u64 (vn : Nat), .slice uA us.length uC, .int .i64 (up : Nat)] 49)).cell? ⟨gd, od + m * 3 + 1, none⟩ = some (.slice vA vs.length vC) := (kb gd hgd _).trans (cd 1 _ rfl)
            have d2 : (wi.alloc (.cells #[.int .u64 (vn : Nat), .slice uA us.length uC, .int .i64 (up : Nat)] 49)).cell? ⟨gd, od + m * 3 + 2, none⟩ = some (.int .i64 (vp : Nat)) := (kb gd hgd _).trans (cd 2 _ rfl)
            have hB2 : Hid (Below wi.heap.size wi ((wi.alloc (.cells #[.int .u64 (vn : Nat), .slice uA us.length uC, .int .i64 (up : Nat)] 49)).alloc (.cells #[.int .u64 (vn : Nat), .slice vA vs.length vC, .int .i64 (vp : Nat)] 49))) := ((Below.refl _ wi).alloc (Nat.le_refl _) _).alloc (by simp) _
            have n1 : ga ≠ wi.heap.size := by omega
            have n2 : gb ≠ wi.heap.size := by omega
            have n3 : gc ≠ wi.heap.size := by omega
            have n4 : gd ≠ wi.heap.size := by omega
            have f9 : wrap64 ((up : Int) + more) = (vp : Int) := f3
            clear kb cc cd rx ry su sv f2 f4 hu hv
            go_wp2_with (go_at_call 27; refine (CN.out _ hB2.out).mono ?_; rintro e w5 ⟨rfl, hb5⟩)
            go_roundw
            case rel => exact ⟨m + 1, by go_num, by omega, Below.both (Below.both HW.out hB2.out) hb5⟩
            case measure => simp [intOf]; omega
          · have hge : ¬ (m : Int) < (xv.length : Int) := by omega
            go_wp2
            go_roundw
            case rel => exact ⟨k + 1, by go_num, by omega, HW⟩
            case measure => simp [intOf]; omega
      | false =>
        clear e9 e3
        go_wp2
        go_quiet (fail)
        go_wp2
        go_loopw [10] (fun i wr => ∃ m : Nat, i = .int .i64 m ∧ m ≤ xv.length ∧ Hid (Below w.heap.size w wr)) (fun i _ => xv.length - (intOf i).toNat)
        case atStart => exact ⟨0, rfl, Nat.zero_le _, Below.thenN HW.out _⟩
        case round =>
          clear a0 a1 a2 b0 b1 b2 HW
          obtain ⟨m, rfl, hm, HW⟩ := hrel
          obtain ⟨wi, rfl⟩ : ∃ wi : World, wi = wr := ⟨_, rfl⟩
          obtain ⟨ga2, oa2, he, hga, ca⟩ := (HA.out.below HW.out).row.at_ HX.out
          cases he
          obtain ⟨gb2, ob2, he, hgb, cb⟩ := (HB.out.below HW.out).row.at_ HY.out
          cases he
          have a1 : wi.cell? ⟨ga, oa + k * 3 + 1, none⟩ = some (.slice xA xv.length xC) := ca 1 _ rfl
          have b1 : wi.cell? ⟨gb, ob + k * 3 + 1, none⟩ = some (.slice yA xv.length yC) := by rw [← E5.out]; exact cb 1 _ rfl
          clear ca cb
          by_cases hlm : m < xv.length
          · have hlmz : (m : Int) < (xv.length : Int) := by omega
            have m0 : (0 : Int) ≤ (m : Int) := by omega
            obtain ⟨u, hu⟩ : ∃ f, xv[m]? = some f := ⟨xv[m], List.getElem?_eq_getElem hlm⟩
            obtain ⟨v, hv⟩ : ∃ g, yv[m]? = some g := ⟨yv[m]'(by have := E5.out; omega), List.getElem?_eq_getElem (by have := E5.out; omega)⟩
            have hn := E4.out.at_ hu hv
            have rx : RdV wi xA xv := ((HA.out.below HW.out).each _ (List.mem_of_getElem? HX.out)).1
            have ry : RdV wi yA yv := ((HB.out.below HW.out).each _ (List.mem_of_getElem? HY.out)).1
            obtain ⟨su, lu⟩ := rx.each u (List.mem_of_getElem? hu)
            obtain ⟨sv, _⟩ := ry.each v (List.mem_of_getElem? hv)
            obtain ⟨gc, oc, rfl, hgc, cc⟩ := rx.row.at_ hu
            obtain ⟨gd, od, rfl, hgd, cd⟩ := ry.row.at_ hv
            obtain ⟨un, up, us, uA, uC⟩ := u
            obtain ⟨vn, vp, vs, vA, vC⟩ := v
            obtain ⟨f1, f2, f3⟩ := hn
            replace f1 : vn = un := f1
            have f4 := Rel2.of_map (f := fun z : LSt => z.s) (g := fun z : LSt => z.s) f2
            replace f3 : More more false up vp := f3
            replace lu : us.length ≤ 9223372036854775807 := lu
            subst f1
            have CN : Hid (∀ W, Below wi.heap.size wi W → Calls Tryz.prog 27 #[.slice uA us.length uC, .slice vA vs.length vC, .int .i64 more, .bool false] W fun e w' => e = .returned (.bool true) ∧ Below W.heap.size W w') := fun W hW => steps_any more false (su.below hW) (sv.below hW) f4 lu
            have c0 : wi.cell? ⟨gc, oc + m * 3, none⟩ = some (.int .u64 (vn : Nat)) := cc 0 _ rfl
            have c1 : wi.cell? ⟨gc, oc + m * 3 + 1, none⟩ = some (.slice uA us.length uC) := cc 1 _ rfl
            have c2 : wi.cell? ⟨gc, oc + m * 3 + 2, none⟩ = some (.int .i64 (up : Nat)) := cc 2 _ rfl
            have kb := fun (g : Nat) (hg : g < wi.heap.size) j => ((Below.refl _ wi).alloc (Nat.le_refl _) (.cells #[.int .u64 (vn : Nat), .slice uA us.length uC, .int .i64 (up : Nat)] 49)).cell (p := ⟨g, j, none⟩) hg
            have b1' : (wi.alloc (.cells #[.int .u64 (vn : Nat), .slice uA us.length uC, .int .i64 (up : Nat)] 49)).cell? ⟨gb, ob + k * 3 + 1, none⟩ = some (.slice (some ⟨gd, od, none⟩) xv.length yC) := (kb gb hgb _).trans b1
            have d0 : (wi.alloc (.cells #[.int .u64 (vn : Nat), .slice uA us.length uC, .int .i64 (up : Nat)] 49)).cell? ⟨gd, od + m * 3, none⟩ = some (.int .u64 (vn : Nat)) := (kb gd hgd _).trans (cd 0 _ rfl)
            have d1 : (wi.alloc (.cells #[.int .u64 (vn : Nat), .slice uA us.length uC, .int .i64 (up : Nat)] 49)).cell? ⟨gd, od + m * 3 + 1, none⟩ = some (.slice vA vs.length vC) := (kb gd hgd _).trans (cd 1 _ rfl)
            have d2 : (wi.alloc (.cells #[.int .u64 (vn : Nat), .slice uA us.length uC, .int .i64 (up : Nat)] 49)).cell? ⟨gd, od + m * 3 + 2, none⟩ = some (.int .i64 (vp : Nat)) := (kb gd hgd _).trans (cd 2 _ rfl)
            have hB2 : Hid (Below wi.heap.size wi ((wi.alloc (.cells #[.int .u64 (vn : Nat), .slice uA us.length uC, .int .i64 (up : Nat)] 49)).alloc (.cells #[.int .u64 (vn : Nat), .slice vA vs.length vC, .int .i64 (vp : Nat)] 49))) := ((Below.refl _ wi).alloc (Nat.le_refl _) _).alloc (by simp) _
            have n1 : ga ≠ wi.heap.size := by omega
            have n2 : gb ≠ wi.heap.size := by omega
            have n3 : gc ≠ wi.heap.size := by omega
            have n4 : gd ≠ wi.heap.size := by omega
            clear kb cc cd rx ry su sv f2 f4 hu hv
            go_wp2_with (go_at_call 27; refine (CN.out _ hB2.out).mono ?_; rintro e w5 ⟨rfl, hb5⟩)
            go_roundw
            case rel => exact ⟨m + 1, by go_num, by omega, Below.both (Below.both HW.out hB2.out) hb5⟩
            case measure => simp [intOf]; omega
          · have hge : ¬ (m : Int) < (xv.length : Int) := by omega
            go_wp2
            go_roundw
            case rel => exact ⟨k + 1, by go_num, by omega, HW⟩
            case measure => simp [intOf]; omega
    · have hge : ¬ (k : Int) < (a.length : Int) := by omega
      go_wp2
      go_ret
      exact ⟨rfl, HW.out⟩
end Go.Proofs.YtbngelinfpaefaaGreatDoor
/- What is read of rows of the call's own: of all that a schema answers, and of a part of it. No walk here. -/
namespace Go.Proofs.YtbngelinfpaefaaGreatDoor
open Go.RowKit

theorem RdR.of_own {α : Type} {f : α → Array Value} {s : Nat} (hs : ∀ x, (f x).size = s) {w : World} {B : Nat} {T : TypeId} {A : Option Addr} {c : Nat} {l : List α} (h : w.ownsRow B T s (.slice A l.length c) l.length (flatR f l)) : RdR f s w A l := by
  rcases h.2 with ⟨hv, h0⟩ | ⟨g, cap, cur, hv, hg, hc, rest⟩
  · exact .inl (List.eq_nil_of_length_eq_zero h0)
  · injection hv with e1 e2 e3
    subst e1
    refine .inr ⟨g, 0, rfl, (Array.getElem?_eq_some_iff.1 hc).1, fun i x hx j v hv => ?_⟩
    have hj : j < s := by rw [← hs x]; exact (Array.getElem?_eq_some_iff.1 hv).1
    have hf := flatR_at hs l i x hx j hj
    rw [hv] at hf
    have := World.ownsRow.cells h (g := g) rfl (i * s + j) _ hf
    rwa [Addr.add_lit, ← Nat.add_assoc] at this
theorem own_few {w : World} {B : Nat} {T : TypeId} {s : Nat} {A : Option Addr} {c n : Nat} {xs : List Value} (h : w.ownsRow B T s (.slice A n c) n xs) : n ≤ 9223372036854775807 := by
  rcases h.2 with ⟨_, h0⟩ | ⟨g, cap, cur, _, _, _, h1, h2, _⟩
  · omega
  · have e : maxLen = 9223372036854775807 := by decide
    rw [e] at h2
    omega
theorem RdS.of {w : World} {B : Nat} {A : Option Addr} {c : Nat} {l : List LSt} (h : Built StLev w B A c l) : RdS w A l :=
  ⟨RdR.of_own (s := 8) (fun _ => rfl) h.own, fun x hx => ⟨(h.each x hx).reads, own_few (h.each x hx)⟩⟩
theorem RdV.of {w : World} {B : Nat} {A : Option Addr} {c : Nat} {l : List LVe} (h : Built VeLev w B A c l) : RdV w A l :=
  ⟨RdR.of_own (s := 3) (fun _ => rfl) h.own, fun x hx => ⟨RdS.of (h.each x hx), own_few (h.each x hx).own⟩⟩
theorem RdE.of {w : World} {B : Nat} {A : Option Addr} {c : Nat} {l : List LEv} (h : Built EvLev w B A c l) : RdE w A l :=
  ⟨RdR.of_own (s := 3) (fun _ => rfl) h.own, fun x hx => ⟨RdV.of (h.each x hx), own_few (h.each x hx).own⟩⟩
/-- the first of them, and those behind -/
theorem RdE.take {w : World} {A : Option Addr} {l : List LEv} (h : RdE w A l) (n : Nat) : RdE w A (l.take n) := by
  refine ⟨?_, fun x hx => h.each x (List.mem_of_mem_take hx)⟩
  rcases h.row with rfl | ⟨g, o, rfl, hg, hc⟩
  · exact .inl (by simp)
  · refine .inr ⟨g, o, rfl, hg, fun i x hx => hc i x ?_⟩
    rw [List.getElem?_take] at hx
    split at hx
    · exact hx
    · cases hx
theorem RdE.drop {w : World} {g o : Nat} {l : List LEv} (h : RdE w (some ⟨g, o, none⟩) l) (n : Nat) : RdE w (some ⟨g, o + n * 3, none⟩) (l.drop n) := by
  refine ⟨?_, fun x hx => h.each x (List.mem_of_mem_drop hx)⟩
  rcases h.row with rfl | ⟨g', o', he, hg, hc⟩
  · exact .inl (by simp)
  · cases he
    refine .inr ⟨g, o + n * 3, rfl, hg, fun i x hx j v hv => ?_⟩
    rw [List.getElem?_drop] at hx
    have := hc (n + i) x hx j v hv
    rwa [show o + (n + i) * 3 + j = o + n * 3 + i * 3 + j by omega] at this
end Go.Proofs.YtbngelinfpaefaaGreatDoor
/- The walk of awake: fixed answers of Schema and of Value. -/
namespace Go.Proofs.YtbngelinfpaefaaGreatDoor
open Go.RowKit

/-- a cell of a row of the call's own -/
theorem own_cells {α : Type} {f : α → Array Value} {s : Nat} (hs : ∀ x, (f x).size = s) {w : World} {B : Nat} {T : TypeId} {A : Option Addr} {c : Nat} {l : List α} (h : w.ownsRow B T s (.slice A l.length c) l.length (flatR f l)) {i : Nat} {x : α} (hx : l[i]? = some x) :
    ∃ g, A = some ⟨g, 0, none⟩ ∧ B ≤ g ∧ g < w.heap.size ∧ ∀ j v, (f x)[j]? = some v → w.cell? ⟨g, i * s + j, none⟩ = some v := by
  rcases h.2 with ⟨hv, h0⟩ | ⟨g, cap, cur, hv, hg, hc, rest⟩
  · rw [List.eq_nil_of_length_eq_zero h0] at hx
    cases hx
  · injection hv with e1 e2 e3
    subst e1
    refine ⟨g, rfl, hg, (Array.getElem?_eq_some_iff.1 hc).1, fun j v hv => ?_⟩
    have hj : j < s := by rw [← hs x]; exact (Array.getElem?_eq_some_iff.1 hv).1
    have hf := flatR_at hs l i x hx j hj
    rw [hv] at hf
    have := World.ownsRow.cells h (g := g) rfl (i * s + j) _ hf
    rwa [Addr.add_lit, Nat.zero_add] at this
def awT : ByteArray := ⟨#[101, 118, 101, 110, 116, 32, 97, 123, 118, 101, 114, 115, 105, 111, 110, 32, 49, 123, 97, 100, 100, 32, 120, 58, 117, 105, 110, 116, 59, 125, 125]⟩
theorem aw_sch : schS awT = .ok [⟨[97], [⟨1, [⟨1, [120], [], [], [], [117, 105, 110, 116], [], 18⟩], 8⟩], 0⟩] := by decide +kernel
theorem aw_val : valS ⟨#[49, 45, 50]⟩ = .ok [⟨1, 0, 1, [], 0⟩, ⟨1, 0, 2, [], 2⟩, ⟨7, 0, 0, [], 1⟩] := by decide +kernel
theorem aw_open : valS ⟨#[40, 49]⟩ = .bad 2 90 := by decide +kernel
theorem map_one {α β : Type} {f : α → β} {l : List α} {y : β} (h : l.map f = [y]) : ∃ x, l = [x] ∧ f x = y := by
  cases l with
  | nil => cases h
  | cons x r =>
    injection h with h1 h2
    cases r with
    | nil => exact ⟨x, rfl, h1⟩
    | cons z q => cases h2

/-- the awake schema, as it lies -/
theorem csch_awake (w : World) (hEV : EV w) : Calls Tryz.prog 9 #[.string awT] w fun e w' => ∃ g1 c1 g2 c2 g3 c3 xA xc, e = .returned (.tuple #[.agg #[.slice (some ⟨g1, 0, none⟩) 1 c1], .int .i64 0, .int .i64 0]) ∧ Below w.heap.size w w' ∧
    g1 < w'.heap.size ∧ g2 < w'.heap.size ∧ g3 < w'.heap.size ∧
    (∀ j v, (evC [97] (.slice (some ⟨g2, 0, none⟩) 1 c2) 0)[j]? = some v → w'.cell? ⟨g1, j, none⟩ = some v) ∧
    (∀ j v, (veC 1 (.slice (some ⟨g3, 0, none⟩) 1 c3) 8)[j]? = some v → w'.cell? ⟨g2, j, none⟩ = some v) ∧
    (∀ j v, (stC ⟨1, [120], [], [], [], [117, 105, 110, 116], [], 18⟩ (.slice xA 0 xc))[j]? = some v → w'.cell? ⟨g3, j, none⟩ = some v) := by
  refine (cschema_any w awT hEV).mono ?_
  rintro e w' ⟨As, cs, es, rfl, hb, hB, he⟩
  rw [aw_sch] at he
  obtain ⟨x, rfl, hx⟩ := map_one he
  obtain ⟨xn, xp, xv, xA, xC⟩ := x
  injection hx with h1 h2 h3
  obtain ⟨v, hv, hv2⟩ := map_one h2
  dsimp only at h1 h3 hv
  subst h1 h3 hv
  obtain ⟨vn, vp, vs, vA, vC⟩ := v
  injection hv2 with h1 h2 h3
  obtain ⟨t, ht, ht2⟩ := map_one h2
  dsimp only at h1 h3 ht
  subst h1 h3 ht
  obtain ⟨ts, tA, tC⟩ := t
  dsimp only at ht2
  subst ht2
  obtain ⟨g1, rfl, _, b1, k1⟩ := own_cells (s := 3) (fun _ => rfl) hB.own (i := 0) rfl
  have hV := hB.each _ (List.mem_singleton_self _)
  obtain ⟨g2, e2, _, b2, k2⟩ := own_cells (s := 3) (fun _ => rfl) (Built.own hV) (i := 0) rfl
  have hS := Built.each hV _ (List.mem_singleton_self _)
  obtain ⟨g3, e3, _, b3, k3⟩ := own_cells (s := 8) (fun _ => rfl) (Built.own hS) (i := 0) rfl
  dsimp only at e2 e3
  subst e2 e3
  simp only [Nat.zero_mul, Nat.zero_add] at k1 k2 k3
  rw [aw_sch]
  exact ⟨g1, cs, g2, xC, g3, vC, tA, tC, rfl, hb, b1, b2, b3, k1, k2, k3⟩
theorem cval_awake (w : World) (hEV : EV w) : Calls Tryz.prog 12 #[.string ⟨#[49, 45, 50]⟩] w fun e w' => ∃ An cn, e = .returned (.tuple #[.slice An 3 cn, .int .i64 0, .int .i64 0]) ∧ Below w.heap.size w w' ∧ Hid (NRow w' w'.heap.size An [⟨1, 0, 1, [], 0⟩, ⟨1, 0, 2, [], 2⟩, ⟨7, 0, 0, [], 1⟩]) := by
  refine (cvalue_any w _ hEV).mono ?_
  rintro e w' ⟨An, cn, rfl, hb, ho⟩
  have h := ho.reads
  rw [aw_val] at h ⊢
  exact ⟨An, cn, rfl, hb, h⟩
theorem cval_open (w : World) (hEV : EV w) : Calls Tryz.prog 12 #[.string ⟨#[40, 49]⟩] w fun e w' => ∃ An cn, e = .returned (.tuple #[.slice An 0 cn, .int .i64 2, .int .i64 90]) ∧ Below w.heap.size w w' := by
  refine (cvalue_any w _ hEV).mono ?_
  rintro e w' ⟨An, cn, rfl, hb, ho⟩
  rw [aw_open]
  exact ⟨An, cn, rfl, hb⟩
end Go.Proofs.YtbngelinfpaefaaGreatDoor
/- The walk of awake. -/
namespace Go.Proofs.YtbngelinfpaefaaGreatDoor
open Go.RowKit

theorem cb_second (w : World) (o : Obj) (T : TypeId) (cs : Array Value) : CB ((w.alloc o).alloc (.cells cs T)) (w.heap.size + 1) T cs := by
  have e : (w.alloc o).heap.size = w.heap.size + 1 := by simp
  rw [← e]
  exact CB.new _ _ _
/-- nodes just laid -/
theorem nrow_new (w : World) (cs : Array Value) (l : List Nd) (T : TypeId) (h : cs.toList = flatN l) : NRow (w.alloc (.cells cs T)) (w.alloc (.cells cs T)).heap.size (some ⟨w.heap.size, 0, none⟩) l := by
  refine .inr ⟨w.heap.size, 0, rfl, by simp, fun i x hx => ?_⟩
  have q : ∀ j, j < 5 → (w.alloc (.cells cs T)).cell? ⟨w.heap.size, 0 + i * 5 + j, none⟩ = (ndC x)[j]? := fun j hj => by
    rw [cell_of_row _ w.heap.size _ cs T (0, 0) (heap_alloc_new w _), Nat.zero_add, ← Array.getElem?_toList, h]
    exact flatN_at l i x hx j hj
  exact ⟨q 0 (by decide), q 1 (by decide), q 2 (by decide), q 3 (by decide), q 4 (by decide)⟩
theorem more_small {a a' : Nat} (h : a' = a) (hN : a ≤ 1000) : More 0 true a a' := by
  unfold More
  rw [if_pos rfl, Int.add_zero, h]
  unfold wrap64; omega

set_option maxRecDepth 100000 in
set_option maxHeartbeats 4000000 in
theorem cawake_any (w : World) (hEV : EV w) : Calls Tryz.prog 7 #[] w fun e w' => e = .returned (.bool true) ∧ Below w.heap.size w w' := by
  have cs := csch_awake w hEV
  unfold awT at cs
  have cv := fun W h => cval_awake W h
  have co := fun W h => cval_open W h
  go_enter Tryz.func7, Tryz.ntmps7
  go_wp2_with (first
    | (go_at_call 9; refine cs.mono ?_; rintro e w2 ⟨g1, c1, g2, c2, g3, c3, xA, xc, rfl, hb2, l1, l2, l3, k1, k2, k3⟩; have n1 : g1 ≠ w2.heap.size := by omega
       have n2 : g2 ≠ w2.heap.size := by omega
       have n3 : g3 ≠ w2.heap.size := by omega
       have a1 : w2.cell? ⟨g1, 1, none⟩ = some (.slice (some ⟨g2, 0, none⟩) 1 c2) := k1 1 _ rfl
       have b1 : w2.cell? ⟨g2, 1, none⟩ = some (.slice (some ⟨g3, 0, none⟩) 1 c3) := k2 1 _ rfl
       have d0 : w2.cell? ⟨g3, 0, none⟩ = some (.int .i64 1) := k3 0 _ rfl
       have d1 : w2.cell? ⟨g3, 1, none⟩ = some (.string ⟨#[120]⟩) := k3 1 _ rfl
       have d2 : w2.cell? ⟨g3, 2, none⟩ = some (.string ⟨#[]⟩) := k3 2 _ rfl
       have d3 : w2.cell? ⟨g3, 3, none⟩ = some (.string ⟨#[]⟩) := k3 3 _ rfl
       have d4 : w2.cell? ⟨g3, 4, none⟩ = some (.string ⟨#[]⟩) := k3 4 _ rfl
       have d5 : w2.cell? ⟨g3, 5, none⟩ = some (.string ⟨#[117, 105, 110, 116]⟩) := k3 5 _ rfl
       have d6 : w2.cell? ⟨g3, 6, none⟩ = some (.slice xA 0 xc) := k3 6 _ rfl
       have d7 : w2.cell? ⟨g3, 7, none⟩ = some (.int .i64 18) := k3 7 _ rfl
       have e2 := (((hEV.below hb2).new (.cells #[.slice (some ⟨g1, 0, none⟩) 1 c1] 27)).new (.cells #[.int .i64 1, .string ⟨#[120]⟩, .string ⟨#[]⟩, .string ⟨#[]⟩, .string ⟨#[]⟩, .string ⟨#[117, 105, 110, 116]⟩, .slice xA 0 xc, .int .i64 18] 51))
       have f2 := Lib.hid (((Below.refl _ w2).alloc (Nat.le_refl _) (.cells #[.slice (some ⟨g1, 0, none⟩) 1 c1] 27)).alloc (by simp) (.cells #[.int .i64 1, .string ⟨#[120]⟩, .string ⟨#[]⟩, .string ⟨#[]⟩, .string ⟨#[]⟩, .string ⟨#[117, 105, 110, 116]⟩, .slice xA 0 xc, .int .i64 18] 51))
       have q2 : Hid (CB ((w2.alloc (.cells #[.slice (some ⟨g1, 0, none⟩) 1 c1] 27)).alloc (.cells #[.int .i64 1, .string ⟨#[120]⟩, .string ⟨#[]⟩, .string ⟨#[]⟩, .string ⟨#[]⟩, .string ⟨#[117, 105, 110, 116]⟩, .slice xA 0 xc, .int .i64 18] 51)) (w2.heap.size + 1) 51 #[.int .i64 1, .string ⟨#[120]⟩, .string ⟨#[]⟩, .string ⟨#[]⟩, .string ⟨#[]⟩, .string ⟨#[117, 105, 110, 116]⟩, .slice xA 0 xc, .int .i64 18]) := cb_second _ _ _ _
       clear k1 k2 k3)
    | (go_at_call 12; (with_reducible refine (cv _ e2).mono ?_); rintro e w3 ⟨An, cn, rfl, hb3, H3⟩)
    | (go_at_call 12; (with_reducible refine (co _ (e2.below hb3)).mono ?_); rintro e w4 ⟨An', cn', rfl, hb4⟩
       have q4 := (q2.out.below hb3).below hb4
       have s0 : w4.cell? ⟨w2.heap.size + 1, 0, none⟩ = some (.int .i64 1) := q4.at_ 0
       have s1 : w4.cell? ⟨w2.heap.size + 1, 1, none⟩ = some (.string ⟨#[120]⟩) := q4.at_ 1
       have s5 : w4.cell? ⟨w2.heap.size + 1, 5, none⟩ = some (.string ⟨#[117, 105, 110, 116]⟩) := q4.at_ 5
       have s7 : w4.cell? ⟨w2.heap.size + 1, 7, none⟩ = some (.int .i64 18) := q4.at_ 7
       clear q4)
    | (go_at_call 14
       refine (nodes_any 0 true ((H3.out.then_ hb4).then_ ((Below.refl _ w4).alloc (Nat.le_refl _) _)) (nrow_new w4 _ [⟨1, 0, 1, [], 0⟩, ⟨1, 0, 2, [], 2⟩, ⟨7, 0, 0, [], 1⟩] _ rfl) (.cons ⟨rfl, rfl, rfl, rfl, more_small rfl (by decide)⟩ (.cons ⟨rfl, rfl, rfl, rfl, more_small rfl (by decide)⟩ (.cons ⟨rfl, rfl, rfl, rfl, more_small rfl (by decide)⟩ .nil))) (by decide)).mono ?_
       rintro e w5 ⟨rfl, hb5⟩))
  go_ret
  refine ⟨rfl, ?_⟩
  have g1 := Below.both hb2 f2.out
  have g2 := (Below.both g1 (hb3.mono (Nat.le_refl _)))
  have g3 := Below.both g2 hb4
  exact g3.trans ((((Below.refl _ w4).alloc (Nat.le_refl _) _).trans (hb5.mono (by simp))).mono g3.size)
end Go.Proofs.YtbngelinfpaefaaGreatDoor
