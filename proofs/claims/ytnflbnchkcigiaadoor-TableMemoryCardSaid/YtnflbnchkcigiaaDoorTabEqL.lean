/- The walks of the compares of columns and of steps, list by list. -/
import Derived.Test.YtnflbnchkcigiaaDoorTabMem
import Derived.Test.YtnflbnchkcigiaaDoorShelf
import Derived.BigQuiet
import Derived.Laws.StructEq
namespace Go.Proofs.YtnflbnchkcigiaaDoor
open Go.RowKit

theorem ba_ne {a b : ByteArray} (h : a ≠ b) : (a.toList == b.toList) = false := by
  rw [beq_eq_false_iff_ne]
  intro q
  rw [Lib.toList_data, Lib.toList_data] at q
  exact h (by
    obtain ⟨⟨a⟩⟩ := a
    obtain ⟨⟨b⟩⟩ := b
    simp only at q
    rw [q])
theorem ba_eq {a b : ByteArray} (h : a = b) : (a.toList == b.toList) = true := by rw [h]; exact beq_self_eq_true _
theorem i_ne {a b : Int} (h : a ≠ b) : (a == b) = false := beq_eq_false_iff_ne.2 h
theorem i_eq {a b : Int} (h : a = b) : (a == b) = true := beq_iff_eq.2 h

theorem first_Co {x y : Co} (h : x ≠ y) : (((x.n.toList == y.n.toList) = false)) ∨ (((x.n.toList == y.n.toList) = true) ∧ ((x.t == y.t) = false)) ∨ (((x.n.toList == y.n.toList) = true) ∧ ((x.t == y.t) = true) ∧ ((x.k == y.k) = false)) := by
  by_cases e0 : x.n = y.n
  case neg => exact (.inl (ba_ne e0))
  by_cases e1 : x.t = y.t
  case neg => exact (.inr (.inl ⟨ba_eq e0, (i_ne e1)⟩))
  by_cases e2 : x.k = y.k
  case neg => exact (.inr (.inr ⟨ba_eq e0, i_eq e1, (i_ne e2)⟩))
  exact absurd (by cases x; cases y; simp_all) h
theorem first_Sp {x y : Sp} (h : x ≠ y) : (((x.k == y.k) = false)) ∨ (((x.k == y.k) = true) ∧ ((x.a == y.a) = false)) ∨ (((x.k == y.k) = true) ∧ ((x.a == y.a) = true) ∧ ((x.b == y.b) = false)) ∨ (((x.k == y.k) = true) ∧ ((x.a == y.a) = true) ∧ ((x.b == y.b) = true) ∧ ((x.c == y.c) = false)) ∨ (((x.k == y.k) = true) ∧ ((x.a == y.a) = true) ∧ ((x.b == y.b) = true) ∧ ((x.c == y.c) = true) ∧ ((x.s.toList == y.s.toList) = false)) ∨ (((x.k == y.k) = true) ∧ ((x.a == y.a) = true) ∧ ((x.b == y.b) = true) ∧ ((x.c == y.c) = true) ∧ ((x.s.toList == y.s.toList) = true) ∧ ((x.cv == y.cv) = false)) ∨ (((x.k == y.k) = true) ∧ ((x.a == y.a) = true) ∧ ((x.b == y.b) = true) ∧ ((x.c == y.c) = true) ∧ ((x.s.toList == y.s.toList) = true) ∧ ((x.cv == y.cv) = true) ∧ ((x.v.k == y.v.k) = false)) ∨ (((x.k == y.k) = true) ∧ ((x.a == y.a) = true) ∧ ((x.b == y.b) = true) ∧ ((x.c == y.c) = true) ∧ ((x.s.toList == y.s.toList) = true) ∧ ((x.cv == y.cv) = true) ∧ ((x.v.k == y.v.k) = true) ∧ ((x.v.n == y.v.n) = false)) ∨ (((x.k == y.k) = true) ∧ ((x.a == y.a) = true) ∧ ((x.b == y.b) = true) ∧ ((x.c == y.c) = true) ∧ ((x.s.toList == y.s.toList) = true) ∧ ((x.cv == y.cv) = true) ∧ ((x.v.k == y.v.k) = true) ∧ ((x.v.n == y.v.n) = true) ∧ ((x.v.s.toList == y.v.s.toList) = false)) := by
  by_cases e0 : x.k = y.k
  case neg => exact (.inl (i_ne e0))
  by_cases e1 : x.a = y.a
  case neg => exact (.inr (.inl ⟨i_eq e0, (i_ne e1)⟩))
  by_cases e2 : x.b = y.b
  case neg => exact (.inr (.inr (.inl ⟨i_eq e0, i_eq e1, (i_ne e2)⟩)))
  by_cases e3 : x.c = y.c
  case neg => exact (.inr (.inr (.inr (.inl ⟨i_eq e0, i_eq e1, i_eq e2, (i_ne e3)⟩))))
  by_cases e4 : x.s = y.s
  case neg => exact (.inr (.inr (.inr (.inr (.inl ⟨i_eq e0, i_eq e1, i_eq e2, i_eq e3, (ba_ne e4)⟩)))))
  by_cases e5 : x.cv = y.cv
  case neg => exact (.inr (.inr (.inr (.inr (.inr (.inl ⟨i_eq e0, i_eq e1, i_eq e2, i_eq e3, ba_eq e4, (i_ne e5)⟩))))))
  by_cases e6 : x.v.k = y.v.k
  case neg => exact (.inr (.inr (.inr (.inr (.inr (.inr (.inl ⟨i_eq e0, i_eq e1, i_eq e2, i_eq e3, ba_eq e4, i_eq e5, (i_ne e6)⟩)))))))
  by_cases e7 : x.v.n = y.v.n
  case neg => exact (.inr (.inr (.inr (.inr (.inr (.inr (.inr (.inl ⟨i_eq e0, i_eq e1, i_eq e2, i_eq e3, ba_eq e4, i_eq e5, i_eq e6, (i_ne e7)⟩))))))))
  by_cases e8 : x.v.s = y.v.s
  case neg => exact (.inr (.inr (.inr (.inr (.inr (.inr (.inr (.inr ⟨i_eq e0, i_eq e1, i_eq e2, i_eq e3, ba_eq e4, i_eq e5, i_eq e6, i_eq e7, (ba_ne e8)⟩))))))))
  refine absurd ?_ h
  obtain ⟨x1, x2, x3, x4, x5, x6, ⟨x7, x8, x9⟩⟩ := x
  obtain ⟨y1, y2, y3, y4, y5, y6, ⟨y7, y8, y9⟩⟩ := y
  simp_all

set_option maxRecDepth 100000 in
set_option maxHeartbeats 4000000 in
theorem eqCo_any {w : World} {B B' : Nat} {A A' : Option Addr} {a b : List Co} (c c' : Nat) (ha : CoR w B A a) (hb : CoR w B' A' b) (hl : a.length ≤ 140737488355328) (_hl' : b.length ≤ 140737488355328) :
    Calls Tryd.prog 66 #[.slice A a.length c, .slice A' b.length c'] w fun e w' => e = .returned (.bool (same a b)) ∧ Below w.heap.size w w' := by
  obtain ⟨S, hS⟩ : ∃ S, same a b = S := ⟨_, rfl⟩
  rw [hS]
  rw [← eqL_same] at hS
  have HS := Lib.hid hS
  have HA := Lib.hid ha
  have HB := Lib.hid hb
  clear hS ha hb
  by_cases hlen : a.length = b.length
  · have hlb : ((a.length : Int) != (b.length : Int)) = false := by rw [hlen]; simp
    have HL := Lib.hid hlen
    clear hlen
    go_enter Tryd.func66, Tryd.ntmps66
    go_wp2
    go_loopw [13] (fun i wr => ∃ k : Nat, i = .int .i64 k ∧ k ≤ a.length ∧ Hid (UpL same a b k) ∧ ∃ d, wr = w.drewN d) (fun i _ => a.length - (intOf i).toNat)
    case atStart => exact ⟨0, rfl, Nat.zero_le _, UpL.zero, 0, rfl⟩
    case round =>
      obtain ⟨k, rfl, hk, HT, d, rfl⟩ := hrel
      by_cases hlt : k < a.length
      · have hltb : k < b.length := by have := HL.out; omega
        have hltz : (k : Int) < (a.length : Int) := by omega
        have hltz2 : (k : Int) < (b.length : Int) := by omega
        have k0 : (0 : Int) ≤ (k : Int) := by omega
        obtain ⟨x, hx⟩ : ∃ x, a[k]? = some x := ⟨a[k], List.getElem?_eq_getElem hlt⟩
        obtain ⟨y, hy⟩ : ∃ y, b[k]? = some y := ⟨b[k], List.getElem?_eq_getElem hltb⟩
        obtain ⟨ga, oa, rfl, _, a0, a1, a2⟩ := CoR.cells HA.out hx
        obtain ⟨gb, ob, rfl, _, b0, b1, b2⟩ := CoR.cells HB.out hy
        have a0' : (w.drewN d).cell? ⟨ga, oa + k * 3, none⟩ = some (.string x.n) := a0
        have a1' : (w.drewN d).cell? ⟨ga, oa + k * 3 + 1, none⟩ = some (.int .i64 x.t) := a1
        have a2' : (w.drewN d).cell? ⟨ga, oa + k * 3 + 2, none⟩ = some (.int .i64 x.k) := a2
        have b0' : (w.drewN d).cell? ⟨gb, ob + k * 3, none⟩ = some (.string y.n) := b0
        have b1' : (w.drewN d).cell? ⟨gb, ob + k * 3 + 1, none⟩ = some (.int .i64 y.t) := b1
        have b2' : (w.drewN d).cell? ⟨gb, ob + k * 3 + 2, none⟩ = some (.int .i64 y.k) := b2
        have HX := Lib.hid hx
        have HY := Lib.hid hy
        clear hx hy
        by_cases hxy : x = y
        · subst hxy
          have HN := Lib.hid (HT.out.next HX.out HY.out (same_self _))
          clear HX HY
          obtain ⟨x1, x2, x3⟩ := x
          dsimp only at *
          go_wp2
          go_quiet (fail)
          go_wp2
          go_roundw
          case rel => exact ⟨k + 1, by go_num, by omega, HN.out, _, rfl⟩
          case measure => simp [intOf]; omega
        · have HN := Lib.hid ((eqL_at HX.out HY.out (same_ne hxy)).symm.trans HS.out)
          have hf := first_Co hxy
          clear HX HY hxy
          obtain ⟨x1, x2, x3⟩ := x
          obtain ⟨y1, y2, y3⟩ := y
          dsimp only at *
          rcases hf with f0 | ⟨f0, f1⟩ | ⟨f0, f1, f2⟩
          all_goals
            go_wp2
            go_quiet (fail)
            go_wp2
            go_ret
            exact ⟨ret_bool HN.out, Below.thenN (Below.newN w d) _⟩
      · obtain rfl : k = a.length := by omega
        have HN := Lib.hid ((UpL.all HT.out HL.out).symm.trans HS.out)
        go_wp2
        go_ret
        exact ⟨ret_bool HN.out, Below.newN w _⟩
  · have hlb : ((a.length : Int) != (b.length : Int)) = true := by simp; omega
    have HN := Lib.hid ((eqL_len hlen).symm.trans HS.out)
    clear hlen
    go_enter Tryd.func66, Tryd.ntmps66
    go_wp2
    go_ret
    exact ⟨ret_bool HN.out, Below.refl _ _⟩

set_option maxRecDepth 100000 in
set_option maxHeartbeats 4000000 in
theorem eqSp_any {w : World} {B B' : Nat} {A A' : Option Addr} {a b : List Sp} (c c' : Nat) (ha : SpR w B A a) (hb : SpR w B' A' b) (hl : a.length ≤ 140737488355328) (_hl' : b.length ≤ 140737488355328) :
    Calls Tryd.prog 65 #[.slice A a.length c, .slice A' b.length c'] w fun e w' => e = .returned (.bool (same a b)) ∧ Below w.heap.size w w' := by
  obtain ⟨S, hS⟩ : ∃ S, same a b = S := ⟨_, rfl⟩
  rw [hS]
  rw [← eqL_same] at hS
  have HS := Lib.hid hS
  have HA := Lib.hid ha
  have HB := Lib.hid hb
  clear hS ha hb
  by_cases hlen : a.length = b.length
  · have hlb : ((a.length : Int) != (b.length : Int)) = false := by rw [hlen]; simp
    have HL := Lib.hid hlen
    clear hlen
    go_enter Tryd.func65, Tryd.ntmps65
    go_wp2
    go_loopw [13] (fun i wr => ∃ k : Nat, i = .int .i64 k ∧ k ≤ a.length ∧ Hid (UpL same a b k) ∧ ∃ d, wr = w.drewN d) (fun i _ => a.length - (intOf i).toNat)
    case atStart => exact ⟨0, rfl, Nat.zero_le _, UpL.zero, 0, rfl⟩
    case round =>
      obtain ⟨k, rfl, hk, HT, d, rfl⟩ := hrel
      by_cases hlt : k < a.length
      · have hltb : k < b.length := by have := HL.out; omega
        have hltz : (k : Int) < (a.length : Int) := by omega
        have hltz2 : (k : Int) < (b.length : Int) := by omega
        have k0 : (0 : Int) ≤ (k : Int) := by omega
        obtain ⟨x, hx⟩ : ∃ x, a[k]? = some x := ⟨a[k], List.getElem?_eq_getElem hlt⟩
        obtain ⟨y, hy⟩ : ∃ y, b[k]? = some y := ⟨b[k], List.getElem?_eq_getElem hltb⟩
        obtain ⟨ga, oa, rfl, _, a0, a1, a2, a3, a4, a5, a6, a7, a8⟩ := SpR.cells HA.out hx
        obtain ⟨gb, ob, rfl, _, b0, b1, b2, b3, b4, b5, b6, b7, b8⟩ := SpR.cells HB.out hy
        have a0' : (w.drewN d).cell? ⟨ga, oa + k * 9, none⟩ = some (.int .i64 x.k) := a0
        have a1' : (w.drewN d).cell? ⟨ga, oa + k * 9 + 1, none⟩ = some (.int .i64 x.a) := a1
        have a2' : (w.drewN d).cell? ⟨ga, oa + k * 9 + 2, none⟩ = some (.int .i64 x.b) := a2
        have a3' : (w.drewN d).cell? ⟨ga, oa + k * 9 + 3, none⟩ = some (.int .i64 x.c) := a3
        have a4' : (w.drewN d).cell? ⟨ga, oa + k * 9 + 4, none⟩ = some (.string x.s) := a4
        have a5' : (w.drewN d).cell? ⟨ga, oa + k * 9 + 5, none⟩ = some (.int .i64 x.cv) := a5
        have a6' : (w.drewN d).cell? ⟨ga, oa + k * 9 + 6, none⟩ = some (.int .i64 x.v.k) := a6
        have a7' : (w.drewN d).cell? ⟨ga, oa + k * 9 + 7, none⟩ = some (.int .u64 x.v.n) := a7
        have a8' : (w.drewN d).cell? ⟨ga, oa + k * 9 + 8, none⟩ = some (.string x.v.s) := a8
        have b0' : (w.drewN d).cell? ⟨gb, ob + k * 9, none⟩ = some (.int .i64 y.k) := b0
        have b1' : (w.drewN d).cell? ⟨gb, ob + k * 9 + 1, none⟩ = some (.int .i64 y.a) := b1
        have b2' : (w.drewN d).cell? ⟨gb, ob + k * 9 + 2, none⟩ = some (.int .i64 y.b) := b2
        have b3' : (w.drewN d).cell? ⟨gb, ob + k * 9 + 3, none⟩ = some (.int .i64 y.c) := b3
        have b4' : (w.drewN d).cell? ⟨gb, ob + k * 9 + 4, none⟩ = some (.string y.s) := b4
        have b5' : (w.drewN d).cell? ⟨gb, ob + k * 9 + 5, none⟩ = some (.int .i64 y.cv) := b5
        have b6' : (w.drewN d).cell? ⟨gb, ob + k * 9 + 6, none⟩ = some (.int .i64 y.v.k) := b6
        have b7' : (w.drewN d).cell? ⟨gb, ob + k * 9 + 7, none⟩ = some (.int .u64 y.v.n) := b7
        have b8' : (w.drewN d).cell? ⟨gb, ob + k * 9 + 8, none⟩ = some (.string y.v.s) := b8
        have HX := Lib.hid hx
        have HY := Lib.hid hy
        clear hx hy
        by_cases hxy : x = y
        · subst hxy
          have HN := Lib.hid (HT.out.next HX.out HY.out (same_self _))
          clear HX HY
          obtain ⟨x1, x2, x3, x4, x5, x6, ⟨x7, x8, x9⟩⟩ := x
          dsimp only at *
          go_wp2
          go_quiet (fail)
          go_wp2
          go_roundw
          case rel => exact ⟨k + 1, by go_num, by omega, HN.out, _, rfl⟩
          case measure => simp [intOf]; omega
        · have HN := Lib.hid ((eqL_at HX.out HY.out (same_ne hxy)).symm.trans HS.out)
          have hf := first_Sp hxy
          clear HX HY hxy
          obtain ⟨x1, x2, x3, x4, x5, x6, ⟨x7, x8, x9⟩⟩ := x
          obtain ⟨y1, y2, y3, y4, y5, y6, ⟨y7, y8, y9⟩⟩ := y
          dsimp only at *
          rcases hf with f0 | ⟨f0, f1⟩ | ⟨f0, f1, f2⟩ | ⟨f0, f1, f2, f3⟩ | ⟨f0, f1, f2, f3, f4⟩ | ⟨f0, f1, f2, f3, f4, f5⟩ | ⟨f0, f1, f2, f3, f4, f5, f6⟩ | ⟨f0, f1, f2, f3, f4, f5, f6, f7⟩ | ⟨f0, f1, f2, f3, f4, f5, f6, f7, f8⟩
          all_goals
            go_wp2
            go_quiet (fail)
            go_wp2
            go_ret
            exact ⟨ret_bool HN.out, Below.thenN (Below.newN w d) _⟩
      · obtain rfl : k = a.length := by omega
        have HN := Lib.hid ((UpL.all HT.out HL.out).symm.trans HS.out)
        go_wp2
        go_ret
        exact ⟨ret_bool HN.out, Below.newN w _⟩
  · have hlb : ((a.length : Int) != (b.length : Int)) = true := by simp; omega
    have HN := Lib.hid ((eqL_len hlen).symm.trans HS.out)
    clear hlen
    go_enter Tryd.func65, Tryd.ntmps65
    go_wp2
    go_ret
    exact ⟨ret_bool HN.out, Below.refl _ _⟩
end Go.Proofs.YtnflbnchkcigiaaDoor
