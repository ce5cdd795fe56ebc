/- The walks of the statements' and the reference's compares of columns and of steps. -/
import Derived.Test.YtnflbnchkcigiaaDoorTabEqL
namespace Go.Proofs.YtnflbnchkcigiaaDoor
open Go.RowKit


set_option maxRecDepth 100000 in
set_option maxHeartbeats 4000000 in
theorem lsame_any {w : World} {B B' : Nat} {A A' : Option Addr} {a b : List Co} (c c' : Nat) (ha : CoR w B A a) (hb : CoR w B' A' b) (hl : a.length ≤ 140737488355328) (_hl' : b.length ≤ 140737488355328) :
    Calls Tryd.prog 15 #[.slice A a.length c, .slice A' b.length c'] w fun e w' => e = .returned (.bool (same a b)) ∧ Below w.heap.size w w' := by
  obtain ⟨S, hS⟩ : ∃ S, same a b = S := ⟨_, rfl⟩
  rw [hS]
  rw [← eqL_same] at hS
  have HS := Lib.hid hS
  have HA := Lib.hid ha
  have HB := Lib.hid hb
  clear hS ha hb
  by_cases hlen : a.length = b.length
  · have hlb : ((a.length : Int) != (b.length : Int)) = false := by rw [hlen]; simp
    have HL := Lib.hid hlen
    clear hlen
    go_enter Tryd.func15, Tryd.ntmps15
    go_wp2
    go_loopw [5] (fun i wr => ∃ k : Nat, i = .int .i64 k ∧ k ≤ a.length ∧ Hid (UpL same a b k) ∧ ∃ d, wr = w.drewN d) (fun i _ => a.length - (intOf i).toNat)
    case atStart => exact ⟨0, rfl, Nat.zero_le _, UpL.zero, 0, rfl⟩
    case round =>
      obtain ⟨k, rfl, hk, HT, d, rfl⟩ := hrel
      by_cases hlt : k < a.length
      · have hltb : k < b.length := by have := HL.out; omega
        have hltz : (k : Int) < (a.length : Int) := by omega
        have hltz2 : (k : Int) < (b.length : Int) := by omega
        have k0 : (0 : Int) ≤ (k : Int) := by omega
        obtain ⟨x, hx⟩ : ∃ x, a[k]? = some x := ⟨a[k], List.getElem?_eq_getElem hlt⟩
        obtain ⟨y, hy⟩ : ∃ y, b[k]? = some y := ⟨b[k], List.getElem?_eq_getElem hltb⟩
        obtain ⟨ga, oa, rfl, _, a0, a1, a2⟩ := CoR.cells HA.out hx
        obtain ⟨gb, ob, rfl, _, b0, b1, b2⟩ := CoR.cells HB.out hy
        have a0' : (w.drewN d).cell? ⟨ga, oa + k * 3, none⟩ = some (.string x.n) := a0
        have a1' : (w.drewN d).cell? ⟨ga, oa + k * 3 + 1, none⟩ = some (.int .i64 x.t) := a1
        have a2' : (w.drewN d).cell? ⟨ga, oa + k * 3 + 2, none⟩ = some (.int .i64 x.k) := a2
        have b0' : (w.drewN d).cell? ⟨gb, ob + k * 3, none⟩ = some (.string y.n) := b0
        have b1' : (w.drewN d).cell? ⟨gb, ob + k * 3 + 1, none⟩ = some (.int .i64 y.t) := b1
        have b2' : (w.drewN d).cell? ⟨gb, ob + k * 3 + 2, none⟩ = some (.int .i64 y.k) := b2
        have HX := Lib.hid hx
        have HY := Lib.hid hy
        clear hx hy
        by_cases hxy : x = y
        · subst hxy
          have HN := Lib.hid (HT.out.next HX.out HY.out (same_self _))
          clear HX HY
          obtain ⟨x1, x2, x3⟩ := x
          dsimp only at *
          go_wp2
          go_quiet (fail)
          go_wp2
          go_roundw
          case rel => exact ⟨k + 1, by go_num, by omega, HN.out, _, rfl⟩
          case measure => simp [intOf]; omega
        · have HN := Lib.hid ((eqL_at HX.out HY.out (same_ne hxy)).symm.trans HS.out)
          have hf := first_Co hxy
          clear HX HY hxy
          obtain ⟨x1, x2, x3⟩ := x
          obtain ⟨y1, y2, y3⟩ := y
          dsimp only at *
          rcases hf with f0 | ⟨f0, f1⟩ | ⟨f0, f1, f2⟩
          all_goals
            go_wp2
            go_quiet (fail)
            go_wp2
            go_ret
            exact ⟨ret_bool HN.out, Below.thenN (Below.newN w d) _⟩
      · obtain rfl : k = a.length := by omega
        have HN := Lib.hid ((UpL.all HT.out HL.out).symm.trans HS.out)
        go_wp2
        go_ret
        exact ⟨ret_bool HN.out, Below.newN w _⟩
  · have hlb : ((a.length : Int) != (b.length : Int)) = true := by simp; omega
    have HN := Lib.hid ((eqL_len hlen).symm.trans HS.out)
    clear hlen
    go_enter Tryd.func15, Tryd.ntmps15
    go_wp2
    go_ret
    exact ⟨ret_bool HN.out, Below.refl _ _⟩

set_option maxRecDepth 100000 in
set_option maxHeartbeats 4000000 in
theorem rcols_any {w : World} {B B' : Nat} {A A' : Option Addr} {a b : List Co} (c c' : Nat) (ha : CoR w B A a) (hb : CoR w B' A' b) (hl : a.length ≤ 140737488355328) (_hl' : b.length ≤ 140737488355328) :
    Calls Tryd.prog 38 #[.slice A a.length c, .slice A' b.length c'] w fun e w' => e = .returned (.bool (same a b)) ∧ Below w.heap.size w w' := by
  obtain ⟨S, hS⟩ : ∃ S, same a b = S := ⟨_, rfl⟩
  rw [hS]
  rw [← eqL_same] at hS
  have HS := Lib.hid hS
  have HA := Lib.hid ha
  have HB := Lib.hid hb
  clear hS ha hb
  by_cases hlen : a.length = b.length
  · have hlb : ((a.length : Int) != (b.length : Int)) = false := by rw [hlen]; simp
    have HL := Lib.hid hlen
    clear hlen
    go_enter Tryd.func38, Tryd.ntmps38
    go_wp2
    go_loopw [5] (fun i wr => ∃ k : Nat, i = .int .i64 k ∧ k ≤ a.length ∧ Hid (UpL same a b k) ∧ ∃ d, wr = w.drewN d) (fun i _ => a.length - (intOf i).toNat)
    case atStart => exact ⟨0, rfl, Nat.zero_le _, UpL.zero, 0, rfl⟩
    case round =>
      obtain ⟨k, rfl, hk, HT, d, rfl⟩ := hrel
      by_cases hlt : k < a.length
      · have hltb : k < b.length := by have := HL.out; omega
        have hltz : (k : Int) < (a.length : Int) := by omega
        have hltz2 : (k : Int) < (b.length : Int) := by omega
        have k0 : (0 : Int) ≤ (k : Int) := by omega
        obtain ⟨x, hx⟩ : ∃ x, a[k]? = some x := ⟨a[k], List.getElem?_eq_getElem hlt⟩
        obtain ⟨y, hy⟩ : ∃ y, b[k]? = some y := ⟨b[k], List.getElem?_eq_getElem hltb⟩
        obtain ⟨ga, oa, rfl, _, a0, a1, a2⟩ := CoR.cells HA.out hx
        obtain ⟨gb, ob, rfl, _, b0, b1, b2⟩ := CoR.cells HB.out hy
        have a0' : (w.drewN d).cell? ⟨ga, oa + k * 3, none⟩ = some (.string x.n) := a0
        have a1' : (w.drewN d).cell? ⟨ga, oa + k * 3 + 1, none⟩ = some (.int .i64 x.t) := a1
        have a2' : (w.drewN d).cell? ⟨ga, oa + k * 3 + 2, none⟩ = some (.int .i64 x.k) := a2
        have b0' : (w.drewN d).cell? ⟨gb, ob + k * 3, none⟩ = some (.string y.n) := b0
        have b1' : (w.drewN d).cell? ⟨gb, ob + k * 3 + 1, none⟩ = some (.int .i64 y.t) := b1
        have b2' : (w.drewN d).cell? ⟨gb, ob + k * 3 + 2, none⟩ = some (.int .i64 y.k) := b2
        have HX := Lib.hid hx
        have HY := Lib.hid hy
        clear hx hy
        by_cases hxy : x = y
        · subst hxy
          have HN := Lib.hid (HT.out.next HX.out HY.out (same_self _))
          clear HX HY
          obtain ⟨x1, x2, x3⟩ := x
          dsimp only at *
          go_wp2
          go_quiet (fail)
          go_wp2
          go_roundw
          case rel => exact ⟨k + 1, by go_num, by omega, HN.out, _, rfl⟩
          case measure => simp [intOf]; omega
        · have HN := Lib.hid ((eqL_at HX.out HY.out (same_ne hxy)).symm.trans HS.out)
          have hf := first_Co hxy
          clear HX HY hxy
          obtain ⟨x1, x2, x3⟩ := x
          obtain ⟨y1, y2, y3⟩ := y
          dsimp only at *
          rcases hf with f0 | ⟨f0, f1⟩ | ⟨f0, f1, f2⟩
          all_goals
            go_wp2
            go_quiet (fail)
            go_wp2
            go_ret
            exact ⟨ret_bool HN.out, Below.thenN (Below.newN w d) _⟩
      · obtain rfl : k = a.length := by omega
        have HN := Lib.hid ((UpL.all HT.out HL.out).symm.trans HS.out)
        go_wp2
        go_ret
        exact ⟨ret_bool HN.out, Below.newN w _⟩
  · have hlb : ((a.length : Int) != (b.length : Int)) = true := by simp; omega
    have HN := Lib.hid ((eqL_len hlen).symm.trans HS.out)
    clear hlen
    go_enter Tryd.func38, Tryd.ntmps38
    go_wp2
    go_ret
    exact ⟨ret_bool HN.out, Below.refl _ _⟩

set_option maxRecDepth 100000 in
set_option maxHeartbeats 4000000 in
theorem rsteps_any {w : World} {B B' : Nat} {A A' : Option Addr} {a b : List Sp} (c c' : Nat) (ha : SpR w B A a) (hb : SpR w B' A' b) (hl : a.length ≤ 140737488355328) (_hl' : b.length ≤ 140737488355328) :
    Calls Tryd.prog 37 #[.slice A a.length c, .slice A' b.length c'] w fun e w' => e = .returned (.bool (same a b)) ∧ Below w.heap.size w w' := by
  obtain ⟨S, hS⟩ : ∃ S, same a b = S := ⟨_, rfl⟩
  rw [hS]
  rw [← eqL_same] at hS
  have HS := Lib.hid hS
  have HA := Lib.hid ha
  have HB := Lib.hid hb
  clear hS ha hb
  by_cases hlen : a.length = b.length
  · have hlb : ((a.length : Int) != (b.length : Int)) = false := by rw [hlen]; simp
    have HL := Lib.hid hlen
    clear hlen
    go_enter Tryd.func37, Tryd.ntmps37
    go_wp2
    go_loopw [5] (fun i wr => ∃ k : Nat, i = .int .i64 k ∧ k ≤ a.length ∧ Hid (UpL same a b k) ∧ ∃ d, wr = w.drewN d) (fun i _ => a.length - (intOf i).toNat)
    case atStart => exact ⟨0, rfl, Nat.zero_le _, UpL.zero, 0, rfl⟩
    case round =>
      obtain ⟨k, rfl, hk, HT, d, rfl⟩ := hrel
      by_cases hlt : k < a.length
      · have hltb : k < b.length := by have := HL.out; omega
        have hltz : (k : Int) < (a.length : Int) := by omega
        have hltz2 : (k : Int) < (b.length : Int) := by omega
        have k0 : (0 : Int) ≤ (k : Int) := by omega
        obtain ⟨x, hx⟩ : ∃ x, a[k]? = some x := ⟨a[k], List.getElem?_eq_getElem hlt⟩
        obtain ⟨y, hy⟩ : ∃ y, b[k]? = some y := ⟨b[k], List.getElem?_eq_getElem hltb⟩
        obtain ⟨ga, oa, rfl, _, a0, a1, a2, a3, a4, a5, a6, a7, a8⟩ := SpR.cells HA.out hx
        obtain ⟨gb, ob, rfl, _, b0, b1, b2, b3, b4, b5, b6, b7, b8⟩ := SpR.cells HB.out hy
        have a0' : (w.drewN d).cell? ⟨ga, oa + k * 9, none⟩ = some (.int .i64 x.k) := a0
        have a1' : (w.drewN d).cell? ⟨ga, oa + k * 9 + 1, none⟩ = some (.int .i64 x.a) := a1
        have a2' : (w.drewN d).cell? ⟨ga, oa + k * 9 + 2, none⟩ = some (.int .i64 x.b) := a2
        have a3' : (w.drewN d).cell? ⟨ga, oa + k * 9 + 3, none⟩ = some (.int .i64 x.c) := a3
        have a4' : (w.drewN d).cell? ⟨ga, oa + k * 9 + 4, none⟩ = some (.string x.s) := a4
        have a5' : (w.drewN d).cell? ⟨ga, oa + k * 9 + 5, none⟩ = some (.int .i64 x.cv) := a5
        have a6' : (w.drewN d).cell? ⟨ga, oa + k * 9 + 6, none⟩ = some (.int .i64 x.v.k) := a6
        have a7' : (w.drewN d).cell? ⟨ga, oa + k * 9 + 7, none⟩ = some (.int .u64 x.v.n) := a7
        have a8' : (w.drewN d).cell? ⟨ga, oa + k * 9 + 8, none⟩ = some (.string x.v.s) := a8
        have b0' : (w.drewN d).cell? ⟨gb, ob + k * 9, none⟩ = some (.int .i64 y.k) := b0
        have b1' : (w.drewN d).cell? ⟨gb, ob + k * 9 + 1, none⟩ = some (.int .i64 y.a) := b1
        have b2' : (w.drewN d).cell? ⟨gb, ob + k * 9 + 2, none⟩ = some (.int .i64 y.b) := b2
        have b3' : (w.drewN d).cell? ⟨gb, ob + k * 9 + 3, none⟩ = some (.int .i64 y.c) := b3
        have b4' : (w.drewN d).cell? ⟨gb, ob + k * 9 + 4, none⟩ = some (.string y.s) := b4
        have b5' : (w.drewN d).cell? ⟨gb, ob + k * 9 + 5, none⟩ = some (.int .i64 y.cv) := b5
        have b6' : (w.drewN d).cell? ⟨gb, ob + k * 9 + 6, none⟩ = some (.int .i64 y.v.k) := b6
        have b7' : (w.drewN d).cell? ⟨gb, ob + k * 9 + 7, none⟩ = some (.int .u64 y.v.n) := b7
        have b8' : (w.drewN d).cell? ⟨gb, ob + k * 9 + 8, none⟩ = some (.string y.v.s) := b8
        have HX := Lib.hid hx
        have HY := Lib.hid hy
        clear hx hy
        by_cases hxy : x = y
        · subst hxy
          have HN := Lib.hid (HT.out.next HX.out HY.out (same_self _))
          clear HX HY
          obtain ⟨x1, x2, x3, x4, x5, x6, ⟨x7, x8, x9⟩⟩ := x
          dsimp only at *
          go_wp2
          go_quiet (fail)
          go_wp2
          go_roundw
          case rel => exact ⟨k + 1, by go_num, by omega, HN.out, _, rfl⟩
          case measure => simp [intOf]; omega
        · have HN := Lib.hid ((eqL_at HX.out HY.out (same_ne hxy)).symm.trans HS.out)
          have hf := first_Sp hxy
          clear HX HY hxy
          obtain ⟨x1, x2, x3, x4, x5, x6, ⟨x7, x8, x9⟩⟩ := x
          obtain ⟨y1, y2, y3, y4, y5, y6, ⟨y7, y8, y9⟩⟩ := y
          dsimp only at *
          rcases hf with f0 | ⟨f0, f1⟩ | ⟨f0, f1, f2⟩ | ⟨f0, f1, f2, f3⟩ | ⟨f0, f1, f2, f3, f4⟩ | ⟨f0, f1, f2, f3, f4, f5⟩ | ⟨f0, f1, f2, f3, f4, f5, f6⟩ | ⟨f0, f1, f2, f3, f4, f5, f6, f7⟩ | ⟨f0, f1, f2, f3, f4, f5, f6, f7, f8⟩
          all_goals
            go_wp2
            go_quiet (fail)
            go_wp2
            go_ret
            exact ⟨ret_bool HN.out, Below.thenN (Below.newN w d) _⟩
      · obtain rfl : k = a.length := by omega
        have HN := Lib.hid ((UpL.all HT.out HL.out).symm.trans HS.out)
        go_wp2
        go_ret
        exact ⟨ret_bool HN.out, Below.newN w _⟩
  · have hlb : ((a.length : Int) != (b.length : Int)) = true := by simp; omega
    have HN := Lib.hid ((eqL_len hlen).symm.trans HS.out)
    clear hlen
    go_enter Tryd.func37, Tryd.ntmps37
    go_wp2
    go_ret
    exact ⟨ret_bool HN.out, Below.refl _ _⟩
end Go.Proofs.YtnflbnchkcigiaaDoor
