/- The walks of table's compares: isOf, EqualFunc of columns and fields. -/
import Derived.Test.YtnflbnchkcigiaaDoorTabMem
import Derived.Test.YtnflbnchkcigiaaDoorShelf
import Derived.BigQuiet
import Derived.Laws.StructEq
namespace Go.Proofs.YtnflbnchkcigiaaDoor
open Go.RowKit

/-- whether a field can be one of this column, as far as tag and kind tell it -/
def ofCo (c : Co) (f : Fd) : Bool := decide (f.t = c.t) && decide (f.v.k = c.k)
theorem beq_dec (a b : Int) : (a == b) = decide (a = b) := rfl

set_option maxRecDepth 100000 in
set_option maxHeartbeats 1000000 in
theorem isOf_any (w : World) (c : Co) (f : Fd) :
    Calls Tryd.prog 31 #[.agg (coC c), .agg (ffC f)] w fun e w' => e = .returned (.bool (ofCo c f)) ∧ Below w.heap.size w w' := by
  have hB : Below w.heap.size w ((w.alloc (.cells (coC c) 35)).alloc (.cells (ffC f) 53)) := ((Below.refl _ _).alloc (Nat.le_refl _) _).alloc (by simp) _
  obtain ⟨cn, ct, ck⟩ := c
  obtain ⟨t, v⟩ := f
  obtain ⟨k, n, s⟩ := v
  unfold coC ffC ofCo at *
  dsimp only at hB ⊢
  by_cases q1 : t = ct
  · by_cases q2 : k = ck
    · have e1 : (t == ct) = true := beq_iff_eq.2 q1
      have e2 : (k == ck) = true := beq_iff_eq.2 q2
      rw [decide_eq_true q1, decide_eq_true q2]
      clear q1 q2
      go_enter Tryd.func31, Tryd.ntmps31
      go_wp2
      go_ret
      exact ⟨rfl, hB⟩
    · have e1 : (t == ct) = true := beq_iff_eq.2 q1
      have e2 : (k == ck) = false := beq_eq_false_iff_ne.2 q2
      rw [decide_eq_true q1, decide_eq_false q2]
      clear q1 q2
      go_enter Tryd.func31, Tryd.ntmps31
      go_wp2
      go_ret
      exact ⟨rfl, hB⟩
  · have e1 : (t == ct) = false := beq_eq_false_iff_ne.2 q1
    rw [decide_eq_false q1]
    clear q1
    go_enter Tryd.func31, Tryd.ntmps31
    go_wp2
    go_ret
    exact ⟨rfl, hB⟩

set_option maxRecDepth 100000 in
set_option maxHeartbeats 2000000 in
theorem eqCF_any {w : World} {A A' : Option Addr} {a : List Co} {b : List Fd} (c c' : Nat) (ha : CoR w w.heap.size A a) (hb : FRow w w.heap.size A' b) (hl : a.length ≤ 140737488355328) (hl' : b.length ≤ 140737488355328) :
    Calls Tryd.prog 30 #[.slice A a.length c, .slice A' b.length c', .func (.func 31) #[] #[]] w fun e w' => e = .returned (.bool (eqL ofCo a b)) ∧ Below w.heap.size w w' := by
  have hen : ∀ args w, (callFunc 31 args).run Tryd.prog w = .ok (.enter 31 args) w := fun _ _ => rfl
  obtain ⟨S, hS⟩ : ∃ S, eqL ofCo a b = S := ⟨_, rfl⟩
  rw [hS]
  have HS := Lib.hid hS
  have HA := Lib.hid ha
  have HB := Lib.hid hb
  clear hS ha hb
  by_cases hlen : a.length = b.length
  · have hlb : ((a.length : Int) != (b.length : Int)) = false := by rw [hlen]; simp
    have HL := Lib.hid hlen
    clear hlen
    go_enter Tryd.func30, Tryd.ntmps30
    go_wp2
    go_loopw [17] (fun i wr => ∃ k : Nat, i = .int .i64 k ∧ k ≤ a.length ∧ Hid (UpL ofCo a b k) ∧ Below w.heap.size w wr) (fun i _ => a.length - (intOf i).toNat)
    case atStart => exact ⟨0, rfl, Nat.zero_le _, UpL.zero, Below.refl _ _⟩
    case round =>
      obtain ⟨k, rfl, hk, HT, hB⟩ := hrel
      by_cases hlt : k < a.length
      · have hltb : k < b.length := by have := HL.out; omega
        have hltz : (k : Int) < (a.length : Int) := by omega
        have hltz2 : (k : Int) < (b.length : Int) := by omega
        have k0 : (0 : Int) ≤ (k : Int) := by omega
        obtain ⟨x, hx⟩ : ∃ x, a[k]? = some x := ⟨a[k], List.getElem?_eq_getElem hlt⟩
        obtain ⟨y, hy⟩ : ∃ y, b[k]? = some y := ⟨b[k], List.getElem?_eq_getElem hltb⟩
        obtain ⟨ga, oa, rfl, hga, a0, a1, a2⟩ := CoR.cells (HA.out.below hB) hx
        have hrow : CoR wr w.heap.size (some ⟨ga, oa, none⟩) a := HA.out.below hB
        have hB1 : Below w.heap.size w (wr.alloc (.cells (coC x) 35)) := hB.alloc hB.size _
        obtain ⟨gb, ob, rfl, hgb, hcb⟩ := (HB.out.below hB1).at_ (by omega)
        obtain ⟨b0, b1, b2, b3⟩ := hcb k y hy
        have hB2 : Below w.heap.size w ((wr.alloc (.cells (coC x) 35)).alloc (.cells (ffC y) 53)) := hB1.alloc hB1.size _
        have HX := Lib.hid hx
        have HY := Lib.hid hy
        clear hcb hrow hx hy
        have cf := isOf_any ((wr.alloc (.cells (coC x) 35)).alloc (.cells (ffC y) 53)) x y
        cases hp : ofCo x y with
        | true =>
          rw [hp] at cf
          have HN := Lib.hid (HT.out.next HX.out HY.out hp)
          clear hp HX HY
          obtain ⟨xn, xt, xk⟩ := x
          obtain ⟨t, v⟩ := y
          obtain ⟨vk, vn, vs⟩ := v
          unfold coC ffC at *
          dsimp only at *
          go_wp2_with (go_at_fn 31; refine cf.mono ?_; rintro e w1 ⟨rfl, hb1⟩)
          go_roundw
          case rel => exact ⟨k + 1, by go_num, by omega, HN.out, hB2.trans (hb1.mono hB2.size)⟩
          case measure => simp [intOf]; omega
        | false =>
          rw [hp] at cf
          have HN := Lib.hid ((eqL_at HX.out HY.out hp).symm.trans HS.out)
          clear hp HX HY
          obtain ⟨xn, xt, xk⟩ := x
          obtain ⟨t, v⟩ := y
          obtain ⟨vk, vn, vs⟩ := v
          unfold coC ffC at *
          dsimp only at *
          go_wp2_with (go_at_fn 31; refine cf.mono ?_; rintro e w1 ⟨rfl, hb1⟩)
          go_ret
          exact ⟨ret_bool HN.out, hB2.trans (hb1.mono hB2.size)⟩
      · obtain rfl : k = a.length := by omega
        have HN := Lib.hid ((UpL.all HT.out HL.out).symm.trans HS.out)
        go_wp2
        go_ret
        exact ⟨ret_bool HN.out, hB⟩
  · have hlb : ((a.length : Int) != (b.length : Int)) = true := by simp; omega
    have HN := Lib.hid ((eqL_len hlen).symm.trans HS.out)
    clear hlen
    go_enter Tryd.func30, Tryd.ntmps30
    go_wp2
    go_ret
    exact ⟨ret_bool HN.out, Below.refl _ _⟩
end Go.Proofs.YtnflbnchkcigiaaDoor
