/- The walk of ExprValues. -/
import Derived.Test.YtmbiompmhaiehaaDoorExRValue
import Derived.Test.YtmbiompmhaiehaaDoorExRGood
import Derived.Test.YtmbiompmhaiehaaDoorExAw
namespace Go.Proofs.YtmbiompmhaiehaaDoor
open Go.RowKit

set_option maxRecDepth 100000 in
set_option maxHeartbeats 4000000 in
theorem valuesE_any {w : World} {A : Option Addr} {c : Nat} {N : List Rn} {k : Int} (hK : KSt w w) (hR : RN w w.heap.size A N) (hF : Few N) :
    Calls Tryd.prog 5 #[.slice A N.length c, .int .i64 k] w fun e w' => e = .returned (.bool true) ∧ Below w.heap.size w w' := by
  have C1 := rvalue_any (c := c) (kd := k) hK hR hF
  have C2 := Lib.hid (fun W (hb : Below w.heap.size w W) => value_any (c := c) (k := k) (hK.then_ hb).self ((hR.below hb).more hb.size) hF)
  have HV := Lib.hid (fun h0 : (valV N k).e = 0 => val_valid (N := N) (k := k) (fun y hy => (hF.num y hy).1) h0)
  have HKK := Lib.hid hK
  obtain ⟨n, hn⟩ : ∃ n, N.length = n := ⟨_, rfl⟩
  obtain ⟨V, hV⟩ : ∃ V, valV N k = V := ⟨_, rfl⟩
  rw [hV] at C1 C2 HV
  rw [hn] at C1 C2 ⊢
  clear hK hR hF hn hV
  obtain ⟨vk, vn, vs, va, ve⟩ := V
  unfold vaEnd at C1 C2
  dsimp only at C1 C2 HV
  obtain ⟨S, hS⟩ : ∃ S, str vs = S := ⟨_, rfl⟩
  have hsz : S.size = vs.length := by rw [← hS]; exact str_size vs
  rw [hS] at C1 C2 HV
  clear hS
  have HSZ := Lib.hid hsz
  obtain ⟨Zn, hZn⟩ : ∃ Z : Int, ((vn : Nat) : Int) = Z := ⟨_, rfl⟩
  obtain ⟨Za, hZa⟩ : ∃ Z : Int, ((va : Nat) : Int) = Z := ⟨_, rfl⟩
  obtain ⟨Ze, hZe⟩ : ∃ Z : Int, ((ve : Nat) : Int) = Z := ⟨_, rfl⟩
  simp only [hZn, hZa, hZe] at C1 C2
  have HZ := Lib.hid (And.intro hZn hZe)
  clear hZn hZa hZe hsz
  go_enter Tryd.func5, Tryd.ntmps5
  go_wp2_with fail
  refine C1.mono ?_
  rintro e w1 ⟨rfl, hb1⟩
  have hb1' : Below w.heap.size w (w1.alloc (.cells #[.int .i64 vk, .int .u64 Zn, .string S] 31)) := hb1.alloc hb1.size _
  have x1 := Lib.hid (CB.new w1 31 #[.int .i64 vk, .int .u64 Zn, .string S])
  have B1 := Lib.hid hb1'
  clear C1 hb1 hb1'
  go_wp2_with fail
  refine (C2.out _ B1.out).mono ?_
  rintro e w2 ⟨rfl, hb2⟩
  have hb2' := hb2.alloc hb2.size (.cells #[.int .i64 vk, .int .u64 Zn, .string S] 31)
  have y1 := CB.new w2 31 #[.int .i64 vk, .int .u64 Zn, .string S]
  have y2 := x1.out.below hb2'
  have B2 := Lib.hid (B1.out.trans (hb2'.mono B1.out.size))
  have p0 : (w2.alloc (.cells #[.int .i64 vk, .int .u64 Zn, .string S] 31)).cell? ⟨w1.heap.size, 0, none⟩ = some (.int .i64 vk) := y2.at_ 0
  have p1 : (w2.alloc (.cells #[.int .i64 vk, .int .u64 Zn, .string S] 31)).cell? ⟨w1.heap.size, 1, none⟩ = some (.int .u64 Zn) := y2.at_ 1
  have p2 : (w2.alloc (.cells #[.int .i64 vk, .int .u64 Zn, .string S] 31)).cell? ⟨w1.heap.size, 2, none⟩ = some (.string S) := y2.at_ 2
  have q0 : (w2.alloc (.cells #[.int .i64 vk, .int .u64 Zn, .string S] 31)).cell? ⟨w2.heap.size, 0, none⟩ = some (.int .i64 vk) := y1.at_ 0
  have q1 : (w2.alloc (.cells #[.int .i64 vk, .int .u64 Zn, .string S] 31)).cell? ⟨w2.heap.size, 1, none⟩ = some (.int .u64 Zn) := y1.at_ 1
  have q2 : (w2.alloc (.cells #[.int .i64 vk, .int .u64 Zn, .string S] 31)).cell? ⟨w2.heap.size, 2, none⟩ = some (.string S) := y1.at_ 2
  have aa : (Za != Za) = false := bne_self_eq_false _
  have ee : (Ze != Ze) = false := bne_self_eq_false _
  have Y1 := Lib.hid y1
  clear hb2 hb2' y1 y2 x1 B1 C2
  by_cases h0 : Ze = 0
  · have hv0 := HV.out (by have := HZ.out.2; omega)
    obtain ⟨v1, v2, v3, v4⟩ := hv0
    have hz1 := HZ.out.1
    subst h0
    have CV := kvalid_any (HKK.out.then_ B2.out).self ⟨vk, Zn, S⟩ (by unfold Fits; show 0 ≤ Zn ∧ Zn ≤ _; omega) (by show S.size ≤ _; rw [HSZ.out]; exact v4)
    rw [hz1, ← v1] at v2
    rw [v2] at CV
    unfold vv at CV
    dsimp only at CV
    subst v1
    have kk : (vk == vk) = true := beq_self_eq_true _
    clear v2 v3 v4 hz1 HV ee
    go_wp2_with fail
    refine CV.mono ?_
    rintro e w3 ⟨rfl, hb3⟩
    have hb3 := hb3.below
    have q0' : w3.cell? ⟨w2.heap.size, 0, none⟩ = some (.int .i64 vk) := (Y1.out.below hb3).at_ 0
    have B3 := Lib.hid (B2.out.trans (hb3.mono B2.out.size))
    clear hb3 CV p0 p1 p2 q0 q1 q2
    go_wp2
    go_ret
    exact ⟨rfl, B3.out⟩
  · have h0b : (Ze != 0) = true := bne_iff_ne.2 h0
    clear HV
    go_wp2
    go_ret
    exact ⟨rfl, B2.out⟩

set_option maxRecDepth 100000 in
set_option maxHeartbeats 4000000 in
theorem valueslaw_any {w : World} {A : Option Addr} {c : Nat} {N : List Rn} (k : Int) (hK : KSt w w) (hR : RN w w.heap.size A N) (hF : Few N) :
    Calls Tryd.prog 3 #[.slice A N.length c, .int .i64 k] w fun e w' => e = .returned (.bool true) ∧ Below w.heap.size w w' := by
  have CL := Lib.hid (lives_any hK)
  have C1 := Lib.hid (fun W (hb : Below w.heap.size w W) (i : Int) => valuesE_any (c := c) (k := i) (hK.then_ hb).self ((hR.below hb).more hb.size) hF)
  obtain ⟨n, hn⟩ : ∃ n, N.length = n := ⟨_, rfl⟩
  rw [hn] at C1 ⊢
  clear hK hR hF hn
  go_enter Tryd.func3, Tryd.ntmps3
  go_wp2_with fail
  refine CL.out.mono ?_
  rintro e w1 ⟨rfl, H1⟩
  have B1 := Lib.hid H1
  clear H1
  go_wp2
  go_loopw [5] (fun i wr => ∃ z : Int, i = .int .i64 z ∧ -1 ≤ z ∧ z ≤ 8 ∧ Hid (Below w.heap.size w wr)) (fun i _ => (8 - intOf i).toNat)
  case atStart => exact ⟨-1, rfl, by decide, by decide, B1.out⟩
  case round =>
    obtain ⟨z, rfl, hz0, hz1, HB⟩ := hrel
    by_cases hlt : z < 8
    · go_wp2_with fail
      refine (C1.out _ HB.out z).mono ?_
      rintro e w2 ⟨rfl, hb2⟩
      have B2 := Lib.hid (HB.out.trans (hb2.mono HB.out.size))
      clear hb2
      go_wp2
      go_roundw
      case rel => exact ⟨z + 1, by go_num, by omega, by omega, B2.out⟩
      case measure => simp [intOf]; omega
    · go_wp2_with fail
      refine (C1.out _ HB.out k).mono ?_
      rintro e w2 ⟨rfl, hb2⟩
      go_wp2
      go_ret
      exact ⟨rfl, HB.out.trans (hb2.mono HB.out.size)⟩
end Go.Proofs.YtmbiompmhaiehaaDoor
