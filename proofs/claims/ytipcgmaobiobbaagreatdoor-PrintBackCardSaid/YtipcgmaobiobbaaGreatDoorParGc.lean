/- The library's builder, a byte at a time and a text at a time; what the library's errors lie in. No walk here. -/
import Derived.Test.YtipcgmaobiobbaaGreatDoorParGb
import Derived.Test.YtipcgmaobiobbaaGreatDoorShelf
import Derived.Test.YtipcgmaobiobbaaGreatDoorParGa
import Derived.Lib.IndexLaws
namespace Go.Proofs.YtipcgmaobiobbaaGreatDoor
open Go.RowKit
open Go.Lib (byteCells)

/-- the numbers of the builder's own functions and types, for the library's laws -/
def bren : Go.Shelf.Ren := ⟨fun
  | 167 => 86 | 240 => 81 | 276 => 99 | n => n, fun
  | 70 => 66 | 3 => 3 | 0 => 0 | 4 => 4 | 9 => 9 | 20 => 20 | 72 => 69 | 37 => 67 | 164 => 144 | 5 => 5 | 75 => 108 | 80 => 81 | 71 => 68 | n => n, fun | n => n⟩
theorem blays7 : Go.Proofs.Lays.n167 Tryz.prog bren := {
  mixed := by kernel_rfl
  f167 := Tryz.func86.trans (congrArg some (by kernel_rfl))
  f240 := Tryz.func81.trans (congrArg some (by kernel_rfl))
  f276 := Tryz.func99.trans (congrArg some (by kernel_rfl))
  t0 := Tryz.underlying0
  a0 := Tryz.isAgg0
  z0 := Tryz.sizeOf0
  v0 := Tryz.zeroValue0
  t4 := Tryz.underlying4
  a4 := Tryz.isAgg4
  z4 := Tryz.sizeOf4
  v4 := Tryz.zeroValue4
  t5 := Tryz.underlying5
  a5 := Tryz.isAgg5
  z5 := Tryz.sizeOf5
  v5 := Tryz.zeroValue5
  t9 := Tryz.underlying9
  a9 := Tryz.isAgg9
  z9 := Tryz.sizeOf9
  v9 := Tryz.zeroValue9
  t20 := Tryz.underlying20
  a20 := Tryz.isAgg20
  z20 := Tryz.sizeOf20
  v20 := Tryz.zeroValue20
  t37 := Tryz.underlying67
  a37 := Tryz.isAgg67
  z37 := Tryz.sizeOf67
  v37 := Tryz.zeroValue67
  t70 := Tryz.underlying66
  a70 := Tryz.isAgg66
  z70 := Tryz.sizeOf66
  v70 := Tryz.zeroValue66
  t72 := Tryz.underlying69
  a72 := Tryz.isAgg69
  z72 := Tryz.sizeOf69
  v72 := Tryz.zeroValue69
  t75 := Tryz.underlying108
  a75 := Tryz.isAgg108
  z75 := Tryz.sizeOf108
  v75 := Tryz.zeroValue108
  t164 := Tryz.underlying144
  a164 := Tryz.isAgg144
  z164 := Tryz.sizeOf144
  v164 := Tryz.zeroValue144 }
theorem bxtra : Builder.Extra Tryz.prog bren := {
  sizeBuilder := by kernel_rfl
  liesBuilder := by kernel_rfl
  t5 := Tryz.underlying5
  a5 := Tryz.isAgg5
  z5 := Tryz.sizeOf5
  v5 := Tryz.zeroValue5
  infoByte := by kernel_rfl
  cellsByte := by kernel_rfl
  sizeByte := by kernel_rfl
  neB5 := by decide }


/-- the builder in block b, of the call's own from B on, holds these bytes -/
def Bld (B b : Nat) (l : List UInt8) (w : World) : Prop := Lib.IsBuilder 69 5 B b (byteCells l) w
theorem Bld.new (w : World) : Bld w.heap.size w.heap.size [] (w.alloc (.cells #[.pointer none, .slice none 0 0] 69)) := by
  exact Lib.fresh_isBuilder _ _ w
theorem strCells_ls (s : ByteArray) : Lib.strCells s = byteCells (ls s) := rfl
theorem Bld.byte {B b : Nat} {l : List UInt8} {w : World} (h : Bld B b l w) (c : UInt8) (hN : l.length + 1 ≤ 140737488355328) (hB : B ≤ w.heap.size) (r : List UInt8) (hr : r = l ++ [c]) :
    Calls Tryz.prog 86 #[.pointer (some ⟨b, 0, none⟩), .int .u8 (c.toNat : Nat)] w fun e w' => e = .returned .nilIface ∧ Bld B b r w' ∧ Below B w w' := by
  refine (Any.Builder_WriteByte (ρ := bren) blays7 bxtra B b (byteCells l) (c.toNat : Nat) w h (by rw [Go.Lib.byteCells_length]; exact hN) hB).mono ?_
  rintro e w' ⟨rfl, h1, h2⟩
  have e1 : byteCells l ++ [.int .u8 (c.toNat : Nat)] = byteCells r := by rw [hr, Go.Lib.byteCells_append]; rfl
  rw [e1] at h1
  exact ⟨rfl, .inr h1, h2⟩
theorem Bld.out {B b : Nat} {l : List UInt8} {w : World} (h : Bld B b l w) (hB : B ≤ w.heap.size) :
    Calls Tryz.prog 30 #[.pointer (some ⟨b, 0, none⟩)] w fun e w' => e = .returned (.string (str l)) ∧ Below B w w' := by
  exact Tryz.Builder_String_any B b l w h hB

/-- the library's two errors stand where they were laid -/
def EV (w : World) : Prop := (∃ t p, w.cell? ⟨2, 0, none⟩ = some (.iface t p)) ∧ ∃ t p, w.cell? ⟨3, 0, none⟩ = some (.iface t p)
theorem EV.below {w w' : World} (h : EV w) (hb : Below w.heap.size w w') : EV w' := by
  obtain ⟨⟨t1, p1, h1⟩, t2, p2, h2⟩ := h
  exact ⟨⟨t1, p1, (hb.cell (p := ⟨_, 0, none⟩) (World.block_lt_of_cell? _ _ h1)).trans h1⟩, t2, p2, (hb.cell (p := ⟨_, 0, none⟩) (World.block_lt_of_cell? _ _ h2)).trans h2⟩
theorem EV.new {w : World} (h : EV w) (o : Obj) : EV (w.alloc o) := h.below ((Below.refl _ _).alloc (Nat.le_refl _) _)
end Go.Proofs.YtipcgmaobiobbaaGreatDoor
/- The library's ParseUint of two bytes, by base 16 at 8 bits: walked here. -/
namespace Go.Proofs.YtipcgmaobiobbaaGreatDoor
open Go.RowKit

/-- the number that digits of base 16 spell behind a number; none: one of them is no digit -/
def hexF : Nat → List UInt8 → Option Nat
  | x, [] => some x
  | x, c :: r => if dv c.toNat = 16 then none else hexF (x * 16 + dv c.toNat) r
theorem low_cases : ∀ n : Fin 256, ((97 ≤ n.val ∧ n.val ≤ 102) → bits .or .u8 (n.val : Int) 32 = (n.val : Int)) ∧ ((65 ≤ n.val ∧ n.val ≤ 70) → bits .or .u8 (n.val : Int) 32 = (n.val : Int) + 32) ∧
    (dv n.val = 16 → bits .or .u8 (n.val : Int) 32 < 97 ∨ 103 ≤ bits .or .u8 (n.val : Int) 32) := by decide +kernel
/-- what is answered -/
def hexA : Option Nat → Value
  | some x => .tuple #[.int .u64 (x : Nat), .nilIface]
  | none => .tuple #[.int .u64 0, .iface 158 (.int .i64 2)]

set_option maxRecDepth 100000 in
set_option maxHeartbeats 32000000 in
theorem pu16_any (w : World) (t : ByteArray) (h2 : t.size = 2) :
    Calls Tryz.prog 101 #[.string t, .int .i64 16, .int .i64 8] w fun e w' => e = .returned (hexA (hexF 0 (ls t))) ∧ Below w.heap.size w w' := by
  have hemp : t.toList.isEmpty = false := by
    rw [← decide_eq_emptyBytes]
    exact decide_eq_false (fun h => by rw [h] at h2; cases h2)
  have hcv := Lib.run_convert_string_bytes (P := Tryz.prog) w 9 67 5 t (u := .string) Tryz.underlying9 Tryz.underlying67 Tryz.underlying5
  have hB : ∀ j, j < t.size → (Lib.bytesWorld w 5 t).cell? ⟨w.heap.size, j, none⟩ = some (.int .u8 ((ls t).getD j 0).toNat) := fun j hj => Lib.bytesWorld_cell w 5 t j hj
  have hbel := Lib.bytesWorld_below w 5 t
  obtain ⟨W1, hW1⟩ : ∃ W1, W1 = Lib.bytesWorld w 5 t := ⟨_, rfl⟩
  rw [← hW1] at hcv hB hbel
  clear hW1
  obtain ⟨bs, hL⟩ : ∃ bs, bs = ls t := ⟨_, rfl⟩
  have hLn : bs.length = t.size := by rw [hL, ls_size]
  rw [← hL] at hB ⊢
  clear hL
  obtain ⟨R, hR⟩ : ∃ R, hexF 0 bs = R := ⟨_, rfl⟩
  rw [hR]
  have HR : Hid (hexF 0 (bs.drop 0) = R) := by unfold Hid; rw [List.drop_zero]; exact hR
  have hmv : IntKind.u64.wrap (IntKind.u64.wrap 256 - 1) = 255 := by
    rw [IntKind.wrap_u64, IntKind.wrap_u64]
    decide
  clear hR
  go_enter Tryz.func101, Tryz.ntmps101
  go_wp2
  go_loop [12, 13, 101] (fun vu vn vi => ∃ (k acc : Nat) (a : Int), vu = .bool false ∧ vn = .int .u64 a ∧ vi = .int .i64 k ∧ k ≤ t.size ∧ Hid (a = (acc : Int) ∧ acc ≤ 255 ∧ (k ≤ 1 → acc ≤ 15) ∧ (k = 0 → acc = 0) ∧ hexF acc (bs.drop k) = R))
    (fun _ _ vi => t.size - (intOf vi).toNat)
  case atStart => exact ⟨0, 0, 0, rfl, rfl, rfl, by omega, rfl, by omega, fun _ => by omega, fun _ => rfl, HR.out⟩
  case round =>
    obtain ⟨k, acc, a, rfl, rfl, rfl, hk, hh⟩ := hrel
    obtain ⟨ha, hacc, hacc1, hk1, hdec⟩ := hh.out
    clear hh
    have a0 : 0 ≤ a := by omega
    have a1 : a ≤ 255 := by omega
    by_cases hkn : k < t.size
    · have hc := hB k hkn
      have a15 : acc ≤ 15 := hacc1 (by omega)
      have a2 : a ≤ 15 := by omega
      have hdrop : bs.drop k = bs[k]'(by omega) :: bs.drop (k + 1) := List.drop_eq_getElem_cons (by omega)
      have hget : bs.getD k 0 = bs[k]'(by omega) := by simp [List.getD, List.getElem?_eq_getElem (show k < bs.length by omega)]
      rw [hdrop] at hdec
      rw [hget] at hc
      generalize bs[k]'(by omega) = c at hc hdec
      have hc256 : c.toNat < 256 := c.toNat_lt
      have hlow := low_cases ⟨c.toNat, hc256⟩
      dsimp only at hlow
      obtain ⟨l1, l2, l3⟩ := hlow
      clear hB hdrop hget
      unfold hexF at hdec
      by_cases hbad : dv c.toNat = 16
      · rw [if_pos hbad] at hdec
        subst hdec
        have hv := l3 hbad
        have hnd : ¬ (48 ≤ c.toNat ∧ c.toNat ≤ 57) := fun h => by rw [dv_num h] at hbad; omega
        have hv0 := bits_lo_u8 .or (c.toNat : Int) 32
        have hv1 := bits_hi_u8 .or (c.toNat : Int) 32
        have l4 : bits .or .u8 95 32 = 127 := by decide +kernel
        have l5 : c.toNat = 95 → bits .or .u8 (c.toNat : Int) 32 = 127 := fun h => by rw [h]; exact l4
        clear l1 l2 l3 hbad hacc hacc1 hk1 ha a15 l4
        generalize hvv : bits .or .u8 (c.toNat : Int) 32 = v at hv hv0 hv1 l5
        have cl := fun W => Tryz.internal_strconv_lower (c.toNat : Nat) W
        simp only [hvv] at cl
        clear hvv
        by_cases hz : 97 ≤ v ∧ v ≤ 122
        · obtain ⟨z1, z2⟩ := hz
          have hv3 : 103 ≤ v := by omega
          have h95 : ((c.toNat : Int) == 95) = false := beq_eq_false_iff_ne.2 (fun h => by have := l5 (by omega); omega)
          clear hv l5
          by_cases q : 48 ≤ c.toNat
          · have q2 : ¬ c.toNat ≤ 57 := by omega
            clear hnd
            go_wp2_with (go_at_call 117; refine (cl _).mono ?_; rintro e w' ⟨rfl, rfl⟩)
            go_ret2
            exact ⟨rfl, hbel⟩
          · clear hnd
            go_wp2_with (go_at_call 117; refine (cl _).mono ?_; rintro e w' ⟨rfl, rfl⟩)
            go_ret2
            exact ⟨rfl, hbel⟩
        · by_cases q95 : c.toNat = 95
          · obtain rfl : v = 127 := l5 q95
            rw [q95] at hc
            simp only [q95] at cl
            clear l5 hnd hv q95
            go_wp2_with (go_at_call 117; refine (cl _).mono ?_; rintro e w' ⟨rfl, rfl⟩)
            all_goals go_ret2
            all_goals exact ⟨rfl, hbel⟩
          · have h95 : ((c.toNat : Int) == 95) = false := beq_eq_false_iff_ne.2 (by omega)
            clear l5 hv q95
            by_cases q : 48 ≤ c.toNat
            · have q2 : ¬ c.toNat ≤ 57 := by omega
              clear hnd
              go_wp2_with (go_at_call 117; refine (cl _).mono ?_; rintro e w' ⟨rfl, rfl⟩)
              all_goals go_ret2
              all_goals exact ⟨rfl, hbel⟩
            · clear hnd
              go_wp2_with (go_at_call 117; refine (cl _).mono ?_; rintro e w' ⟨rfl, rfl⟩)
              all_goals go_ret2
              all_goals exact ⟨rfl, hbel⟩
      · rw [if_neg hbad] at hdec
        obtain ⟨d, hd⟩ : ∃ d, dv c.toNat = d := ⟨_, rfl⟩
        have hd16 := dv_le c.toNat
        rw [hd] at hdec hbad hd16
        have hk0 : k ≤ 1 := by omega
        have HN : Hid (a * 16 + (d : Int) = ((acc * 16 + d : Nat) : Int) ∧ acc * 16 + d ≤ 255 ∧ (k + 1 ≤ 1 → acc * 16 + d ≤ 15) ∧ (k + 1 = 0 → acc * 16 + d = 0) ∧ hexF (acc * 16 + d) (bs.drop (k + 1)) = R) := Lib.hid ⟨by omega, by omega, fun h => by have := hk1 (by omega); omega, fun h => by omega, hdec⟩
        by_cases hdig : 48 ≤ c.toNat ∧ c.toNat ≤ 57
        · rw [dv_num hdig] at hd
          have hcd : (c.toNat : Int) - 48 = (d : Int) := by omega
          have hd9 : (d : Int) ≤ 9 := by omega
          obtain ⟨q1, q2⟩ := hdig
          clear l1 l2 l3 hbad hacc hacc1 hk1 a15 hdec ha hd hd16
          go_wp2
          refine ⟨⟨k + 1, acc * 16 + d, a * 16 + (d : Int), rfl, (by first | rfl | (congr 1; omega)), (by first | rfl | (congr 1; omega)), by omega, HN⟩, by simp [intOf]; omega⟩
        · have hnd := hdig
          clear hdig
          have hv0 := bits_lo_u8 .or (c.toNat : Int) 32
          have hv1 := bits_hi_u8 .or (c.toNat : Int) 32
          have hlet : (97 ≤ c.toNat ∧ c.toNat ≤ 102) ∨ (65 ≤ c.toNat ∧ c.toNat ≤ 70) := by
            by_cases q : 97 ≤ c.toNat ∧ c.toNat ≤ 102
            · exact .inl q
            · by_cases q2 : 65 ≤ c.toNat ∧ c.toNat ≤ 70
              · exact .inr q2
              · exact absurd (hd ▸ dv_no hnd q q2) hbad
          have cl := fun W => Tryz.internal_strconv_lower (c.toNat : Nat) W
          have hv : bits .or .u8 (c.toNat : Int) 32 = (d : Int) + 87 := by
            rcases hlet with q | q
            · rw [l1 q, ← hd, dv_low q]; omega
            · rw [l2 q, ← hd, dv_upp q]; omega
          have h95 : ((c.toNat : Int) == 95) = false := beq_eq_false_iff_ne.2 (by omega)
          have hd10 : 10 ≤ d := by
            rcases hlet with q | q
            · rw [← hd, dv_low q]; omega
            · rw [← hd, dv_upp q]; omega
          have hq1 : ¬ (c.toNat : Int) ≤ 57 := by omega
          have hd15 : (d : Int) ≤ 15 := by omega
          have hd10z : (10 : Int) ≤ (d : Int) := by omega
          simp only [hv] at cl
          clear l1 l2 l3 hbad hacc hacc1 hk1 a15 hdec ha hd hd16 hlet hnd hv hv0 hv1 hd10
          go_wp2_with (go_at_call 117; refine (cl _).mono ?_; rintro e w' ⟨rfl, rfl⟩)
          refine ⟨⟨k + 1, acc * 16 + d, a * 16 + (d : Int), rfl, (by first | rfl | (congr 1; omega)), (by first | rfl | (congr 1; omega)), by omega, HN⟩, by simp [intOf]; omega⟩
    · have hkk : k = t.size := by omega
      subst hkk
      rw [List.drop_eq_nil_of_le (by omega)] at hdec
      obtain rfl : some acc = R := hdec
      subst ha
      clear hacc hacc1 hk1 a0 a1
      go_wp2
      go_ret2
      exact ⟨rfl, hbel⟩

set_option maxRecDepth 100000 in
set_option maxHeartbeats 4000000 in
/-- strconv.ParseUint of two bytes, by base 16 at 8 bits -/
theorem parse16_any (w : World) (t : ByteArray) (h2 : t.size = 2) (hE : EV w) :
    Calls Tryz.prog 84 #[.string t, .int .i64 16, .int .i64 8] w fun e w' => Below w.heap.size w w' ∧ match hexF 0 (ls t) with
      | some x => e = .returned (.tuple #[.int .u64 (x : Nat), .nilIface])
      | none => ∃ T p, e = .returned (.tuple #[.int .u64 0, .iface T p]) := by
  have ci := pu16_any w t h2
  cases hR : hexF 0 (ls t) with
  | some x =>
    rw [hR] at ci
    change Calls _ _ _ _ (fun e w' => e = .returned (.tuple #[.int .u64 (x : Nat), .nilIface]) ∧ _) at ci
    clear hR
    go_enter Tryz.func84, Tryz.ntmps84
    go_wp2_with (go_at_call 101; refine ci.mono ?_; rintro e w2 ⟨rfl, hb2⟩)
    go_ret2
    exact ⟨hb2, rfl⟩
  | none =>
    rw [hR] at ci
    change Calls _ _ _ _ (fun e w' => e = .returned (.tuple #[.int .u64 0, .iface 158 (.int .i64 2)]) ∧ _) at ci
    clear hR
    go_enter Tryz.func84, Tryz.ntmps84
    go_wp2_with (go_at_call 101; refine ci.mono ?_)
    rintro e w2 ⟨rfl, hb2⟩
    obtain ⟨⟨te, pe, hv⟩, _⟩ := hE.below hb2
    go_wp2_with (go_at_call 102; refine (Tryz.strconv_toError_syntax ⟨#[80, 97, 114, 115, 101, 85, 105, 110, 116]⟩ t 16 8 _ w2 (by omega) hv (.inr ⟨te, pe, rfl⟩)).mono ?_)
    rintro e w3 ⟨N, rfl, _, _, hb3⟩
    go_wp2
    go_ret2
    exact ⟨hb2.trans (hb3.mono hb2.size), _, _, rfl⟩
end Go.Proofs.YtipcgmaobiobbaaGreatDoor
/- The walks of the code: kinds of bytes, skip, the end of a name, whether a text is a name. -/
namespace Go.Proofs.YtipcgmaobiobbaaGreatDoor
open Go.RowKit

set_option maxRecDepth 100000 in
set_option maxHeartbeats 1000000 in
theorem digit_any (w : World) (c : UInt8) : Calls Tryz.prog 59 #[.int .u8 (c.toNat : Nat)] w fun e w' => e = .returned (.bool (isD c)) ∧ w = w' := by
  have hc := c.toNat_lt
  obtain ⟨b, hb⟩ : ∃ b, isD c = b := ⟨_, rfl⟩
  obtain ⟨n, hn⟩ : ∃ n, c.toNat = n := ⟨_, rfl⟩
  have HB : Hid (b = true ↔ (48 ≤ n ∧ n ≤ 57)) := by unfold Hid; rw [← hb, ← hn]; unfold isD; exact decide_eq_true_iff
  rw [hb]
  rw [hn] at hc ⊢
  clear hb hn
  go_enter Tryz.func59, Tryz.ntmps59
  go_wp2
  all_goals
    go_ret
    refine ⟨ret_bool (Bool.eq_iff_iff.2 (Iff.trans ?_ HB.out.symm)), rfl⟩
    first | omega | (simp; done) | (simp; omega)

set_option maxRecDepth 100000 in
set_option maxHeartbeats 1000000 in
theorem letter_any (w : World) (c : UInt8) : Calls Tryz.prog 57 #[.int .u8 (c.toNat : Nat)] w fun e w' => e = .returned (.bool (isL c)) ∧ w = w' := by
  have hc := c.toNat_lt
  obtain ⟨b, hb⟩ : ∃ b, isL c = b := ⟨_, rfl⟩
  obtain ⟨n, hn⟩ : ∃ n, c.toNat = n := ⟨_, rfl⟩
  have HB : Hid (b = true ↔ (n = 95 ∨ (97 ≤ n ∧ n ≤ 122) ∨ (65 ≤ n ∧ n ≤ 90))) := by unfold Hid; rw [← hb, ← hn]; unfold isL; exact decide_eq_true_iff
  rw [hb]
  rw [hn] at hc ⊢
  clear hb hn
  go_enter Tryz.func57, Tryz.ntmps57
  go_wp2
  all_goals
    go_ret
    refine ⟨ret_bool (Bool.eq_iff_iff.2 (Iff.trans ?_ HB.out.symm)), rfl⟩
    first | omega | (simp; done) | (simp; omega)

theorem ofNat_toNat (c : UInt8) : ((c.toNat : Nat) : Int).toNat.toUInt8 = c := by simp
theorem blank_ix (c : UInt8) : isBl c = decide (0 ≤ Lib.indexByte [32, 9, 10, 13] c) := by
  have h : ∀ n : Fin 256, isBl (UInt8.ofNat n.val) = decide (0 ≤ Lib.indexByte [32, 9, 10, 13] (UInt8.ofNat n.val)) := by decide +kernel
  have := h ⟨c.toNat, c.toNat_lt⟩
  simpa using this
theorem mark_ix (c : UInt8) : isM c = decide (0 ≤ Lib.indexByte [123, 125, 40, 41, 58, 59, 44, 61, 43, 45, 42] c) := by
  have h : ∀ n : Fin 256, isM (UInt8.ofNat n.val) = decide (0 ≤ Lib.indexByte [123, 125, 40, 41, 58, 59, 44, 61, 43, 45, 42] (UInt8.ofNat n.val)) := by decide +kernel
  have := h ⟨c.toNat, c.toNat_lt⟩
  simpa using this

set_option maxRecDepth 100000 in
set_option maxHeartbeats 1000000 in
theorem has_any (w : World) (S : ByteArray) (c : UInt8) : Calls Tryz.prog 55 #[.string S, .int .u8 (c.toNat : Nat)] w fun e w' => e = .returned (.bool (decide (0 ≤ Lib.indexByte S.data.toList c))) ∧ w = w' := by
  have ci := fun W => Tryz.strings_IndexByte S (c.toNat : Nat) W
  simp only [ofNat_toNat] at ci
  go_enter Tryz.func55, Tryz.ntmps55
  go_wp2_with (go_at_call 82; refine (ci _).mono ?_; rintro e w2 ⟨rfl, rfl⟩)
  go_ret
  exact ⟨rfl, rfl⟩
theorem blank_any (w : World) (c : UInt8) : Calls Tryz.prog 55 #[.string ⟨#[32, 9, 10, 13]⟩, .int .u8 (c.toNat : Nat)] w fun e w' => e = .returned (.bool (isBl c)) ∧ w = w' := by
  rw [blank_ix]
  exact has_any w _ c
theorem mark_any (w : World) (c : UInt8) : Calls Tryz.prog 55 #[.string ⟨#[123, 125, 40, 41, 58, 59, 44, 61, 43, 45, 42]⟩, .int .u8 (c.toNat : Nat)] w fun e w' => e = .returned (.bool (isM c)) ∧ w = w' := by
  rw [mark_ix]
  exact has_any w _ c

set_option maxRecDepth 100000 in
set_option maxHeartbeats 1000000 in
theorem clone_any (w : World) (s : ByteArray) (hs : s.size ≤ 140737488355328) : Calls Tryz.prog 62 #[.string s] w fun e w' => e = .returned (.string s) ∧ Below w.heap.size w w' := by
  have c := Tryz.stringslite_Clone s w (by omega)
  go_enter Tryz.func62, Tryz.ntmps62
  go_wp2_with (go_at_call 87; refine c.mono ?_; rintro e w' ⟨rfl, hb⟩)
  go_ret
  exact ⟨rfl, hb⟩

/-- how many bytes stand ahead of the next newline -/
def lineN : List UInt8 → Nat
  | [] => 0
  | c :: r => if c.toNat = 10 then 0 else lineN r + 1
theorem ix_line (l : List UInt8) : (Lib.indexByte l 10 = -1 ∧ lineN l = l.length) ∨ (Lib.indexByte l 10 = (lineN l : Nat) ∧ lineN l < l.length) := by
  induction l with
  | nil => exact .inl ⟨rfl, rfl⟩
  | cons c r ih =>
    unfold Lib.indexByte lineN
    simp only [List.length_cons]
    by_cases h : c.toNat = 10
    · have h2 : c = 10 := UInt8.toNat_inj.1 h
      rw [if_pos h, if_pos (by rw [h2]; rfl)]
      exact .inr ⟨rfl, by omega⟩
    · have h2 : ¬ (c == 10) = true := fun e => h (by rw [eq_of_beq e]; rfl)
      rw [if_neg h, if_neg h2]
      rcases ih with ⟨h3, h4⟩ | ⟨h3, h4⟩
      · rw [h3]
        exact .inl ⟨rfl, by omega⟩
      · rw [h3, if_neg (fun e => by have := eq_of_beq e; omega)]
        exact .inr ⟨by omega, by omega⟩
theorem lineN_le (l : List UInt8) : lineN l ≤ l.length := by rcases ix_line l with h | h <;> omega
theorem skip_line (l : List UInt8) : skipS true l = lineN l + skipS false (l.drop (lineN l)) := by
  induction l with
  | nil => rfl
  | cons c r ih =>
    unfold lineN
    rw [skip_cons]
    by_cases h : c.toNat = 10
    · have hb : isBl c = true := by unfold isBl; rw [h]; rfl
      rw [if_neg (by omega), if_pos hb, if_pos h, List.drop_zero, skip_cons, if_neg (by simp), if_pos hb]
      omega
    · rw [if_pos ⟨rfl, h⟩, if_neg h, List.drop_succ_cons, ih]
      omega
theorem skip_remark (c : UInt8) (r : List UInt8) (h : c.toNat = 35) : skipS false (c :: r) = lineN (c :: r) + skipS false ((c :: r).drop (lineN (c :: r))) := by
  have hb : isBl c = false := by unfold isBl; rw [h]; rfl
  rw [← skip_line, skip_cons, skip_cons, if_neg (by simp), if_neg (by simp [hb]), if_pos h, if_pos ⟨rfl, by omega⟩]

set_option maxRecDepth 100000 in
set_option maxHeartbeats 1000000 in
theorem line_any (w : World) (s : ByteArray) (k : Nat) (hk : k ≤ s.size) (hs : s.size ≤ 9223372036854775806) : Calls Tryz.prog 56 #[.string s, .int .i64 k] w fun e w' => e = .returned (.int .i64 ((k + lineN ((ls s).drop k) : Nat) : Int)) ∧ w = w' := by
  have hkz : (k : Int) ≤ (s.size : Int) := by omega
  have hls : ls (s.extract k s.size) = (ls s).drop k := by
    rw [ls_extract]
    exact List.take_of_length_le (by rw [List.length_drop, ls_size]; omega)
  have ci := fun W => Tryz.strings_IndexByte (s.extract k s.size) 10 W
  have e10 : (10 : Int).toNat.toUInt8 = 10 := rfl
  change ∀ W, Calls _ _ _ _ (fun e w' => e = .returned (.int .i64 (Lib.indexByte (ls (s.extract k s.size)) 10)) ∧ w' = W) at ci
  rw [hls] at ci
  have hx := ix_line ((ls s).drop k)
  rw [List.length_drop, ls_size] at hx
  generalize lineN ((ls s).drop k) = n at hx ⊢
  rcases hx with ⟨h1, h2⟩ | ⟨h1, h2⟩
  · rw [h1] at ci
    have hkn : ((k + n : Nat) : Int) = (s.size : Int) := by omega
    rw [hkn]
    clear h1 h2 hkn hls e10
    go_enter Tryz.func56, Tryz.ntmps56
    go_wp2_with (go_at_call 82; refine (ci _).mono ?_; rintro e w2 ⟨rfl, rfl⟩)
    go_ret
    exact ⟨rfl, rfl⟩
  · rw [h1] at ci
    have h3 : (k : Int) + (n : Int) < (s.size : Int) := by omega
    have h0 : (0 : Int) ≤ (n : Int) := by omega
    clear h1 h2 hls e10
    go_enter Tryz.func56, Tryz.ntmps56
    go_wp2_with (go_at_call 82; refine (ci _).mono ?_; rintro e w2 ⟨rfl, rfl⟩)
    go_ret
    exact ⟨ret_int (by omega), rfl⟩

set_option maxRecDepth 100000 in
set_option maxHeartbeats 2000000 in
theorem skip_any (w : World) (s : ByteArray) (i : Nat) (hi : i ≤ s.size) (hs : s.size ≤ 9223372036854775806) :
    Calls Tryz.prog 31 #[.string s, .int .i64 i] w fun e w' => e = .returned (.int .i64 ((i + skipS false ((ls s).drop i) : Nat) : Int)) ∧ w = w' := by
  obtain ⟨X, hX⟩ : ∃ X, i + skipS false ((ls s).drop i) = X := ⟨_, rfl⟩
  rw [hX]
  have HX := Lib.hid hX
  clear hX
  go_enter Tryz.func31, Tryz.ntmps31
  go_wp2
  go_loopw [1] (fun v wr => ∃ k : Nat, v = .int .i64 k ∧ k ≤ s.size ∧ Hid (k + skipS false ((ls s).drop k) = X) ∧ w = wr) (fun v _ => s.size - (intOf v).toNat)
  case atStart => exact ⟨i, rfl, hi, HX, rfl⟩
  case round =>
    obtain ⟨k, rfl, hk, HK, rfl⟩ := hrel
    by_cases hlt : k < s.size
    · have hltz : (k : Int) < (s.size : Int) := by omega
      obtain ⟨c, hc⟩ : ∃ c, s[k]'hlt = c := ⟨_, rfl⟩
      have hdr := drop_at s hlt
      rw [hc] at hdr
      have hk2 := HK.out
      have cb := fun W => blank_any W c
      by_cases hb : isBl c = true
      · rw [hdr, skip_cons, if_neg (by simp), if_pos hb] at hk2
        have HK2 : Hid (k + 1 + skipS false ((ls s).drop (k + 1)) = X) := by unfold Hid; omega
        simp only [hb] at cb
        clear hk2 hdr hb
        go_wp2_with (go_at_call 55; refine (cb _).mono ?_; rintro e w2 ⟨rfl, rfl⟩)
        go_roundw
        case rel => exact ⟨k + 1, by go_num, by omega, HK2, trivial⟩
        case measure => simp [intOf]; omega
      · have hbf : isBl c = false := by simpa using hb
        simp only [hbf] at cb
        by_cases h35 : c.toNat = 35
        · have h35z : ((c.toNat : Int) == 35) = true := by rw [h35]; rfl
          have cn := fun W => line_any W s k hk hs
          have hsr := skip_remark c ((ls s).drop (k + 1)) h35
          rw [← hdr] at hsr
          have hn1 : 1 ≤ lineN ((ls s).drop k) := by rw [hdr]; unfold lineN; rw [if_neg (by omega)]; omega
          have hn2 := lineN_le ((ls s).drop k)
          rw [List.length_drop, ls_size] at hn2
          rw [hsr, List.drop_drop] at hk2
          generalize lineN ((ls s).drop k) = n at cn hn1 hn2 hk2
          obtain ⟨m, hm⟩ : ∃ m, k + n = m := ⟨_, rfl⟩
          have HK2 : Hid (m + skipS false ((ls s).drop m) = X) := by unfold Hid; rw [← hm]; omega
          rw [hm] at cn
          have hkm : k < m := by omega
          have hms : m ≤ s.size := by omega
          clear hk2 hdr hb hbf h35 hsr hn1 hn2 hm
          go_wp2_with (first
            | (go_at_call 55; refine (cb _).mono ?_; rintro e w2 ⟨rfl, rfl⟩)
            | (go_at_call 56; refine (cn _).mono ?_; rintro e w2 ⟨rfl, rfl⟩))
          go_roundw
          case rel => exact ⟨m, rfl, by omega, HK2, trivial⟩
          case measure => simp [intOf]; omega
        · have h35z : ((c.toNat : Int) == 35) = false := beq_eq_false_iff_ne.2 (by omega)
          rw [hdr, skip_cons, if_neg (by simp), if_neg hb, if_neg h35] at hk2
          obtain rfl : k = X := by omega
          clear hk2 hdr hb hbf h35
          go_wp2_with (go_at_call 55; refine (cb _).mono ?_; rintro e w2 ⟨rfl, rfl⟩)
          go_ret
          exact ⟨rfl, rfl⟩
    · have hltz : ¬ (k : Int) < (s.size : Int) := by omega
      have HE : Hid (X = k) := by
        have := HK.out
        rw [drop_end s (by omega)] at this
        exact this.symm
      go_wp2
      go_ret
      exact ⟨ret_int (by rw [HE.out]), rfl⟩

set_option maxRecDepth 100000 in
set_option maxHeartbeats 2000000 in
theorem nameEnd_any (w : World) (s : ByteArray) (i : Nat) (hi : i ≤ s.size) (hs : s.size ≤ 9223372036854775806) :
    Calls Tryz.prog 83 #[.string s, .int .i64 i] w fun e w' => e = .returned (.int .i64 ((i + wordN ((ls s).drop i) : Nat) : Int)) ∧ w = w' := by
  obtain ⟨X, hX⟩ : ∃ X, i + wordN ((ls s).drop i) = X := ⟨_, rfl⟩
  rw [hX]
  have HX := Lib.hid hX
  clear hX
  go_enter Tryz.func83, Tryz.ntmps83
  go_wp2
  go_loopw [1] (fun v wr => ∃ k : Nat, v = .int .i64 k ∧ k ≤ s.size ∧ Hid (k + wordN ((ls s).drop k) = X) ∧ w = wr) (fun v _ => s.size - (intOf v).toNat)
  case atStart => exact ⟨i, rfl, hi, HX, rfl⟩
  case round =>
    obtain ⟨k, rfl, hk, HK, rfl⟩ := hrel
    by_cases hlt : k < s.size
    · have hltz : (k : Int) < (s.size : Int) := by omega
      obtain ⟨c, hc⟩ : ∃ c, s[k]'hlt = c := ⟨_, rfl⟩
      have hdr := drop_at s hlt
      rw [hc] at hdr
      have cl := fun W => letter_any W c
      have cd := fun W => digit_any W c
      have hk2 := HK.out
      rw [hdr, wordN_cons] at hk2
      by_cases hW : isW c = true
      · rw [if_pos hW] at hk2
        have HK2 : Hid (k + 1 + wordN ((ls s).drop (k + 1)) = X) := by unfold Hid; omega
        clear hk2 hdr
        by_cases hL : isL c = true
        · simp only [hL] at cl
          clear hL hW cd
          go_wp2_with (go_at_call 57; refine (cl _).mono ?_; rintro e w2 ⟨rfl, rfl⟩)
          go_roundw
          case rel => exact ⟨k + 1, by go_num, by omega, HK2, trivial⟩
          case measure => simp [intOf]; omega
        · have hLf : isL c = false := by simpa using hL
          have hD : isD c = true := by unfold isW at hW; rw [hLf, Bool.false_or] at hW; exact hW
          simp only [hLf] at cl
          simp only [hD] at cd
          clear hL hLf hD hW
          go_wp2_with (first
            | (go_at_call 57; refine (cl _).mono ?_; rintro e w2 ⟨rfl, rfl⟩)
            | (go_at_call 59; refine (cd _).mono ?_; rintro e w2 ⟨rfl, rfl⟩))
          go_roundw
          case rel => exact ⟨k + 1, by go_num, by omega, HK2, trivial⟩
          case measure => simp [intOf]; omega
      · rw [if_neg hW] at hk2
        have hWf : isL c = false ∧ isD c = false := by unfold isW at hW; simpa using hW
        simp only [hWf.1] at cl
        simp only [hWf.2] at cd
        have HE : Hid (X = k) := by unfold Hid; omega
        clear hdr hW hWf hk2
        go_wp2_with (first
          | (go_at_call 57; refine (cl _).mono ?_; rintro e w2 ⟨rfl, rfl⟩)
          | (go_at_call 59; refine (cd _).mono ?_; rintro e w2 ⟨rfl, rfl⟩))
        go_ret
        exact ⟨ret_int (by rw [HE.out]), rfl⟩
    · have hltz : ¬ (k : Int) < (s.size : Int) := by omega
      have HE : Hid (X = k) := by
        have := HK.out
        rw [drop_end s (by omega)] at this
        exact this.symm
      go_wp2
      go_ret
      exact ⟨ret_int (by rw [HE.out]), rfl⟩
end Go.Proofs.YtipcgmaobiobbaaGreatDoor
/- The walks of the code: a name, a number. -/
namespace Go.Proofs.YtipcgmaobiobbaaGreatDoor
open Go.RowKit

set_option maxRecDepth 100000 in
set_option maxHeartbeats 2000000 in
theorem word_any (w : World) (s : ByteArray) (i : Nat) (hi : i ≤ s.size) (hs : s.size ≤ 1048576) :
    Calls Tryz.prog 58 #[.string s, .int .i64 i] w (TokAt (wordR ((ls s).drop i)) i w) := by
  obtain ⟨R, hR⟩ : ∃ R, wordR ((ls s).drop i) = R := ⟨_, rfl⟩
  rw [hR]
  have hz := tkz w
  have cn := fun W => nameEnd_any W s i hi (by omega)
  have hwl := wordN_le ((ls s).drop i)
  rw [List.length_drop, ls_size] at hwl
  unfold wordR at hR
  obtain ⟨n, hn⟩ : ∃ n, wordN ((ls s).drop i) = n := ⟨_, rfl⟩
  rw [hn] at hR hwl
  simp only [hn] at cn
  obtain ⟨k, hk⟩ : ∃ k, i + n = k := ⟨_, rfl⟩
  simp only [hk] at cn
  have hik : (i : Int) ≤ (k : Int) := by omega
  have hks : (k : Int) ≤ (s.size : Int) := by omega
  by_cases h64 : 64 < n
  · rw [if_pos h64] at hR
    have hz64 : (64 : Int) < (k : Int) - (i : Int) := by omega
    subst hR
    clear hwl hn hk h64
    go_enter Tryz.func58, Tryz.ntmps58
    go_wp2_with (first
      | (go_at_call 83; refine (cn _).mono ?_; rintro e w2 ⟨rfl, rfl⟩)
      | (refine wpList_store_tok rfl (.tmp 4) (.tmp 15) rfl w.heap.size tk0 tk0 rfl rfl hz ?_; intro w9 h9 t9))
    exact bodyPost_ret (v := .tuple #[.agg (tkC tk0), .int .i64 ((i + 0 : Nat) : Int), .int .i64 ((111 : Nat) : Int)]) (results_tok rfl _ _ _ _ _ _ rfl rfl rfl h9) rfl ⟨below_alloc t9, rfl⟩
  · rw [if_neg h64] at hR
    have hz64 : ¬ (64 : Int) < (k : Int) - (i : Int) := by omega
    have hRE : R = .tok 1 (ls (s.extract i k)) 0 n := by rw [← hR, ls_extract, ← hk, show i + n - i = n by omega]
    have HRE := Lib.hid hRE
    have cc := fun W => clone_any W (s.extract i k) (by rw [ByteArray.size_extract]; omega)
    have HK := Lib.hid hk
    clear hwl hn hk h64 hR hRE
    go_enter Tryz.func58, Tryz.ntmps58
    go_wp2_with (first
      | (go_at_call 83; refine (cn _).mono ?_; rintro e w2 ⟨rfl, rfl⟩)
      | (go_at_call 62; refine (cc _).mono ?_; rintro e w3 ⟨rfl, hb3⟩; have hz3 := hz.below hb3)
      | (refine wpList_store_tok rfl (.tmp 4) (.tmp 24) rfl w.heap.size tk0 ⟨1, ls (s.extract i k), 0, i, k⟩ rfl rfl hz3 ?_; intro w9 h9 t9))
    rw [HRE.out]
    refine bodyPost_ret (v := .tuple #[.agg (tkC ⟨1, ls (s.extract i k), 0, i, k⟩), .int .i64 0, .int .i64 0]) (results_tok rfl _ _ _ _ _ _ rfl rfl rfl h9) rfl ⟨((Below.refl _ w).alloc (Nat.le_refl _) _).trans ((hb3.mono (by simp)).trans (t9.below (Nat.le_refl _))), ?_⟩
    show Ending.returned _ = Ending.returned _
    rw [HK.out]
end Go.Proofs.YtipcgmaobiobbaaGreatDoor
/- The walks of the code: a number. -/
namespace Go.Proofs.YtipcgmaobiobbaaGreatDoor
open Go.RowKit

/-- the number that digits spell behind a number -/
def numA (x : Nat) (l : List UInt8) : Nat := l.foldl (fun x c => x * 10 + (c.toNat - 48)) x
theorem numA_ge (l : List UInt8) : ∀ x, x ≤ numA x l := by
  induction l with
  | nil => exact fun x => Nat.le_refl _
  | cons c r ih => exact fun x => Nat.le_trans (by omega) (ih (x * 10 + (c.toNat - 48)))
theorem parse_num (l : List UInt8) : ∀ x, x ≤ 18446744073709551615 → l.all isD = true → Lib.parseUintM 18446744073709551615 x l = if 18446744073709551615 < numA x l then .range else .ok (numA x l) := by
  induction l with
  | nil => intro x hx _; rw [if_neg (by show ¬ _ < x; omega)]; rfl
  | cons c r ih =>
    intro x hx hl
    rw [List.all_cons, Bool.and_eq_true] at hl
    have hc : 48 ≤ c.toNat ∧ c.toNat ≤ 57 := by have := hl.1; unfold isD at this; exact of_decide_eq_true this
    have hg := numA_ge r (x * 10 + (c.toNat - 48))
    have e : numA x (c :: r) = numA (x * 10 + (c.toNat - 48)) r := rfl
    unfold Lib.parseUintM
    rw [if_pos hc, e]
    by_cases h1 : 1844674407370955162 ≤ x
    · rw [if_pos h1, if_pos (by omega)]
    · rw [if_neg h1]
      by_cases h2 : 18446744073709551615 < x * 10 + (c.toNat - 48)
      · rw [if_pos h2, if_pos (by omega)]
      · rw [if_neg h2, ih _ (by omega) hl.2]
theorem all_takeWhile (p : UInt8 → Bool) (l : List UInt8) : (l.takeWhile p).all p = true := by
  induction l with
  | nil => rfl
  | cons c r ih =>
    rw [List.takeWhile_cons]
    by_cases h : p c = true
    · rw [if_pos h, List.all_cons, h, ih]; rfl
    · rw [if_neg h]; rfl
theorem take_numN (l : List UInt8) : l.take (numN l) = l.takeWhile isD := by
  unfold numN
  exact (List.prefix_iff_eq_take.1 (List.takeWhile_prefix isD)).symm
theorem parse_digits (l : List UInt8) (h : 1 ≤ numN l) : Lib.parseUintB 64 (l.take (numN l)) = if 18446744073709551615 < numV (l.take (numN l)) then .range else .ok (numV (l.take (numN l))) := by
  have hne : l.take (numN l) ≠ [] := fun e => by
    rw [take_numN] at e
    unfold numN at h
    rw [e] at h
    simp at h
  unfold Lib.parseUintB
  rw [if_neg hne]
  exact parse_num _ 0 (by decide) (by rw [take_numN]; exact all_takeWhile _ _)

theorem of_bytes {w w' : World} {t : ByteArray} (h : w' = w ∨ w' = Lib.bytesWorld w 5 t) : Below w.heap.size w w' := by
  rcases h with rfl | rfl
  · exact Below.refl _ _
  · exact Lib.bytesWorld_below _ _ _

set_option maxRecDepth 100000 in
set_option maxHeartbeats 4000000 in
theorem number_any (w : World) (s : ByteArray) (i : Nat) (hi : i ≤ s.size) (hs : s.size ≤ 1048576) (h1 : 1 ≤ numN ((ls s).drop i)) (hE : EV w) :
    Calls Tryz.prog 60 #[.string s, .int .i64 i] w (TokAt (numR ((ls s).drop i)) i w) := by
  obtain ⟨X, hX⟩ : ∃ X, numN ((ls s).drop i) = X := ⟨_, rfl⟩
  obtain ⟨R, hR⟩ : ∃ R, numR ((ls s).drop i) = R := ⟨_, rfl⟩
  rw [hR]
  have hXl := numN_le ((ls s).drop i)
  rw [List.length_drop, ls_size] at hXl
  have hpd := parse_digits _ h1
  unfold numR at hR
  rw [hX] at hXl hpd hR h1
  have hls : ls (s.extract i (i + X)) = ((ls s).drop i).take X := by rw [ls_extract, show i + X - i = X by omega]
  have hts : (s.extract i (i + X)).size ≤ 1048576 := by rw [ByteArray.size_extract]; omega
  have HX := Lib.hid hX
  have hz := tkz w
  have hE1 := hE.new (.cells (tkC tk0) 84)
  obtain ⟨P, hP⟩ : ∃ P, numV (((ls s).drop i).take X) = P := ⟨_, rfl⟩
  rw [hP] at hpd hR
  rw [← hls] at hpd
  have HPD := Lib.hid hpd
  have HR := Lib.hid hR
  clear hX hR hpd hls hP
  go_enter Tryz.func60, Tryz.ntmps60
  go_wp2
  go_loopw [7] (fun v wr => ∃ k : Nat, v = .int .i64 k ∧ i ≤ k ∧ k ≤ s.size ∧ Hid ((k - i) + numN ((ls s).drop k) = X) ∧ w.alloc (.cells (tkC tk0) 84) = wr) (fun v _ => s.size - (intOf v).toNat)
  case atStart => exact ⟨i, rfl, Nat.le_refl _, hi, by unfold Hid; rw [HX.out]; omega, rfl⟩
  case round =>
    obtain ⟨k, rfl, hik, hk, HK, rfl⟩ := hrel
    by_cases hend : k < s.size ∧ ∃ c, (ls s)[k]? = some c ∧ isD c = true
    · obtain ⟨hlt, c, hc', hD⟩ := hend
      have hltz : (k : Int) < (s.size : Int) := by omega
      have hc : s[k]'hlt = c := by
        rw [List.getElem?_eq_getElem (by rw [ls_size]; exact hlt)] at hc'
        exact Option.some.inj hc'
      have hdr := drop_at s hlt
      rw [hc] at hdr
      have cd := fun W => digit_any W c
      have hk2 := HK.out
      rw [hdr, numN_cons, if_pos hD] at hk2
      have HK2 : Hid ((k + 1 - i) + numN ((ls s).drop (k + 1)) = X) := by unfold Hid; omega
      simp only [hD] at cd
      clear hk2 hdr hD hc'
      go_wp2_with (go_at_call 59; refine (cd _).mono ?_; rintro e w2 ⟨rfl, rfl⟩)
      go_roundw
      case rel => exact ⟨k + 1, by go_num, by omega, by omega, HK2, trivial⟩
      case measure => simp [intOf]; omega
    · have HE : i + X = k := by
        have hk2 := HK.out
        by_cases hlt : k < s.size
        · rw [drop_at s hlt, numN_cons, if_neg (fun hD => hend ⟨hlt, s[k], by rw [List.getElem?_eq_getElem (by rw [ls_size]; exact hlt)]; rfl, hD⟩)] at hk2
          omega
        · rw [drop_end s (by omega)] at hk2
          have : numN [] = 0 := rfl
          omega
      have hikz : (i : Int) ≤ (k : Int) := by omega
      have hkz : (k : Int) ≤ (s.size : Int) := by omega
      have HKX := Lib.hid HE
      rw [HE] at hts
      have HP2 := HPD.out
      rw [HE] at HP2
      have hRR := HR.out
      by_cases hlt : k < s.size
      · have hltz : (k : Int) < (s.size : Int) := by omega
        obtain ⟨c, hc⟩ : ∃ c, s[k]'hlt = c := ⟨_, rfl⟩
        have cd := fun W => digit_any W c
        have hDf : isD c = false := by
          cases hq : isD c with
          | false => rfl
          | true => exact absurd ⟨hlt, c, by rw [List.getElem?_eq_getElem (by rw [ls_size]; exact hlt)]; exact congrArg some hc, hq⟩ hend
        simp only [hDf] at cd
        clear hDf hend HE
        by_cases hbig : 18446744073709551615 < P
        · rw [if_pos hbig] at HP2 hRR
          subst hRR
          obtain ⟨_, te, pe, hv⟩ := hE1
          have cp := Tryz.strconv_ParseUint_10_at64_range (s.extract i k) (by omega) HP2 _ _ hv (.inr ⟨te, pe, rfl⟩)
          clear hbig HP2
          go_wp2_with (first
            | (go_at_call 59; refine (cd _).mono ?_; rintro e w2 ⟨rfl, rfl⟩)
            | (go_at_call 84; refine cp.mono ?_; rintro e w3 ⟨N, rfl, _, _, hb3⟩; have hz3 := hz.below hb3)
            | (refine wpList_store_tok rfl (.tmp 4) (.tmp 33) rfl w.heap.size tk0 tk0 rfl rfl hz3 ?_; intro w9 h9 t9))
          exact bodyPost_ret (v := .tuple #[.agg (tkC tk0), .int .i64 ((i + 0 : Nat) : Int), .int .i64 ((111 : Nat) : Int)]) (results_tok rfl _ _ _ _ _ _ rfl rfl rfl h9) rfl ⟨((Below.refl _ w).alloc (Nat.le_refl _) _).trans ((hb3.mono (by simp)).trans (t9.below (Nat.le_refl _))), rfl⟩
        · rw [if_neg hbig] at HP2 hRR
          have HRR := Lib.hid hRR
          have cp := fun W => Tryz.strconv_ParseUint_10_at64_ok (s.extract i k) (by omega) P HP2 W
          clear hbig HP2 hRR
          go_wp2_with (first
            | (go_at_call 59; refine (cd _).mono ?_; rintro e w2 ⟨rfl, rfl⟩)
            | (go_at_call 84; refine (cp _).mono ?_; rintro e w3 ⟨rfl, hw3⟩; have hb3 := of_bytes hw3; clear hw3; have hz3 := hz.below hb3)
            | (refine wpList_store_tok rfl (.tmp 4) (.tmp 38) rfl w.heap.size tk0 ⟨2, [], P, i, k⟩ rfl rfl hz3 ?_; intro w9 h9 t9))
          rw [← HRR.out]
          refine bodyPost_ret (v := .tuple #[.agg (tkC ⟨2, [], P, i, k⟩), .int .i64 0, .int .i64 0]) (results_tok rfl _ _ _ _ _ _ rfl rfl rfl h9) rfl ⟨((Below.refl _ w).alloc (Nat.le_refl _) _).trans ((hb3.mono (by simp)).trans (t9.below (Nat.le_refl _))), ?_⟩
          show Ending.returned _ = Ending.returned _
          rw [HKX.out]
      · have hltz : ¬ (k : Int) < (s.size : Int) := by omega
        clear hend HE
        by_cases hbig : 18446744073709551615 < P
        · rw [if_pos hbig] at HP2 hRR
          subst hRR
          obtain ⟨_, te, pe, hv⟩ := hE1
          have cp := Tryz.strconv_ParseUint_10_at64_range (s.extract i k) (by omega) HP2 _ _ hv (.inr ⟨te, pe, rfl⟩)
          clear hbig HP2
          go_wp2_with (first
            | (go_at_call 84; refine cp.mono ?_; rintro e w3 ⟨N, rfl, _, _, hb3⟩; have hz3 := hz.below hb3)
            | (refine wpList_store_tok rfl (.tmp 4) (.tmp 33) rfl w.heap.size tk0 tk0 rfl rfl hz3 ?_; intro w9 h9 t9))
          exact bodyPost_ret (v := .tuple #[.agg (tkC tk0), .int .i64 ((i + 0 : Nat) : Int), .int .i64 ((111 : Nat) : Int)]) (results_tok rfl _ _ _ _ _ _ rfl rfl rfl h9) rfl ⟨((Below.refl _ w).alloc (Nat.le_refl _) _).trans ((hb3.mono (by simp)).trans (t9.below (Nat.le_refl _))), rfl⟩
        · rw [if_neg hbig] at HP2 hRR
          have HRR := Lib.hid hRR
          have cp := fun W => Tryz.strconv_ParseUint_10_at64_ok (s.extract i k) (by omega) P HP2 W
          clear hbig HP2 hRR
          go_wp2_with (first
            | (go_at_call 84; refine (cp _).mono ?_; rintro e w3 ⟨rfl, hw3⟩; have hb3 := of_bytes hw3; clear hw3; have hz3 := hz.below hb3)
            | (refine wpList_store_tok rfl (.tmp 4) (.tmp 38) rfl w.heap.size tk0 ⟨2, [], P, i, k⟩ rfl rfl hz3 ?_; intro w9 h9 t9))
          rw [← HRR.out]
          refine bodyPost_ret (v := .tuple #[.agg (tkC ⟨2, [], P, i, k⟩), .int .i64 0, .int .i64 0]) (results_tok rfl _ _ _ _ _ _ rfl rfl rfl h9) rfl ⟨((Below.refl _ w).alloc (Nat.le_refl _) _).trans ((hb3.mono (by simp)).trans (t9.below (Nat.le_refl _))), ?_⟩
          show Ending.returned _ = Ending.returned _
          rw [HKX.out]
end Go.Proofs.YtipcgmaobiobbaaGreatDoor
