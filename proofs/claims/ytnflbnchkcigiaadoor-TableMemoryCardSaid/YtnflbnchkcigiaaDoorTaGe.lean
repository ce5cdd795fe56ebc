/- The walks of what reads bytes: Take, and the reference's Take. -/
import Derived.Test.YtnflbnchkcigiaaDoorTaGb
import Derived.Test.YtnflbnchkcigiaaDoorTaGa
import Derived.Test.YtnflbnchkcigiaaDoorTaGc
import Derived.Deep.QuietTactic
import Derived.BigQuiet
import Derived.IntWalk
import Derived.Outline
import Derived.Laws.CopyOwn
import Derived.Laws.MakeOwn
import Derived.Laws.IdiomCopy
import Derived.OwnWalk
import Derived.Deep.AppendLies
import Derived.Maps.AppendAt
import Derived.Lib.AppendStr
namespace Go.Proofs.YtnflbnchkcigiaaDoor
open Go.RowKit

/-- a byte among the others -/
theorem or_add (a c i : Nat) (ha : a < 2 ^ (7 * i)) : a ||| c * 2 ^ (7 * i) = a + c * 2 ^ (7 * i) := by
  rw [Nat.or_comm, Nat.mul_comm c, ← Nat.two_pow_add_eq_or_of_lt ha, Nat.add_comm]
theorem pow_le (k : Nat) (h : k ≤ 8) : (2 : Nat) ^ (7 * k) ≤ 72057594037927936 := by
  have h := Nat.pow_le_pow_right (show 0 < 2 by decide) (show 7 * k ≤ 56 by omega)
  have e : (2 : Nat) ^ 56 = 72057594037927936 := by decide
  rw [e] at h; exact h
theorem part_lt (c : UInt8) (k : Nat) (hk : k ≤ 9) (hb : ¬ bad c k = true) : c.toNat % 128 * 2 ^ (7 * k) ≤ 9223372036854775808 := by
  by_cases h9 : k = 9
  · subst h9
    have : c.toNat ≤ 1 := by simp [bad] at hb; omega
    have e : (2 : Nat) ^ (7 * 9) = 9223372036854775808 := by decide
    rw [e]; omega
  · have h := Nat.mul_le_mul (show c.toNat % 128 ≤ 127 by omega) (pow_le k (by omega))
    omega
theorem or_part (c : UInt8) (k acc : Nat) (hk : k ≤ 9) (hb : ¬ bad c k = true) (ha : acc < 2 ^ (7 * k)) :
    bits .or .u64 (acc : Int) (IntKind.u64.wrap ((c.toNat : Int) % 128 * 2 ^ (7 * k))) = ((acc + c.toNat % 128 * 2 ^ (7 * k) : Nat) : Int) := by
  have hp := part_lt c k hk hb
  have ha2 : acc < 9223372036854775808 := by
    refine Nat.lt_of_lt_of_le ha ?_
    have h := Nat.pow_le_pow_right (show 0 < 2 by decide) (show 7 * k ≤ 63 by omega)
    have e : (2 : Nat) ^ 63 = 9223372036854775808 := by decide
    rw [e] at h; exact h
  have e : ((c.toNat : Int) % 128 * 2 ^ (7 * k)) = ((c.toNat % 128 * 2 ^ (7 * k) : Nat) : Int) := by
    rw [Int.natCast_mul, Int.natCast_pow]; rfl
  rw [e, IntWalk.u64_in _ (by omega), u64_or _ _ (by omega) (by omega) (by omega) (by omega), Int.toNat_natCast, Int.toNat_natCast, or_add _ _ _ ha]

theorem at_drop (l : List UInt8) (k : Nat) (h : k < l.length) : l.drop k = l[k] :: l.drop (k + 1) := List.drop_eq_getElem_cons h
theorem step_bad (l : List UInt8) (k : Nat) (h : k < l.length) (hb : bad l[k] k = true) : stops k (l.drop k) = (0, 3) := by
  rw [at_drop l k h, stops, if_pos hb]
theorem step_end (l : List UInt8) (k : Nat) (h : k < l.length) (hb : ¬ bad l[k] k = true) (hc : l[k].toNat < 128) : stops k (l.drop k) = (k + 1, 0) := by
  rw [at_drop l k h, stops, if_neg hb, if_pos hc]
theorem step_on (l : List UInt8) (k : Nat) (h : k < l.length) (hb : ¬ bad l[k] k = true) (hc : 128 ≤ l[k].toNat) : stops k (l.drop k) = stops (k + 1) (l.drop (k + 1)) ∧ k ≠ 9 := by
  refine ⟨by rw [at_drop l k h, stops, if_neg hb, if_neg (by omega)], ?_⟩
  rintro rfl
  simp [bad] at hb
  omega
theorem step_val (l : List UInt8) (k : Nat) (h : k < l.length) : val (l.take (k + 1)) = val (l.take k) + l[k].toNat % 128 * 2 ^ (7 * k) := by
  rw [List.take_succ_eq_append_getElem h, val_snoc, List.length_take, Nat.min_eq_left (by omega), Nat.pow_mul]
theorem step_lt (l : List UInt8) (k : Nat) : val (l.take k) < 2 ^ (7 * k) := by
  refine Nat.lt_of_lt_of_le (val_lt _) ?_
  rw [Nat.pow_mul]
  exact Nat.pow_le_pow_right (by decide) (List.length_take_le _ _)
theorem ret_take {l : List UInt8} {x n e : Nat} (h : stops 0 l = (n, e)) (hx : x = val (l.take n)) :
    Ending.returned (.tuple #[.int .u64 (x : Int), .int .i64 (n : Int), .int .i64 (e : Int)]) = .returned (.tuple #[.int .u64 (tkX l : Nat), .int .i64 (tkN l : Nat), .int .i64 (tkE l : Nat)]) := by
  unfold tkX tkN tkE
  rw [h, hx]

theorem andNot_128 (c : UInt8) : bits .andNot .u8 (c.toNat : Nat) 128 = ((c.toNat % 128 : Nat) : Int) := by
  have h : ∀ n : Fin 256, bits .andNot .u8 (n.val : Int) 128 = ((n.val % 128 : Nat) : Int) := by decide +kernel
  exact h ⟨c.toNat, c.toNat_lt⟩

set_option maxRecDepth 100000 in
set_option maxHeartbeats 400000 in
theorem take_any {w : World} {B : Nat} {A : Option Addr} {l : List UInt8} (c : Nat) (h : Byt w B A l) (hm : l.length ≤ 140737488355328) :
    Calls Tryd.prog 56 #[.slice A l.length c] w fun e w' => e = .returned (.tuple #[.int .u64 (tkX l : Nat), .int .i64 (tkN l : Nat), .int .i64 (tkE l : Nat)]) ∧ w = w' := by
  go_enter Tryd.func56, Tryd.ntmps56
  go_wp2
  go_loop [5, 10] (fun x i => ∃ k acc : Nat, k ≤ l.length ∧ k ≤ 9 ∧ x = .int .u64 acc ∧ i = .int .i64 k ∧ acc < 2 ^ (7 * k) ∧ Hid (acc = val (l.take k)) ∧ Hid (stops 0 l = stops k (l.drop k))) (fun _ i => l.length - (intOf i).toNat)
  case atStart => exact ⟨0, 0, Nat.zero_le _, Nat.zero_le _, rfl, rfl, by decide, rfl, rfl⟩
  case round =>
    obtain ⟨k, acc, hk, hk9, rfl, rfl, hacc, HV, HS⟩ := hrel
    by_cases hlt : k < l.length
    · obtain ⟨b, o, rfl, hB, hc⟩ := h.at_ (by omega)
      have hck := hc k hlt
      clear hc
      have hc8 := l[k].toNat_lt
      have hA := andNot_128 l[k]
      by_cases hbad : bad l[k] k = true
      · have hn : (!bad l[k] k) = false := by rw [hbad]; rfl
        have HB := Lib.hid hbad
        clear hbad
        go_wp2_with (go_at_call 73; refine (stand_any _ _ _ (by omega)).mono ?_; rintro e w' ⟨rfl, rfl⟩)
        go_ret3
        exact ⟨ret_take (x := 0) (HS.out.trans (step_bad l k hlt HB.out)) rfl, rfl⟩
      · have hn : (!bad l[k] k) = true := by simpa using hbad
        have hO := or_part l[k] k acc hk9 hbad hacc
        have HB := Lib.hid hbad
        clear hbad
        by_cases hc1 : l[k].toNat < 128
        · go_wp2_with (go_at_call 73; refine (stand_any _ _ _ (by omega)).mono ?_; rintro e w' ⟨rfl, rfl⟩)
          go_ret3
          exact ⟨ret_take (HS.out.trans (step_end l k hlt HB.out hc1)) (by rw [step_val l k hlt, ← HV.out]; rfl), rfl⟩
        · go_wp2_with (go_at_call 73; refine (stand_any _ _ _ (by omega)).mono ?_; rintro e w' ⟨rfl, rfl⟩)
          go_round
          case rel =>
            obtain ⟨hs, h9⟩ := step_on l k hlt HB.out (by omega)
            have hv := step_val l k hlt
            rw [← HV.out] at hv
            exact ⟨k + 1, acc + l[k].toNat % 128 * 2 ^ (7 * k), by omega, by omega, rfl, by go_num, by rw [← hv]; exact step_lt l (k + 1), hv.symm, HS.out.trans hs⟩
          case measure => simp [intOf]; omega
    · go_wp2
      go_ret3
      refine ⟨ret_take (x := 0) (n := 0) (e := 5) (HS.out.trans ?_) rfl, rfl⟩
      rw [List.drop_eq_nil_of_le (by omega)]; rfl

theorem val_drop (l : List UInt8) : ∀ j, val (l.drop j) ≤ val l := by
  induction l with
  | nil => intro j; simp
  | cons c r ih =>
    intro j
    cases j with
    | zero => simp
    | succ j => rw [List.drop_succ_cons, val]; have := ih j; omega
theorem val_at (l : List UInt8) (k i : Nat) (hi : i ≤ k) (hk : k < l.length) : val ((l.take (k + 1)).drop i) = l[i].toNat % 128 + 128 * val ((l.take (k + 1)).drop (i + 1)) := by
  rw [List.drop_eq_getElem_cons (by simp; omega), val]
  simp
theorem whole_lt (l : List UInt8) (k : Nat) (h : stops 0 l = (k + 1, 0)) : val (l.take (k + 1)) < 18446744073709551616 := by
  obtain ⟨m, hm, _, _, _, _, hv, _⟩ := stops_ok l 0 (k + 1) (by omega) h
  rw [Nat.zero_add] at hm
  subst hm
  simpa using hv

end Go.Proofs.YtnflbnchkcigiaaDoor
/- copy out of bytes that came in, into a row of the call's own. No walk here. -/
namespace Go.Proofs.YtnflbnchkcigiaaDoor
open Go.RowKit
open Go.Lib (byteCells)

theorem byteCells_at (l : List UInt8) (j : Nat) (v : Value) (h : (byteCells l)[j]? = some v) : ∃ hj : j < l.length, v = .int .u8 (l[j].toNat : Nat) := by
  rcases Nat.lt_or_ge j l.length with hj | hj
  · refine ⟨hj, ?_⟩
    rw [byteCells_get l j hj] at h
    exact (Option.some.inj h).symm
  · rw [List.getElem?_eq_none (by rw [Go.Lib.byteCells_length]; exact hj)] at h
    cases h

theorem run_copy_byt {P : Program} {w : World} {B : Nat} {A : Option Addr} {l : List UInt8} (h : Byt w B A l) (T ty e : TypeId) (hu : P.underlying T = some (.slice e)) (hs : (P.info? e).map (·.size) = some 1)
    (g off dLen dCap c : Nat) (t : TypeId) (cur : List Value) (hg : w.heap[g]? = some (.cells cur.toArray t (0, 0))) (hn : l.length ≤ dLen) (hfit : off + l.length ≤ cur.length) :
    ∃ w1, (Builtin.copy_ #[T, T] ty #[.slice (some ⟨g, off, none⟩) dLen dCap, .slice A l.length c]).run P w = .ok (.int .i64 (l.length : Nat)) w1 ∧
      w1.heap[g]? = some (.cells (splice cur off (byteCells l)).toArray t (0, 0)) ∧ Below g w w1 ∧ w1.heap.size = w.heap.size := by
  have hlen := Go.Lib.byteCells_length l
  rcases Nat.eq_zero_or_pos l.length with h0 | h0
  · obtain rfl := List.eq_nil_of_length_eq_zero h0
    refine ⟨w, run_copy_none w T T ty e _ _ _ _ _ _ hu hs (by simp), ?_, Below.refl _ _, rfl⟩
    simpa [splice, byteCells] using hg
  · obtain ⟨b, o, rfl, _, hc⟩ := h.at_ h0
    have hmin : Nat.min l.length dLen = l.length := Nat.min_eq_left hn
    have hr := run_copy_row (P := P) w T T ty e g off dLen dCap ⟨b, o, none⟩ l.length c cur.toArray t (byteCells l) hu hs hg (by rw [hmin, hlen]) (fun j v hv => by
      obtain ⟨hj, rfl⟩ := byteCells_at l j v hv
      rw [Addr.add_lit]; exact hc j hj) (by rw [hlen]; simpa using hfit) (byteCells_one l)
    rw [hlen] at hr
    refine ⟨_, hr, ?_, below_setRow (Below.refl _ _) (Nat.le_refl _) _, by simp [World.setRow]⟩
    rw [setRow_heap w g _ _ t _ hg]
    simp [splice, hlen]

/-- into a new row -/
theorem run_copy_fresh {P : Program} {w : World} {A : Option Addr} {l : List UInt8} (h : Byt w w.heap.size A l) (T ty e : TypeId) (hu : P.underlying T = some (.slice e)) (hs : (P.info? e).map (·.size) = some 1)
    (z : Value) (m c cap : Nat) (hcap : cap = l.length + m) (hmax : cap ≤ maxLen) :
    ∃ w1, (Builtin.copy_ #[T, T] ty #[.slice (some ⟨w.heap.size, 0, none⟩) l.length cap, .slice A l.length c]).run P (w.alloc (.cells (Array.replicate cap z) e)) = .ok (.int .i64 (l.length : Nat)) w1 ∧
      w1.ownsRow w.heap.size e 1 (.slice (some ⟨w.heap.size, 0, none⟩) l.length cap) l.length (byteCells l) ∧ Below w.heap.size w w1 := by
  have hlen := Go.Lib.byteCells_length l
  subst hcap
  obtain ⟨w1, hr, hh, hb, hz⟩ := run_copy_byt (P := P) (h.below ((Below.refl _ w).alloc (Nat.le_refl _) (.cells (Array.replicate (l.length + m) z) e))) T ty e hu hs w.heap.size 0 l.length (l.length + m) c e
    (List.replicate (l.length + m) z) (by simpa using heap_alloc_new w _) (Nat.le_refl _) (by simp)
  refine ⟨w1, hr, ⟨by rw [hlen]; omega, .inr ⟨w.heap.size, l.length + m, _, rfl, Nat.le_refl _, hh, by omega, hmax, by simp [splice, hlen], ?_⟩⟩, ((Below.refl _ w).alloc (Nat.le_refl _) _).trans (hb.mono (Nat.le_refl _))⟩
  simp [splice, ← hlen]
end Go.Proofs.YtnflbnchkcigiaaDoor
/- The walks of what makes bytes: Put and the reference's Put. -/
namespace Go.Proofs.YtnflbnchkcigiaaDoor
open Go.RowKit
open Go.Lib (byteCells uvarint)

theorem infoB : (Tryd.prog.info? 5).map (fun i => (i.zero, i.size, i.bytes)) = some (some (.int .u8 0), 1, 1) := by kernel_rfl

/-- what is answered is a row of the call's own: the bytes l -/
def NewRow (W : World) (l : List UInt8) (e : Ending) (w' : World) : Prop :=
  ∃ g cap, e = .returned (.slice (some ⟨g, 0, none⟩) l.length cap) ∧ w'.ownsRow W.heap.size 5 1 (.slice (some ⟨g, 0, none⟩) l.length cap) l.length (byteCells l) ∧ Below W.heap.size W w'

set_option maxRecDepth 100000 in
theorem run_mk (n c : Nat) (hnc : n ≤ c) (hc : c ≤ 140737488355328) (W : World) : (Instr.makeSlice 56 (.int .i64 (n : Int)) (.int .i64 (c : Int))).run Tryd.prog W =
    .ok (.slice (some ⟨W.heap.size, 0, none⟩) n c) (W.alloc (.cells (Array.replicate c (.int .u8 0)) 5)) := by
  obtain ⟨i0, hi, hz0, hz1, hz2⟩ := info_parts infoB
  have h := run_make (P := Tryd.prog) W 56 5 i0 _ Tryd.underlying56 hi hz0 .i64 .i64 (n : Int) (c : Int) (by omega) (by omega) (by rw [hz2]; omega) (by omega)
  rw [hz1] at h
  simp only [Int.toNat_natCast, Nat.mul_one] at h
  rw [h]
  congr 3
  apply Array.toList_inj.1
  rw [Array.toList_replicate]
  exact toList_madeCells_one _ _

/-- one byte more -/
theorem one_more (pre : List UInt8) (n : Nat) (h : n < 256) : byteCells pre ++ [Value.int .u8 (n : Int)] = byteCells (pre ++ [n.toUInt8]) := (Go.Lib.byteCells_snoc pre h).symm

theorem own_more {w : World} {B g cap n : Nat} {pre : List UInt8} (hn : n < 256) (h : w.ownsRow B 5 1 (.slice (some ⟨g, 0, none⟩) (pre.length + 1) cap) (pre.length + 1) (byteCells pre ++ [.int .u8 (n : Int)])) :
    w.ownsRow B 5 1 (.slice (some ⟨g, 0, none⟩) (pre ++ [n.toUInt8]).length cap) (pre ++ [n.toUInt8]).length (byteCells (pre ++ [n.toUInt8])) := by
  rw [one_more pre n hn] at h
  rw [List.length_append]
  exact h
theorem below_more {w wr w4 : World} {B g cap n m : Nat} {xs : List Value} {o : Obj} (hb : Below B w wr) (hB : B ≤ wr.heap.size) (hr : wr.ownsRow B 5 1 (.slice (some ⟨g, 0, none⟩) n cap) m xs)
    (hg : (wr.alloc o).grownBy w4 (Value.slice (some ⟨g, 0, none⟩) n cap).ownBlock) : Below B w w4 :=
  (hb.alloc hB o).grown hg (by simp; omega) fun k hk => (hr.lt k hk).1

theorem or_128 (y : Nat) : bits .or .u8 ((y : Int) % 256) 128 = ((y % 128 + 128 : Nat) : Int) := by
  rw [Go.Lib.u8_or128_any _ (by omega) (by omega)]; omega

set_option maxRecDepth 100000 in
set_option maxHeartbeats 1000000 in
theorem put_any {w : World} {A : Option Addr} {l : List UInt8} (c x : Nat) (h : Byt w w.heap.size A l) (hm : l.length ≤ 1099511627776) (hx : x ≤ 18446744073709551615) :
    Calls Tryd.prog 68 #[.slice A l.length c, .int .u64 x] w (NewRow w (l ++ uvarint x)) := by
  have hsz := vsz_le (x := x) (by omega)
  have hmk : ∀ W : World, (Instr.makeSlice 56 (.int .i64 (l.length : Int)) (.int .i64 ((l.length : Int) + (vsz x : Int)))).run Tryd.prog W =
      .ok (.slice (some ⟨W.heap.size, 0, none⟩) l.length (l.length + vsz x)) (W.alloc (.cells (Array.replicate (l.length + vsz x) (.int .u8 0)) 5)) := run_mk l.length (l.length + vsz x) (by omega) (by omega)
  have hsz1 : (Tryd.prog.info? 5).map (·.size) = some 1 := by kernel_rfl
  obtain ⟨wc, hcp, hown, hB⟩ := run_copy_fresh (P := Tryd.prog) h 56 3 5 Tryd.underlying56 hsz1 (.int .u8 0) (vsz x) c (l.length + vsz x) rfl (by simp only [maxLen]; omega)
  obtain ⟨i0, hi, hz0, hz1, hz2⟩ := info_parts infoB
  have HI := Lib.hid hi
  have HZ := Lib.hid (And.intro hz0 (And.intro hz1 hz2))
  have HO := Lib.hid hown
  clear hi hz0 hz1 hz2 hsz1 hown
  go_enter Tryd.func68, Tryd.ntmps68
  go_wp2_with (go_at_call 67; refine (size_any _ _ (by omega)).mono ?_; rintro e w' ⟨rfl, rfl⟩)
  clear hmk hcp
  go_loopw [1, 5] (fun x' v wr => ∃ (pre : List UInt8) (y g cap : Nat), x' = .int .u64 y ∧ v = .slice (some ⟨g, 0, none⟩) pre.length cap ∧ y ≤ x ∧ Hid (l ++ uvarint x = pre ++ uvarint y) ∧ pre.length ≤ l.length + 10 ∧
    Hid (wr.ownsRow w.heap.size 5 1 (.slice (some ⟨g, 0, none⟩) pre.length cap) pre.length (byteCells pre)) ∧ Below w.heap.size w wr) (fun x' _ _ => (intOf x').toNat)
  case atStart => exact ⟨l, x, w.heap.size, l.length + vsz x, rfl, rfl, Nat.le_refl _, rfl, by omega, HO, hB⟩
  case round =>
    obtain ⟨pre, y, g, cap, rfl, rfl, hy, HP, hpl, HR, hBr⟩ := hrel
    have hbs := hBr.size
    have hlen : pre.length + vsz y ≤ l.length + 10 := by
      have := congrArg List.length HP.out
      simp only [List.length_append] at this
      unfold vsz at hsz ⊢
      omega
    have hvp := vsz_pos y
    by_cases hlt : 128 ≤ y
    · have hO := or_128 y
      have hvb := vsz_pos (y / 128)
      go_wp2_with (at_builtin; refine wpList_append_lies _ rfl _ _ 56 rfl w.heap.size 5 i0 _ 1 1 Tryd.underlying56 HI.out HZ.out.1 HZ.out.2.1 HZ.out.2.2 rfl (by decide) (.slice (some ⟨g, 0, none⟩) pre.length cap) pre.length (byteCells pre) rfl (HR.out.alloc _) ⟨wr.heap.size, 0, none⟩ 1 1 [.int .u8 ((y % 128 + 128 : Nat) : Int)] rfl rfl (World.news_of_block (cs := #[.int .u8 ((y % 128 + 128 : Nat) : Int)]) (t := 5) (fr := (0, 0)) (heap_alloc_new wr _)) (by simp [Value.oneCell']) (by omega) (by simp only [maxLen]; omega) (by omega) (by simp; omega) (wr.heap.size + 1) (by simp) ?_; intro gg cap2 w4 hown hgrow hat hlt4)
      go_roundw
      case rel =>
        refine ⟨pre ++ [(y % 128 + 128).toUInt8], y / 128, gg, cap2, by go_num, by rw [List.length_append]; rfl, by omega, ?_, ?_, own_more (by omega) hown, below_more hBr hbs HR.out hgrow⟩
        · have h1 := HP.out
          rw [Go.Lib.uvarint_big hlt] at h1
          rw [List.append_assoc]
          exact h1
        · rw [List.length_append, List.length_singleton]
          have := vsz_big hlt
          omega
      case measure => simp [intOf]; omega
    · have hy8 : y < 128 := by omega
      go_wp2_with (at_builtin; refine wpList_append_lies _ rfl _ _ 56 rfl w.heap.size 5 i0 _ 1 1 Tryd.underlying56 HI.out HZ.out.1 HZ.out.2.1 HZ.out.2.2 rfl (by decide) (.slice (some ⟨g, 0, none⟩) pre.length cap) pre.length (byteCells pre) rfl (HR.out.alloc _) ⟨wr.heap.size, 0, none⟩ 1 1 [.int .u8 (y : Int)] rfl rfl (World.news_of_block (cs := #[.int .u8 (y : Int)]) (t := 5) (fr := (0, 0)) (heap_alloc_new wr _)) (by simp [Value.oneCell']) (by omega) (by simp only [maxLen]; omega) (by omega) (by simp; omega) (wr.heap.size + 1) (by simp) ?_; intro gg cap2 w4 hown hgrow hat hlt4)
      go_ret
      have h1 := HP.out
      rw [Go.Lib.uvarint_small hy8] at h1
      rw [h1]
      exact ⟨gg, cap2, by rw [List.length_append]; rfl, own_more (by omega) hown, below_more hBr hbs HR.out hgrow⟩

end Go.Proofs.YtnflbnchkcigiaaDoor
/- append of bytes that came in (nil, empty or not) onto a row of the call's own, as a run equation. No walk here. -/
namespace Go.Proofs.YtnflbnchkcigiaaDoor
open Go.RowKit
open Go.Lib (byteCells)

/-- the slice value v is a row of the call's own: the bytes l -/
def OwnB (w : World) (base : Nat) (e : TypeId) (A : Option Addr) (c : Nat) (l : List UInt8) : Prop :=
  w.ownsRow base e 1 (.slice A l.length c) l.length (byteCells l)

theorem OwnB.reads {w : World} {base : Nat} {e : TypeId} {A : Option Addr} {c : Nat} {l : List UInt8} (h : OwnB w base e A c l) : Byt w w.heap.size A l := (Byt.own h).2
theorem OwnB.lt {w : World} {base : Nat} {e : TypeId} {A : Option Addr} {c : Nat} {l : List UInt8} (h : OwnB w base e A c l) : ∀ k, (Value.slice A l.length c).ownBlock = some k → base ≤ k ∧ k < w.heap.size := World.ownsRow.lt h
theorem OwnB.nil (w : World) (base : Nat) (e : TypeId) : OwnB w base e none 0 [] := World.ownsRow_nil w base e 1

theorem own_low {w : World} {base base' : Nat} {e : TypeId} {v : Value} {n : Nat} {xs : List Value} (hB : base' ≤ base) (h : w.ownsRow base e 1 v n xs) : w.ownsRow base' e 1 v n xs := by
  refine ⟨h.1, ?_⟩
  rcases h.2 with h0 | ⟨g, cap, cur, hv, hb, rest⟩
  · exact .inl h0
  · exact .inr ⟨g, cap, cur, hv, by omega, rest⟩
theorem own_room {w : World} {base : Nat} {e : TypeId} {A : Option Addr} {n c m : Nat} {xs : List Value} (h : w.ownsRow base e 1 (.slice A n c) m xs) : n ≤ c ∧ n = m := by
  rcases h.2 with ⟨hv, h0⟩ | ⟨g, cap, cur, hv, hb, hg, hn, rest⟩
  · injection hv with _ h2 h3
    omega
  · injection hv with _ h2 h3
    omega

theorem run_append_nothing {P : Program} {w : World} (base : Nat) (T ty e : TypeId) (i : TypeInfo) (ht : P.underlying T = some (.slice e)) (hi : P.info? e = some i) (v : Value) (n c : Nat) (xs : List Value)
    (hown : w.ownsRow base e 1 v n xs) : (Builtin.append_ #[T, T] ty #[v, .slice none 0 c]).run P w = .ok v w := by
  rcases hown.2 with ⟨rfl, rfl⟩ | ⟨g, cap, cur, rfl, _, _, hnc, _⟩ <;>
    simp [Builtin.append_, run_underlying ht, sizeOf, typeInfo, Builtin.lenOf, Builtin.firstCells, *, storeCells]

/-- pre and then l -/
theorem run_append_byt {P : Program} {w : World} {B : Nat} {A A0 : Option Addr} {pre l : List UInt8} (base : Nat) (T ty e : TypeId) (i : TypeInfo) (z : Value)
    (ht : P.underlying T = some (.slice e)) (hi : P.info? e = some i) (hz : i.zero = some z) (hs : i.size = 1) (hb : i.bytes = 1) (hzs : z.cells.size = 1)
    (c0 c : Nat) (hown : OwnB w base e A0 c0 pre) (h : Byt w B A l) (r : List UInt8) (hr : r = pre ++ l) (hm : r.length ≤ 140737488355328) (hbase : base ≤ w.heap.size) :
    ∃ A' c' w', (Builtin.append_ #[T, T] ty #[.slice A0 pre.length c0, .slice A l.length c]).run P w = .ok (.slice A' r.length c') w' ∧ OwnB w' base e A' c' r ∧ Below base w w' := by
  subst hr
  have hln : (pre ++ l).length = pre.length + l.length := List.length_append
  rw [hln] at hm
  have close : ∀ v' w', (Builtin.append_ #[T, T] ty #[.slice A0 pre.length c0, .slice A l.length c]).run P w = .ok v' w' → w'.ownsRow base e 1 v' (pre.length + l.length) (byteCells pre ++ byteCells l) → w.grownBy w' (Value.slice A0 pre.length c0).ownBlock →
      ∃ A' c' w', (Builtin.append_ #[T, T] ty #[.slice A0 pre.length c0, .slice A l.length c]).run P w = .ok (.slice A' (pre ++ l).length c') w' ∧ OwnB w' base e A' c' (pre ++ l) ∧ Below base w w' := by
    intro v' w' hr ho hg
    rw [← Go.Lib.byteCells_append, ← hln] at ho
    have hB : Below base w w' := (Below.refl base w).grown hg hbase fun k hk => (hown.lt k hk).1
    rcases ho.2 with ⟨rfl, h0⟩ | ⟨g, cap, cur, rfl, rest⟩
    · exact ⟨none, 0, w', by rw [hr, h0], by unfold OwnB; rw [h0] at ho ⊢; exact ho, hB⟩
    · exact ⟨some ⟨g, 0, none⟩, cap, w', hr, ho, hB⟩
  have hcells : ∀ a : Addr, A = some a → ∀ j u, (byteCells l)[j]? = some u → w.cell? (a.add j) = some u := by
    intro a ha j u hu
    obtain ⟨hj, rfl⟩ := byteCells_at l j u hu
    obtain ⟨b, o, hA, _, hc⟩ := h.at_ (by omega)
    rw [hA] at ha
    obtain rfl := Option.some.inj ha
    rw [Addr.add_lit]
    exact hc j hj
  rcases A with _ | a
  · have hl : l = [] := by
      rcases h with h | ⟨b, o, hA, _⟩
      · exact h
      · cases hA
    subst hl
    have := run_append_nothing (P := P) base T ty e i ht hi _ _ c _ hown
    exact close _ _ this (by have h := hown; unfold OwnB at h; simpa [byteCells] using h) ⟨rfl, rfl, rfl, Nat.le_refl _, fun _ _ _ => rfl⟩
  · obtain ⟨v', w', hr, ho, hg, _, _⟩ := run_append_own_at (P := P) w base T ty e i z 1 1 ht hi hz hs hb hzs (by decide) _ pre.length (byteCells pre) hown a l.length c (byteCells l) (by rw [Go.Lib.byteCells_length]; omega) (hcells a rfl)
      (byteCells_one l) (by simp only [maxLen]; omega) (by omega) hbase
    exact close _ _ hr ho hg

/-- At the operation, out of a run equation: an arm behind 'at_builtin'. -/
theorem wpList_append_run {P : Program} {w w' : World} {ops : Array Oper} {rest : List Oper} {o : Oper} {a : Act} {Q : Exit → Act → World → Prop} (hgd : o.guard = none) (s x : Operand) (T : TypeId)
    (ho : o.op = .call { callee := .builtin .append, args := #[s, x], argTypes := #[T, T] }) {u v v' : Value} (hs : a.eval s = u) (hx : a.eval x = v)
    (hrun : (Builtin.append_ #[T, T] o.type #[u, v]).run P w = .ok v' w') (h : wpList P ops Q rest (a.put o.dst v') w') : wpList P ops Q (o :: rest) a w :=
  wpList_plain hgd fun _ hK => by
    unfold Oper.wp execOp
    simp only [ho, resolve, invoke, builtin, Sem.run_bind, Sem.run_pure, Result.andThen_ok, List.map_toArray, List.map_cons, List.map_nil, hs, hx, hrun]
    exact hK _ _ h
end Go.Proofs.YtnflbnchkcigiaaDoor
/- The walks of appendNumber, appendField, Encode. -/
namespace Go.Proofs.YtnflbnchkcigiaaDoor
open Go.RowKit
open Go.Lib (byteCells uvarint)

theorem own_then {w w' : World} {base : Nat} {e : TypeId} {s : Nat} {v : Value} {n : Nat} {xs : List Value} (h : w.ownsRow base e s v n xs) (hb : Below w.heap.size w w') : w'.ownsRow base e s v n xs := by
  refine ⟨h.1, ?_⟩
  rcases h.2 with h0 | ⟨g, cap, cur, hv, hg, hc, rest⟩
  · exact .inl h0
  · exact .inr ⟨g, cap, cur, hv, hg, (hb.block g (Array.getElem?_eq_some_iff.1 hc).1).trans hc, rest⟩
theorem OwnB.then_ {w w' : World} {base : Nat} {e : TypeId} {A : Option Addr} {c : Nat} {l : List UInt8} (h : OwnB w base e A c l) (hb : Below w.heap.size w w') : OwnB w' base e A c l := own_then h hb
theorem OwnB.new {w : World} {base : Nat} {e : TypeId} {A : Option Addr} {c : Nat} {l : List UInt8} (h : OwnB w base e A c l) (o : Obj) : OwnB (w.alloc o) base e A c l := h.then_ ((Below.refl _ _).alloc (Nat.le_refl _) _)

/-- the row v has grown into r; beside its block only new ones have turned -/
structure AppTo (w : World) (base : Nat) (v : Value) (r : List UInt8) (A' : Option Addr) (c' : Nat) (w' : World) : Prop where
  own : OwnB w' base 5 A' c' r
  grown : w.grownBy w' v.ownBlock
  blk : ∀ k, (Value.slice A' r.length c').ownBlock = some k → v.ownBlock = some k ∨ w.heap.size ≤ k
theorem AppTo.below {w w' : World} {base : Nat} {A : Option Addr} {c : Nat} {pre r : List UInt8} {A' : Option Addr} {c' : Nat} (h : AppTo w base (.slice A pre.length c) r A' c' w') (ho : OwnB w base 5 A c pre) (hb : base ≤ w.heap.size) : Below base w w' :=
  (Below.refl base w).grown h.grown hb fun k hk => (ho.lt k hk).1
theorem AppTo.first {w w1 w' : World} {base : Nat} {v : Value} {r : List UInt8} {A' : Option Addr} {c' : Nat} (hb : Below w.heap.size w w1) (h : AppTo w1 base v r A' c' w') : AppTo w base v r A' c' w' :=
  ⟨h.own, ⟨h.grown.os.trans hb.os, h.grown.tape.trans hb.tape, h.grown.output.trans hb.output, Nat.le_trans hb.size h.grown.size,
    fun k hk hne => (h.grown.block k (Nat.lt_of_lt_of_le hk hb.size) hne).trans (hb.block k hk)⟩, fun k hk => (h.blk k hk).imp id (Nat.le_trans hb.size)⟩

theorem run_app_to {w : World} {base : Nat} {A : Option Addr} {c : Nat} {pre : List UInt8} (ho : OwnB w base 5 A c pre) {B2 g2 : Nat} {l : List UInt8} {cap2 : Nat} (h2 : w.ownsRow B2 5 1 (.slice (some ⟨g2, 0, none⟩) l.length cap2) l.length (byteCells l))
    (r : List UInt8) (hr : r = pre ++ l) (hm : r.length ≤ 140737488355328) (hbase : base ≤ w.heap.size) :
    ∃ A' c' w', (Builtin.append_ #[56, 56] 56 #[.slice A pre.length c, .slice (some ⟨g2, 0, none⟩) l.length cap2]).run Tryd.prog w = .ok (.slice A' r.length c') w' ∧ AppTo w base (.slice A pre.length c) r A' c' w' := by
  obtain ⟨i0, hi, hz0, hz1, hz2⟩ := info_parts infoB
  subst hr
  have hln : (pre ++ l).length = pre.length + l.length := List.length_append
  obtain ⟨v', w', hr, hown, hg, _, hblk⟩ := run_append_own_at (P := Tryd.prog) w base 56 56 5 i0 _ 1 1 Tryd.underlying56 hi hz0 hz1 hz2 rfl (by decide) _ pre.length (byteCells pre) ho ⟨g2, 0, none⟩ l.length cap2 (byteCells l)
    (by rw [Go.Lib.byteCells_length]; omega) (h2.cells rfl) (byteCells_one l) (by simp only [maxLen]; omega) (by omega) hbase
  rw [← Go.Lib.byteCells_append, ← hln] at hown
  rcases hown.2 with ⟨rfl, h0⟩ | ⟨g, cap, cur, rfl, rest⟩
  · exact ⟨none, 0, w', by rw [hr, h0], ⟨by unfold OwnB; rw [h0] at hown ⊢; exact hown, hg, fun k hk => by simp [Value.ownBlock] at hk⟩⟩
  · refine ⟨some ⟨g, 0, none⟩, cap, w', hr, ⟨hown, hg, fun k hk => ?_⟩⟩
    rcases hblk with h | h
    · left; rw [← h]; exact hk
    · right
      have e : some k = some w.heap.size := by rw [← h, ← hk]
      have := Option.some.inj e; omega

/-- what appendNumber answers -/
def NewApp (w : World) (base : Nat) (v : Value) (r : List UInt8) (e : Ending) (w' : World) : Prop :=
  ∃ A' c', e = .returned (.slice A' r.length c') ∧ AppTo w base v r A' c' w'

theorem put_nil (x : Nat) (w : World) (hx : x ≤ 18446744073709551615) : Calls Tryd.prog 68 #[.slice none 0 0, .int .u64 x] w (NewRow w (uvarint x)) :=
  put_any (w := w) (A := none) (l := []) 0 x Byt.nil (by decide) hx

set_option maxRecDepth 100000 in
set_option maxHeartbeats 1000000 in
theorem appnum_any {w : World} {base : Nat} {A : Option Addr} {c : Nat} {pre : List UInt8} (ho : OwnB w base 5 A c pre) (x : Nat) (r : List UInt8) (hr : r = pre ++ uvarint x) (hm : r.length ≤ 140737488355328) (hbase : base ≤ w.heap.size) (hx : x ≤ 18446744073709551615) :
    Calls Tryd.prog 51 #[.slice A pre.length c, .int .u64 x] w (NewApp w base (.slice A pre.length c) r) := by
  have cp := fun W => put_nil x W hx
  have HO := Lib.hid ho
  have HR := Lib.hid hr
  obtain ⟨u, hu⟩ : ∃ u, uvarint x = u := ⟨_, rfl⟩
  rw [hu] at cp HR
  clear ho hr hu
  go_enter Tryd.func51, Tryd.ntmps51
  go_wp2_with (first
    | (go_at_call 68; refine (cp _).mono ?_; rintro e w1 ⟨g, cap, rfl, hown, hB⟩; have hbs := hB.size; obtain ⟨A', c', w2, hr2, happ⟩ := run_app_to (HO.out.then_ hB) hown r HR.out hm (Nat.le_trans hbase hbs); have HR2 := Lib.hid hr2; clear hr2)
    | (at_builtin; refine wpList_append_run rfl (.tmp 5) (.tmp 7) _ rfl rfl rfl HR2.out ?_))
  go_ret
  exact ⟨A', c', rfl, AppTo.first hB happ⟩

/-- a field that was boxed -/
def BoxF (w : World) (g : Nat) (f : Fd) : Prop :=
  w.cell? ⟨g, 0, none⟩ = some (.int .i64 f.t) ∧ w.cell? ⟨g, 1, none⟩ = some (.int .i64 f.v.k) ∧ w.cell? ⟨g, 2, none⟩ = some (.int .u64 f.v.n) ∧ w.cell? ⟨g, 3, none⟩ = some (.string f.v.s)
theorem BoxF.new (w : World) (f : Fd) (T : TypeId) : BoxF (w.alloc (.cells (ffC f) T)) w.heap.size f := by
  have q := fun k => cell_of_row (w.alloc (.cells (ffC f) T)) w.heap.size k (ffC f) T (0, 0) (heap_alloc_new w _)
  exact ⟨q 0, q 1, q 2, q 3⟩
theorem BoxF.keep {w w' : World} {g : Nat} {f : Fd} (h : BoxF w g f) (hk : ∀ o, w'.cell? ⟨g, o, none⟩ = w.cell? ⟨g, o, none⟩) : BoxF w' g f := ⟨(hk _).trans h.1, (hk _).trans h.2.1, (hk _).trans h.2.2.1, (hk _).trans h.2.2.2⟩
theorem BoxF.lt {w : World} {g : Nat} {f : Fd} (h : BoxF w g f) : g < w.heap.size := World.block_lt_of_cell? w ⟨g, 0, none⟩ h.1
theorem BoxF.then_ {w w' : World} {g : Nat} {f : Fd} (h : BoxF w g f) (hb : Below w.heap.size w w') : BoxF w' g f := h.keep fun o => (Below.cells hb).1 g o h.lt
theorem BoxF.app {w w' : World} {g base : Nat} {f : Fd} {v : Value} {r : List UInt8} {A' : Option Addr} {c' : Nat} (h : BoxF w g f) (ha : AppTo w base v r A' c' w') (hne : ∀ k, v.ownBlock = some k → k ≠ g) : BoxF w' g f :=
  h.keep fun o => World.cell?_of_block (a := ⟨g, o, none⟩) (ha.grown.block g h.lt fun e => hne g e.symm rfl)

/-- At the operation, out of a run equation, of any two types. -/
theorem wpList_append_run2 {P : Program} {w w' : World} {ops : Array Oper} {rest : List Oper} {o : Oper} {a : Act} {Q : Exit → Act → World → Prop} (hgd : o.guard = none) (s x : Operand) (T U : TypeId)
    (ho : o.op = .call { callee := .builtin .append, args := #[s, x], argTypes := #[T, U] }) {u v v' : Value} (hs : a.eval s = u) (hx : a.eval x = v)
    (hrun : (Builtin.append_ #[T, U] o.type #[u, v]).run P w = .ok v' w') (h : wpList P ops Q rest (a.put o.dst v') w') : wpList P ops Q (o :: rest) a w :=
  wpList_plain hgd fun _ hK => by
    unfold Oper.wp execOp
    simp only [ho, resolve, invoke, builtin, Sem.run_bind, Sem.run_pure, Result.andThen_ok, List.map_toArray, List.map_cons, List.map_nil, hs, hx, hrun]
    exact hK _ _ h

/-- what appendField answers -/
def NewOwn (w0 : World) (r : List UInt8) (e : Ending) (w' : World) : Prop :=
  ∃ A' c', e = .returned (.slice A' r.length c') ∧ OwnB w' w0.heap.size 5 A' c' r ∧ Below w0.heap.size w0 w'

theorem strCells_pay (v : Val) (h : isNum v.k = false) (pre : List UInt8) : byteCells pre ++ Go.Lib.strCells v.s = byteCells (pre ++ pay v) := by
  unfold pay
  rw [if_neg (by simp [h]), Go.Lib.byteCells_append]
  congr 1
theorem own_text {w : World} {base : Nat} {v : Value} {n : Nat} {l : List UInt8} (h : w.ownsRow base 5 1 v n (byteCells l)) (hn : n = l.length) : ∃ A c, v = .slice A l.length c ∧ OwnB w base 5 A c l := by
  subst hn
  rcases h.2 with ⟨rfl, h0⟩ | ⟨g, cap, cur, rfl, rest⟩
  · exact ⟨none, 0, by rw [h0], by unfold OwnB; rw [h0] at h ⊢; exact h⟩
  · exact ⟨some ⟨g, 0, none⟩, cap, rfl, h⟩

set_option maxRecDepth 100000 in
set_option maxHeartbeats 2000000 in
theorem appfield_any {w0 w : World} (h : KSt w0 w0) (hB : Below w0.heap.size w0 w) {A : Option Addr} {c : Nat} {pre : List UInt8} (ho : OwnB w w0.heap.size 5 A c pre) (f : Fd) (hf : Fit f.v) (t0 : 0 ≤ f.t) (t1 : f.t ≤ 65535) (k0 : 0 ≤ f.v.k) (k1 : f.v.k ≤ 5)
    (r : List UInt8) (hr : r = pre ++ fb f) (hm : r.length ≤ 140737488355328) :
    Calls Tryd.prog 40 #[.slice A pre.length c, .agg (ffC f)] w (NewOwn w0 r) := by
  have ck := fun (W : World) => key_any W f t0 t1 k0 k1
  have cs := fun {W : World} (q : KVars W) => psize_any q f.v hf
  have cp := fun {W : World} (q : KVars W) => pnum_any q f.v hf
  have ci := fun {W : World} (q : KVars W) => isnum_any q f.v.k
  have hkey0 : 0 ≤ keyF f := by unfold keyF; omega
  have hkey1 : keyF f ≤ 18446744073709551615 := by unfold keyF; omega
  have hpn := pnum_range hf
  have bx := BoxF.new w f 53
  have hB1 : Below w0.heap.size w0 (w.alloc (.cells (ffC f) 53)) := hB.alloc hB.size _
  have ho1 := ho.new (.cells (ffC f) 53)
  have hne : ∀ k, (Value.slice A pre.length c).ownBlock = some k → k ≠ w.heap.size := fun k hk => by have := ho.lt k hk; omega
  have hs0 := hB.size
  have hgl : w.heap.size < (w.alloc (.cells (ffC f) 53)).heap.size := by simp
  obtain ⟨K, hK⟩ := Int.eq_ofNat_of_zero_le hkey0
  obtain ⟨P, hP⟩ := Int.eq_ofNat_of_zero_le hpn.1
  have hfb : fb f = uvarint K ++ (uvarint (pay f.v).length ++ pay f.v) := by unfold fb; rw [hK, Int.toNat_natCast]
  have hpay : isNum f.v.k = true → pay f.v = uvarint P := fun q => by unfold pay; rw [if_pos q, hP, Int.toNat_natCast]
  have htx := strCells_pay f.v
  have htl := pay_text f.v
  rw [hK] at hkey1
  rw [hP] at hpn
  simp only [hK] at ck
  simp only [hP] at cp
  obtain ⟨L, hL⟩ : ∃ L, (pay f.v).length = L := ⟨_, rfl⟩
  simp only [hL] at cs hfb htl
  obtain ⟨r1, hr1⟩ : ∃ r1, r1 = pre ++ uvarint K := ⟨_, rfl⟩
  obtain ⟨r2, hr2⟩ : ∃ r2, r2 = r1 ++ uvarint L := ⟨_, rfl⟩
  have hr3 : r = r2 ++ pay f.v := by rw [hr, hfb, hr2, hr1]; simp only [List.append_assoc]
  have hl3 := congrArg List.length hr3
  have hl2 := congrArg List.length hr2
  rw [List.length_append] at hl3 hl2
  rw [hL] at hl3
  have hK2 : K ≤ 18446744073709551615 := by omega
  have hL2 : L ≤ 18446744073709551615 := by omega
  have hP2 : P ≤ 18446744073709551615 := by omega
  have hm1 : r1.length ≤ 140737488355328 := by omega
  have hm2 : r2.length ≤ 140737488355328 := by omega
  have HL3 := Lib.hid hl3
  have HR1 := Lib.hid hr1
  have HR2 := Lib.hid hr2
  have HR3 := Lib.hid hr3
  have HPAY := Lib.hid hpay
  have HTX := Lib.hid htx
  have HTL := Lib.hid htl
  have HBX := Lib.hid bx
  have HNE := Lib.hid hne
  have HO1 := Lib.hid ho1
  have HB0 := Lib.hid hB
  have H0 := Lib.hid h
  clear hl3 hl2 hr1 hr2 hr3 hr hpay htx htl bx hne ho1 ho hB h hfb hL hK hP hkey0 hkey1 hpn hf t0 t1 k0 k1
  obtain ⟨t, v⟩ := f
  obtain ⟨k, n, s⟩ := v
  unfold ffC vvC at *
  dsimp only at *
  go_enter Tryd.func40, Tryd.ntmps40
  go_wp2_with (go_at_call 52; refine (ck _).mono ?_; rintro e w2 ⟨rfl, hb2⟩)
  have hs2 := hb2.size
  refine (appnum_any (HO1.out.then_ hb2) K r1 HR1.out hm1 (by simp at hs2; omega) hK2).mono ?_
  rintro e w3 ⟨A3, c3, rfl, h3⟩
  have hbx2 := HBX.out.then_ hb2
  have hbx3 := hbx2.app h3 HNE.out
  have hBel3 : Below w0.heap.size w0 w3 := (HB0.out.alloc hs0 _).trans ((hb2.mono (by simp; omega)).trans (h3.below (HO1.out.then_ hb2) (by simp at hs2; omega)))
  have hne3 : ∀ k, (Value.slice A3 r1.length c3).ownBlock = some k → k ≠ w.heap.size := fun k hk => by
    rcases h3.blk k hk with g | g
    · exact HNE.out k g
    · simp at hs2; omega
  have ho3 := h3.own
  have hs3 := hBel3.size
  have hz3 := hbx3.lt
  obtain ⟨b0, b1, b2, b3⟩ := hbx3
  have hk3 : KVars w3 := (H0.out.then_ hBel3).k
  have HNE3 := Lib.hid hne3
  have HO3 := Lib.hid ho3
  have HBel3 := Lib.hid hBel3
  have HBX3 : Hid (BoxF w3 w.heap.size ⟨t, k, n, s⟩) := ⟨b0, b1, b2, b3⟩
  clear hne3 ho3 hBel3 h3 hbx2
  go_wp2_with (go_at_call 53; refine (cs hk3).mono ?_; rintro e w4 ⟨rfl, hb4⟩)
  clear b0 b1 b2 b3
  refine (appnum_any (HO3.out.then_ hb4) L r2 HR2.out hm2 (by have := hb4.size; omega) hL2).mono ?_
  rintro e w5 ⟨A5, c5, rfl, h5⟩
  have hbx5 := (HBX3.out.then_ hb4).app h5 HNE3.out
  have hBel5 : Below w0.heap.size w0 w5 := HBel3.out.trans ((hb4.mono hs3).trans (h5.below (HO3.out.then_ hb4) (by have := hb4.size; omega)))
  have hs5 := hBel5.size
  have ho5 := h5.own
  obtain ⟨b0, b1, b2, b3⟩ := hbx5
  have hk5 : KVars w5 := (H0.out.then_ hBel5).k
  have HO5 := Lib.hid ho5
  have HBel5 := Lib.hid hBel5
  clear ho5 hBel5 h5
  by_cases hn : isNum k = true
  · have ci5 := ci hk5
    rw [hn] at ci5
    have hq := HPAY.out hn
    have hr := HR3.out
    rw [hq] at hr
    have HR := Lib.hid hr
    clear hq hr hn
    go_wp2_with (first
      | (go_at_call 54; refine ci5.mono ?_; rintro e w6 ⟨rfl, rfl⟩)
      | (go_at_call 55; refine (cp hk5).mono ?_; rintro e w6 ⟨rfl, hb6⟩))
    refine (appnum_any (HO5.out.then_ hb6) P r HR.out hm (by have := hb6.size; omega) hP2).mono ?_
    rintro e w7 ⟨A7, c7, rfl, h7⟩
    go_wp2
    go_ret
    exact ⟨A7, c7, rfl, h7.own, HBel5.out.trans ((hb6.mono hs5).trans (h7.below (HO5.out.then_ hb6) (by have := hb6.size; omega)))⟩
  · have hn' : isNum k = false := by simpa using hn
    have ci5 := ci hk5
    rw [hn'] at ci5
    have htx := HTX.out hn'
    have htl := HTL.out hn'
    have hl3 := HL3.out
    obtain ⟨i0, hi, hz0, hz1, hz2⟩ := info_parts infoB
    obtain ⟨v', w7, hr7, hown7, hg7, _⟩ := Go.Lib.run_append_own_string (P := Tryd.prog) w5 w0.heap.size 56 9 56 5 i0 Tryd.underlying56 Tryd.underlying9 hi hz0 hz1 hz2 (.slice A5 r2.length c5) r2.length (byteCells r2) HO5.out s
      (by simp only [maxLen]; omega) (by omega) hs5
    rw [htx r2, ← HR3.out] at hown7
    obtain ⟨A7, c7, rfl, ho7⟩ := own_text hown7 (by omega)
    have HR7 := Lib.hid hr7
    have HO7 := Lib.hid ho7
    have HB7 : Hid (Below w0.heap.size w0 w7) := HBel5.out.grown hg7 hs5 fun k hk => (HO5.out.lt k hk).1
    clear htx htl hl3 hi hz0 hz1 hz2 hr7 hown7 hg7 ho7 hn hn'
    go_wp2_with (first
      | (go_at_call 54; refine ci5.mono ?_; rintro e w6 ⟨rfl, rfl⟩)
      | (at_builtin; refine wpList_append_run2 rfl (.tmp 24) (.tmp 27) _ _ rfl rfl rfl HR7.out ?_))
    go_ret
    exact ⟨A7, c7, rfl, HO7.out, HB7.out⟩

/-- what Encode answers -/
def NewEnc (w : World) (l : List Fd) (e : Ending) (w' : World) : Prop :=
  ∃ A' c', e = .returned (.tuple #[.slice A' (cby l).length c', .int .i64 (cer l)]) ∧ OwnB w' w.heap.size 5 A' c' (cby l) ∧ Below w.heap.size w w'
theorem new_enc_bad {w w' : World} {l : List Fd} {a : Int} (h : cer l = a) (h0 : cby l = []) (hb : Below w.heap.size w w') : NewEnc w l (.returned (.tuple #[.slice none 0 0, .int .i64 a])) w' := by
  unfold NewEnc; rw [h, h0]; exact ⟨none, 0, rfl, OwnB.nil _ _ _, hb⟩
theorem new_enc_ok {w w' : World} {l : List Fd} {r : List UInt8} {A : Option Addr} {c : Nat} (h : cer l = 0) (h0 : cby l = r) (ho : OwnB w' w.heap.size 5 A c r) (hb : Below w.heap.size w w') : NewEnc w l (.returned (.tuple #[.slice A r.length c, .int .i64 0])) w' := by
  unfold NewEnc; rw [h, h0]; exact ⟨A, c, rfl, ho, hb⟩

set_option maxRecDepth 100000 in
set_option maxHeartbeats 2000000 in
theorem encode_any {w0 w : World} (h : KSt w0 w) {A : Option Addr} {l : List Fd} (c : Nat) (hA : FRow w w.heap.size A l) (hg : Good l) (hl : Light l) :
    Calls Tryd.prog 22 #[.slice A l.length c] w (NewEnc w l) := by
  have cm := measure_any h c hA hg hl.big
  have hi := cer_is hg.fit
  obtain ⟨a, ha⟩ : ∃ a, cat l = a := ⟨_, rfl⟩
  obtain ⟨b, hb⟩ : ∃ b, csz l = b := ⟨_, rfl⟩
  obtain ⟨d, hd⟩ : ∃ d, cer l = d := ⟨_, rfl⟩
  rw [ha, hb, hd] at cm
  rw [hd] at hi
  by_cases hd0 : d = 0
  · subst hd0
    have hi2 : Is 0 l ∧ (enc l).length ≤ 16777215 := by
      rcases hi with ⟨g, _⟩ | ⟨g, _⟩ | ⟨_, g⟩
      · omega
      · omega
      · exact g
    obtain ⟨_, _, z3, z4⟩ := cer_ok hi2.1 hi2.2
    rw [z3] at hb
    subst hb
    obtain ⟨N, hN⟩ : ∃ N, (enc l).length = N := ⟨_, rfl⟩
    rw [hN] at cm hi2
    have hmk : ∀ W : World, (Instr.makeSlice 56 (.int .i64 0) (.int .i64 (N : Int))).run Tryd.prog W =
      .ok (.slice (some ⟨W.heap.size, 0, none⟩) 0 N) (W.alloc (.cells (Array.replicate N (.int .u8 0)) 5)) := run_mk 0 N (by omega) (by omega)
    have hmd : ∀ W : World, Below w.heap.size w W → OwnB (W.alloc (.cells (Array.replicate N (.int .u8 0)) 5)) w.heap.size 5 (some ⟨W.heap.size, 0, none⟩) N [] := fun W hW =>
      World.ownsRow_made W _ N hW.size (by simp only [maxLen]; omega) (by simp)
    have hN2 := hi2.2
    have HI := Lib.hid hi2.1
    have HN := Lib.hid hN
    have HD := Lib.hid (And.intro hd z4)
    have HMD := Lib.hid hmd
    have HG := Lib.hid hg
    have hl0 := hl.len
    have HL := Lib.hid hl
    have HA := Lib.hid hA
    have H0 := Lib.hid h.self
    clear ha hd hg hl hA h hi z3 z4 hi2 hN hmd
    go_enter Tryd.func22, Tryd.ntmps22
    go_wp2_with (go_at_call 39; refine cm.mono ?_; rintro e w1 ⟨rfl, hb1⟩; have hown1 := HMD.out _ hb1; have hB1 := hb1.alloc hb1.size (.cells (Array.replicate N (.int .u8 0)) 5))
    clear hmk
    have HO1 := Lib.hid hown1
    have HB1 := Lib.hid hB1
    clear hown1 hB1
    go_loopw [7, 23] (fun out i wr => ∃ (k cc : Nat) (AA : Option Addr) (pre : List UInt8), out = .slice AA pre.length cc ∧ i = .int .i64 k ∧ k ≤ l.length ∧ Below w.heap.size w wr ∧ Hid (pre = enc (l.take k)) ∧ Hid (OwnB wr w.heap.size 5 AA cc pre)) (fun _ i _ => l.length - (intOf i).toNat)
    case atStart => exact ⟨0, N, _, [], rfl, rfl, Nat.zero_le _, HB1.out, rfl, HO1.out⟩
    case round =>
      clear HO1 HB1 hb1
      obtain ⟨k, cc, AA, pre, rfl, rfl, hk, hB, HP, HO⟩ := hrel
      by_cases hlt : k < l.length
      · obtain ⟨f, hf⟩ : ∃ f, l[k]? = some f := ⟨l[k], List.getElem?_eq_getElem hlt⟩
        obtain ⟨g, o, rfl, hgB, hcs⟩ := (HA.out.below hB).at_ (by omega)
        obtain ⟨c0, c1, c2, c3⟩ := hcs k f hf
        obtain ⟨hfit, hsz⟩ := HG.out.at_ hf
        clear hcs
        have his : Is 0 (l.take (k + 1)) := is_take (k + 1) HI.out
        rw [take_snoc hf] at his
        obtain ⟨i1, i2, _⟩ := is_snoc.1 his
        obtain ⟨t0, t1, k0, k1⟩ := can_key i2 (last_nn i1)
        have hB1 : Below w.heap.size w (wr.alloc (.cells (ffC f) 53)) := hB.alloc hB.size _
        have ho1 := HO.out.new (.cells (ffC f) 53)
        obtain ⟨r, hr⟩ : ∃ r, r = pre ++ fb f := ⟨_, rfl⟩
        have hrt : r = enc (l.take (k + 1)) := by rw [hr, HP.out, take_snoc hf, enc_snoc]
        have hrl : r.length ≤ 140737488355328 := by
          have h1 := enc_app (l.take (k + 1)) (l.drop (k + 1))
          rw [List.take_append_drop, ← hrt] at h1
          have h2 := congrArg List.length h1
          rw [List.length_append, HN.out] at h2
          omega
        have ca := appfield_any H0.out hB1 ho1 f hfit t0 t1 k0 k1 r hr hrl
        have HRT := Lib.hid hrt
        clear his i1 i2 t0 t1 k0 k1 hfit hsz hr hrt hf ho1 hB1 hrl
        obtain ⟨t, v⟩ := f
        obtain ⟨vk, vn, vs⟩ := v
        unfold ffC at ca
        dsimp only at c0 c1 c2 c3 ca
        go_wp2_with (go_at_call 40; refine ca.mono ?_; rintro e w2 ⟨A2, cc2, rfl, ho2, hb2⟩)
        go_roundw
        case rel => exact ⟨k + 1, cc2, A2, r, rfl, by go_num, by omega, hb2, HRT.out, ho2⟩
        case measure => simp [intOf]; omega
      · obtain rfl : k = l.length := by omega
        have hp := HP.out
        rw [List.take_length] at hp
        have HP2 := Lib.hid hp
        clear hp
        go_wp2
        go_ret2
        exact new_enc_ok HD.out.1 (HD.out.2.trans HP2.out.symm) HO.out hB
  · have hne : (d != 0) = true := by simpa using hd0
    have h0 : cby l = [] := by unfold cby; rw [hd, if_neg hd0]
    have HD := Lib.hid (And.intro hd h0)
    clear ha hd h0 hg hl hA h hi hb hd0
    go_enter Tryd.func22, Tryd.ntmps22
    go_wp2_with (go_at_call 39; refine cm.mono ?_; rintro e w1 ⟨rfl, hb1⟩)
    go_ret2
    exact new_enc_bad HD.out.1 HD.out.2 hb1
end Go.Proofs.YtnflbnchkcigiaaDoor
