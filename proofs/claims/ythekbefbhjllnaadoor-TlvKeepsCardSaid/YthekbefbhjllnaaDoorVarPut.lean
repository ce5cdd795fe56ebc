/- The walks of what makes bytes: Put and the reference's Put. -/
import Derived.Test.YthekbefbhjllnaaDoorVarTake
import Derived.Test.YthekbefbhjllnaaDoorBytCopy
import Derived.Deep.AppendLies
import Derived.Laws.CopyOwn
import Derived.Laws.MakeOwn
import Derived.OwnWalk
namespace Go.Proofs.YthekbefbhjllnaaDoor
open Go.RowKit
open Go.Lib (byteCells uvarint)

theorem infoB : (Tryd.prog.info? 5).map (fun i => (i.zero, i.size, i.bytes)) = some (some (.int .u8 0), 1, 1) := by kernel_rfl

/-- what is answered is a row of the call's own: the bytes l -/
def NewRow (W : World) (l : List UInt8) (e : Ending) (w' : World) : Prop :=
  ∃ g cap, e = .returned (.slice (some ⟨g, 0, none⟩) l.length cap) ∧ w'.ownsRow W.heap.size 5 1 (.slice (some ⟨g, 0, none⟩) l.length cap) l.length (byteCells l) ∧ Below W.heap.size W w'

theorem run_mk (n c : Nat) (hnc : n ≤ c) (hc : c ≤ 140737488355328) (W : World) : (Instr.makeSlice 28 (.int .i64 (n : Int)) (.int .i64 (c : Int))).run Tryd.prog W =
    .ok (.slice (some ⟨W.heap.size, 0, none⟩) n c) (W.alloc (.cells (Array.replicate c (.int .u8 0)) 5)) := by
  obtain ⟨i0, hi, hz0, hz1, hz2⟩ := info_parts infoB
  have h := run_make (P := Tryd.prog) W 28 5 i0 _ Tryd.underlying28 hi hz0 .i64 .i64 (n : Int) (c : Int) (by omega) (by omega) (by rw [hz2]; omega) (by omega)
  rw [hz1] at h
  simp only [Int.toNat_natCast, Nat.mul_one] at h
  rw [h]
  congr 3
  apply Array.toList_inj.1
  rw [Array.toList_replicate]
  exact toList_madeCells_one _ _

/-- one byte more -/
theorem one_more (pre : List UInt8) (n : Nat) (h : n < 256) : byteCells pre ++ [Value.int .u8 (n : Int)] = byteCells (pre ++ [n.toUInt8]) := (Go.Lib.byteCells_snoc pre h).symm

theorem own_more {w : World} {B g cap n : Nat} {pre : List UInt8} (hn : n < 256) (h : w.ownsRow B 5 1 (.slice (some ⟨g, 0, none⟩) (pre.length + 1) cap) (pre.length + 1) (byteCells pre ++ [.int .u8 (n : Int)])) :
    w.ownsRow B 5 1 (.slice (some ⟨g, 0, none⟩) (pre ++ [n.toUInt8]).length cap) (pre ++ [n.toUInt8]).length (byteCells (pre ++ [n.toUInt8])) := by
  rw [one_more pre n hn] at h
  rw [List.length_append]
  exact h
theorem below_more {w wr w4 : World} {B g cap n m : Nat} {xs : List Value} {o : Obj} (hb : Below B w wr) (hB : B ≤ wr.heap.size) (hr : wr.ownsRow B 5 1 (.slice (some ⟨g, 0, none⟩) n cap) m xs)
    (hg : (wr.alloc o).grownBy w4 (Value.slice (some ⟨g, 0, none⟩) n cap).ownBlock) : Below B w w4 :=
  (hb.alloc hB o).grown hg (by simp; omega) fun k hk => (hr.lt k hk).1

theorem or_128 (y : Nat) : bits .or .u8 ((y : Int) % 256) 128 = ((y % 128 + 128 : Nat) : Int) := by
  rw [Go.Lib.u8_or128_any _ (by omega) (by omega)]; omega

set_option maxRecDepth 100000 in
set_option maxHeartbeats 1000000 in
theorem put_any {w : World} {A : Option Addr} {l : List UInt8} (c x : Nat) (h : Byt w w.heap.size A l) (hm : l.length ≤ 1099511627776) (hx : x ≤ 18446744073709551615) :
    Calls Tryd.prog 25 #[.slice A l.length c, .int .u64 x] w (NewRow w (l ++ uvarint x)) := by
  have hsz := vsz_le (x := x) (by omega)
  have hmk : ∀ W : World, (Instr.makeSlice 28 (.int .i64 (l.length : Int)) (.int .i64 ((l.length : Int) + (vsz x : Int)))).run Tryd.prog W =
      .ok (.slice (some ⟨W.heap.size, 0, none⟩) l.length (l.length + vsz x)) (W.alloc (.cells (Array.replicate (l.length + vsz x) (.int .u8 0)) 5)) := run_mk l.length (l.length + vsz x) (by omega) (by omega)
  have hsz1 : (Tryd.prog.info? 5).map (·.size) = some 1 := by kernel_rfl
  obtain ⟨wc, hcp, hown, hB⟩ := run_copy_fresh (P := Tryd.prog) h 28 3 5 Tryd.underlying28 hsz1 (.int .u8 0) (vsz x) c (l.length + vsz x) rfl (by simp only [maxLen]; omega)
  obtain ⟨i0, hi, hz0, hz1, hz2⟩ := info_parts infoB
  have HI := Lib.hid hi
  have HZ := Lib.hid (And.intro hz0 (And.intro hz1 hz2))
  have HO := Lib.hid hown
  clear hi hz0 hz1 hz2 hsz1 hown
  go_enter Tryd.func25, Tryd.ntmps25
  go_wp2_with (go_at_call 43; refine (size_any _ _ (by omega)).mono ?_; rintro e w' ⟨rfl, rfl⟩)
  clear hmk hcp
  go_loopw [1, 5] (fun x' v wr => ∃ (pre : List UInt8) (y g cap : Nat), x' = .int .u64 y ∧ v = .slice (some ⟨g, 0, none⟩) pre.length cap ∧ y ≤ x ∧ Hid (l ++ uvarint x = pre ++ uvarint y) ∧ pre.length ≤ l.length + 10 ∧
    Hid (wr.ownsRow w.heap.size 5 1 (.slice (some ⟨g, 0, none⟩) pre.length cap) pre.length (byteCells pre)) ∧ Below w.heap.size w wr) (fun x' _ _ => (intOf x').toNat)
  case atStart => exact ⟨l, x, w.heap.size, l.length + vsz x, rfl, rfl, Nat.le_refl _, rfl, by omega, HO, hB⟩
  case round =>
    obtain ⟨pre, y, g, cap, rfl, rfl, hy, HP, hpl, HR, hBr⟩ := hrel
    have hbs := hBr.size
    have hlen : pre.length + vsz y ≤ l.length + 10 := by
      have := congrArg List.length HP.out
      simp only [List.length_append] at this
      unfold vsz at hsz ⊢
      omega
    have hvp := vsz_pos y
    by_cases hlt : 128 ≤ y
    · have hO := or_128 y
      have hvb := vsz_pos (y / 128)
      go_wp2_with (at_builtin; refine wpList_append_lies _ rfl _ _ 28 rfl w.heap.size 5 i0 _ 1 1 Tryd.underlying28 HI.out HZ.out.1 HZ.out.2.1 HZ.out.2.2 rfl (by decide) (.slice (some ⟨g, 0, none⟩) pre.length cap) pre.length (byteCells pre) rfl (HR.out.alloc _) ⟨wr.heap.size, 0, none⟩ 1 1 [.int .u8 ((y % 128 + 128 : Nat) : Int)] rfl rfl (World.news_of_block (cs := #[.int .u8 ((y % 128 + 128 : Nat) : Int)]) (t := 5) (fr := (0, 0)) (heap_alloc_new wr _)) (by simp [Value.oneCell']) (by omega) (by simp only [maxLen]; omega) (by omega) (by simp; omega) (wr.heap.size + 1) (by simp) ?_; intro gg cap2 w4 hown hgrow hat hlt4)
      go_roundw
      case rel =>
        refine ⟨pre ++ [(y % 128 + 128).toUInt8], y / 128, gg, cap2, by go_num, by rw [List.length_append]; rfl, by omega, ?_, ?_, own_more (by omega) hown, below_more hBr hbs HR.out hgrow⟩
        · have h1 := HP.out
          rw [Go.Lib.uvarint_big hlt] at h1
          rw [List.append_assoc]
          exact h1
        · rw [List.length_append, List.length_singleton]
          have := vsz_big hlt
          omega
      case measure => simp [intOf]; omega
    · have hy8 : y < 128 := by omega
      go_wp2_with (at_builtin; refine wpList_append_lies _ rfl _ _ 28 rfl w.heap.size 5 i0 _ 1 1 Tryd.underlying28 HI.out HZ.out.1 HZ.out.2.1 HZ.out.2.2 rfl (by decide) (.slice (some ⟨g, 0, none⟩) pre.length cap) pre.length (byteCells pre) rfl (HR.out.alloc _) ⟨wr.heap.size, 0, none⟩ 1 1 [.int .u8 (y : Int)] rfl rfl (World.news_of_block (cs := #[.int .u8 (y : Int)]) (t := 5) (fr := (0, 0)) (heap_alloc_new wr _)) (by simp [Value.oneCell']) (by omega) (by simp only [maxLen]; omega) (by omega) (by simp; omega) (wr.heap.size + 1) (by simp) ?_; intro gg cap2 w4 hown hgrow hat hlt4)
      go_ret
      have h1 := HP.out
      rw [Go.Lib.uvarint_small hy8] at h1
      rw [h1]
      exact ⟨gg, cap2, by rw [List.length_append]; rfl, own_more (by omega) hown, below_more hBr hbs HR.out hgrow⟩

end Go.Proofs.YthekbefbhjllnaaDoor
