/- The walk of the reference's Put. -/
import Derived.Test.YtbnlglcjamifpaaVarPut
namespace Go.Proofs.Ytbnlglcjamifpaa
open Go.RowKit
open Go.Lib (byteCells uvarint)

/-- the first k bytes have been copied -/
def Half (w : World) (g : Nat) (l : List UInt8) (k : Nat) : Prop :=
  w.heap[g]? = some (.cells (byteCells (l.take k) ++ List.replicate (l.length - k) (Value.int .u8 0)).toArray 5 (0, 0))

theorem Half.start (w : World) (l : List UInt8) : Half (w.alloc (.cells (Array.replicate l.length (.int .u8 0)) 5)) w.heap.size l 0 := by
  unfold Half
  rw [heap_alloc_new w _]
  simp [byteCells]
theorem Half.len {w : World} {g : Nat} {l : List UInt8} {k : Nat} (h : Half w g l k) : g < w.heap.size := (Array.getElem?_eq_some_iff.1 h).1
theorem Half.cell {w : World} {g : Nat} {l : List UInt8} {k : Nat} (h : Half w g l k) (hk : k < l.length) : w.cell? ⟨g, k, none⟩ = some (.int .u8 0) := by
  rw [cell_of_row w g k _ 5 (0, 0) h]
  rw [List.getElem?_toArray, List.getElem?_append_right (by rw [Go.Lib.byteCells_length]; simp; omega)]
  rw [Go.Lib.byteCells_length, List.length_take, Nat.min_eq_left (by omega), Nat.sub_self, List.getElem?_replicate, if_pos (by omega)]
theorem Half.frozen {w : World} {g : Nat} {l : List UInt8} {k : Nat} (h : Half w g l k) (i : Nat) : w.frozen? ⟨g, i, none⟩ = false := by
  unfold Half at h
  simp [World.frozen?, h]
theorem Half.step {w : World} {g : Nat} {l : List UInt8} {k : Nat} (h : Half w g l k) (hk : k < l.length) : Half (w.setCell ⟨g, k, none⟩ (.int .u8 (l[k].toNat : Nat))) g l (k + 1) := by
  unfold Half at h ⊢
  have e : (byteCells (l.take k) ++ List.replicate (l.length - k) (Value.int .u8 0)).set k (.int .u8 (l[k].toNat : Nat)) = byteCells (l.take (k + 1)) ++ List.replicate (l.length - (k + 1)) (.int .u8 0) := by
    rw [List.take_succ_eq_append_getElem hk, Go.Lib.byteCells_append]
    have hl : (byteCells (l.take k)).length = k := by rw [Go.Lib.byteCells_length, List.length_take]; omega
    rw [List.set_append_right _ _ (by omega), hl, Nat.sub_self, show l.length - k = (l.length - (k + 1)) + 1 by omega, List.replicate_succ, List.set_cons_zero, List.append_assoc]
    rfl
  rw [← e]
  simp [World.setCell, Array.getElem?_modify, h]
theorem Half.done {w : World} {g B : Nat} {l : List UInt8} (h : Half w g l l.length) (hB : B ≤ g) (hm : l.length ≤ maxLen) : w.ownsRow B 5 1 (.slice (some ⟨g, 0, none⟩) l.length l.length) l.length (byteCells l) := by
  unfold Half at h
  rw [List.take_length, Nat.sub_self, List.replicate_zero, List.append_nil] at h
  refine ⟨by rw [Go.Lib.byteCells_length]; omega, .inr ⟨g, l.length, _, rfl, hB, h, Nat.le_refl _, hm, by simp [Go.Lib.byteCells_length], ?_⟩⟩
  have := Go.Lib.byteCells_length l
  simp [← this]

set_option maxRecDepth 100000 in
set_option maxHeartbeats 1000000 in
theorem rput_any {w : World} {A : Option Addr} {l : List UInt8} (c x : Nat) (h : Byt w w.heap.size A l) (hm : l.length ≤ 1099511627776) (hx : x ≤ 18446744073709551615) :
    Calls Try.prog 12 #[.slice A l.length c, .int .u64 x] w (NewRow w (l ++ uvarint x)) := by
  have hsz := vsz_le (x := x) (by omega)
  have hmk := run_mk l.length l.length (by omega) (by omega)
  obtain ⟨i0, hi, hz0, hz1, hz2⟩ := info_parts infoB
  have HI := Lib.hid hi
  have HZ := Lib.hid (And.intro hz0 (And.intro hz1 hz2))
  clear hi hz0 hz1 hz2
  go_enter Try.func12, Try.ntmps12
  go_wp2
  clear hmk
  obtain ⟨H, hH⟩ : ∃ H, H = w.heap.size := ⟨_, rfl⟩
  have h0 := Half.start w l
  rw [← hH]
  rw [← hH] at h0
  have HH := Lib.hid hH
  have H0 := Lib.hid h0
  clear hH h0
  go_loopw [6] (fun i wr => ∃ k : Nat, i = .int .i64 k ∧ k ≤ l.length ∧ Hid (Half wr H l k) ∧ Below H w wr) (fun i _ => l.length - (intOf i).toNat)
  case atStart => exact ⟨0, rfl, Nat.zero_le _, H0, by have := HH.out; subst this; exact (Below.refl _ _).alloc (Nat.le_refl _) _⟩
  case round =>
    obtain ⟨k, rfl, hk, HK, hB⟩ := hrel
    by_cases hlt : k < l.length
    · obtain ⟨b, o, rfl, hb, hc⟩ := h.at_ (by omega)
      have hbH : b < H := by have := HH.out; omega
      have hck := hc k hlt
      rw [← hB.cell (p := ⟨b, o + k, none⟩) hbH] at hck
      have hd := HK.out.cell hlt
      have hf := HK.out.frozen k
      have hne : b ≠ H := by omega
      clear hc
      go_wp2
      go_roundw
      case rel => exact ⟨k + 1, by go_num, by omega, HK.out.step hlt, hB.setCell (Nat.le_refl _) _⟩
      case measure => simp [intOf]; omega
    · obtain rfl : k = l.length := by omega
      have hown := Lib.hid (HK.out.done (B := w.heap.size) (by have := HH.out; omega) (by simp only [maxLen]; omega))
      have hBw := Lib.hid (show Below w.heap.size w wr by have := HH.out; subst this; exact hB)
      have hlt := HK.out.len
      clear hlt
      clear hB HK H0
      go_wp2
      go_loopw [1, 5] (fun x' v wr => ∃ (pre : List UInt8) (y g cap : Nat), x' = .int .u64 y ∧ v = .slice (some ⟨g, 0, none⟩) pre.length cap ∧ y ≤ x ∧ Hid (l ++ uvarint x = pre ++ uvarint y) ∧ pre.length ≤ l.length + 10 ∧
        Hid (wr.ownsRow w.heap.size 5 1 (.slice (some ⟨g, 0, none⟩) pre.length cap) pre.length (byteCells pre)) ∧ Below w.heap.size w wr) (fun x' _ _ => (intOf x').toNat)
      case atStart => exact ⟨l, x, H, l.length, rfl, rfl, Nat.le_refl _, rfl, by omega, hown, hBw.out⟩
      case round =>
        clear hown hBw hk
        obtain ⟨pre, y, g, cap, rfl, rfl, hy, HP, hpl, HR, hBr⟩ := hrel
        have hbs := hBr.size
        have hlen : pre.length + vsz y ≤ l.length + 10 := by
          have := congrArg List.length HP.out
          simp only [List.length_append] at this
          unfold vsz at hsz ⊢
          omega
        have hvp := vsz_pos y
        by_cases hlt : 128 ≤ y
        · have hvb := vsz_pos (y / 128)
          go_wp2_with (at_builtin; refine wpList_append_lies _ rfl _ _ 22 rfl w.heap.size 5 i0 _ 1 1 Try.underlying22 HI.out HZ.out.1 HZ.out.2.1 HZ.out.2.2 rfl (by decide) (.slice (some ⟨g, 0, none⟩) pre.length cap) pre.length (byteCells pre) rfl (HR.out.alloc _) ⟨wr.heap.size, 0, none⟩ 1 1 [.int .u8 (128 + (y : Int) % 128)] rfl rfl (World.news_of_block (cs := #[.int .u8 (128 + (y : Int) % 128)]) (t := 5) (fr := (0, 0)) (heap_alloc_new wr _)) (by simp [Value.oneCell']) (by omega) (by simp only [maxLen]; omega) (by omega) (by simp; omega) (wr.heap.size + 1) (by simp) ?_; intro gg cap2 w4 hown hgrow hat hlt4)
          have hv : ((128 + (y : Int) % 128)) = ((y % 128 + 128 : Nat) : Int) := by omega
          rw [hv] at hown
          clear hv
          go_roundw
          case rel =>
            refine ⟨pre ++ [(y % 128 + 128).toUInt8], y / 128, gg, cap2, by go_num, by rw [List.length_append]; rfl, by omega, ?_, ?_, own_more (by omega) hown, below_more hBr hbs HR.out hgrow⟩
            · have h1 := HP.out
              rw [Go.Lib.uvarint_big hlt] at h1
              rw [List.append_assoc]
              exact h1
            · rw [List.length_append, List.length_singleton]
              have := vsz_big hlt
              omega
          case measure => simp [intOf]; omega
        · have hy8 : y < 128 := by omega
          go_wp2_with (at_builtin; refine wpList_append_lies _ rfl _ _ 22 rfl w.heap.size 5 i0 _ 1 1 Try.underlying22 HI.out HZ.out.1 HZ.out.2.1 HZ.out.2.2 rfl (by decide) (.slice (some ⟨g, 0, none⟩) pre.length cap) pre.length (byteCells pre) rfl (HR.out.alloc _) ⟨wr.heap.size, 0, none⟩ 1 1 [.int .u8 (y : Int)] rfl rfl (World.news_of_block (cs := #[.int .u8 (y : Int)]) (t := 5) (fr := (0, 0)) (heap_alloc_new wr _)) (by simp [Value.oneCell']) (by omega) (by simp only [maxLen]; omega) (by omega) (by simp; omega) (wr.heap.size + 1) (by simp) ?_; intro gg cap2 w4 hown hgrow hat hlt4)
          go_ret
          have h1 := HP.out
          rw [Go.Lib.uvarint_small hy8] at h1
          rw [h1]
          exact ⟨gg, cap2, by rw [List.length_append]; rfl, own_more (by omega) hown, below_more hBr hbs HR.out hgrow⟩

/-- the same, what is answered under a name -/
theorem put_as {w : World} {A : Option Addr} {l : List UInt8} (c x : Nat) (r : List UInt8) (hr : Hid (r = l ++ uvarint x)) (h : Byt w w.heap.size A l) (hm : l.length ≤ 1099511627776) (hx : x ≤ 18446744073709551615) :
    Calls Try.prog 11 #[.slice A l.length c, .int .u64 x] w (NewRow w r) := by
  have := put_any c x h hm hx
  rwa [← hr.out] at this
theorem rput_as {w : World} {A : Option Addr} {l : List UInt8} (c x : Nat) (r : List UInt8) (hr : Hid (r = l ++ uvarint x)) (h : Byt w w.heap.size A l) (hm : l.length ≤ 1099511627776) (hx : x ≤ 18446744073709551615) :
    Calls Try.prog 12 #[.slice A l.length c, .int .u64 x] w (NewRow w r) := by
  have := rput_any c x h hm hx
  rwa [← hr.out] at this

end Go.Proofs.Ytbnlglcjamifpaa
