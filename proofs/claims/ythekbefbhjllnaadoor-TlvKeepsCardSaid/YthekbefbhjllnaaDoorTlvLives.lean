/- The walk of the statements' first question. -/
import Derived.Test.YthekbefbhjllnaaDoorTlvSame
import Derived.Great.BuildSlice
namespace Go.Proofs.YthekbefbhjllnaaDoor
open Go.RowKit
open Go.Lib (byteCells uvarint)

/-- the call answers true and what stood stands -/
def Yes (W : World) (e : Ending) (w' : World) : Prop := e = .returned (.bool true) ∧ Below W.heap.size W w'

def smallL : List Fd := [⟨1, ⟨1, 300, ⟨#[]⟩⟩⟩, ⟨16, ⟨4, 0, ⟨#[97, 98]⟩⟩⟩]
def smallB : List UInt8 := [9, 2, 172, 2, 132, 1, 2, 97, 98]
theorem uv_small {x : Nat} {c : UInt8} (h : x < 128) (hc : x.toUInt8 = c) : uvarint x = [c] := by rw [Go.Lib.uvarint_small h, hc]
theorem uv_two {x : Nat} {c d : UInt8} (h : 128 ≤ x) (h2 : x / 128 < 128) (hc : (x % 128 + 128).toUInt8 = c) (hd : (x / 128).toUInt8 = d) : uvarint x = [c, d] := by
  rw [Go.Lib.uvarint_big h, Go.Lib.uvarint_small h2, hc, hd]
theorem small_enc : enc smallL = smallB := by
  have p1 : pay ⟨1, 300, ⟨#[]⟩⟩ = [172, 2] := by
    show uvarint 300 = _
    exact uv_two (by decide) (by decide) (by decide) (by decide)
  have p2 : pay ⟨4, 0, ⟨#[97, 98]⟩⟩ = [97, 98] := rfl
  have k1 : uvarint (keyF ⟨1, ⟨1, 300, ⟨#[]⟩⟩⟩).toNat = [9] := uv_small (by decide) (by decide)
  have k2 : uvarint (keyF ⟨16, ⟨4, 0, ⟨#[97, 98]⟩⟩⟩).toNat = [132, 1] := uv_two (by decide) (by decide) (by decide) (by decide)
  have l1 : uvarint 2 = [2] := uv_small (by decide) (by decide)
  unfold smallL
  rw [enc_cons, enc_cons, enc_nil]
  unfold fb
  rw [k1, k2]
  dsimp only
  rw [p1, p2]
  show [9] ++ (uvarint 2 ++ [172, 2]) ++ ([132, 1] ++ (uvarint 2 ++ [97, 98]) ++ []) = _
  rw [l1]
  rfl
theorem small_is : Is 0 smallL := by
  refine ⟨?_, ?_, ?_, ?_, trivial⟩
  · decide
  · unfold Fit; decide
  · decide
  · unfold Fit; decide
theorem small_cer : cer smallL = 0 ∧ cat smallL = 0 ∧ csz smallL = 9 ∧ cby smallL = smallB := by
  have := cer_ok small_is (by rw [small_enc]; decide)
  rw [small_enc] at this
  exact this
theorem small_der : der smallB = 0 ∧ dre smallB = smallL := der_ok (by decide) small_is small_enc
def twoL : List Fd := [⟨2, zeroV⟩, ⟨1, zeroV⟩]
theorem two_cer : cer twoL = 1 ∧ cat twoL = 0 := by
  have := cer_bad (l := twoL) (i := 0) (f := ⟨2, zeroV⟩) rfl trivial (by decide)
  exact ⟨this.1, this.2.1⟩
theorem small_good : Good smallL ∧ Light smallL := is_good small_is (by rw [small_enc]; decide)
theorem two_good : Good twoL ∧ Light twoL := by
  refine ⟨fun f hf => ?_, ⟨by decide, by decide⟩⟩
  simp only [twoL, List.mem_cons, List.not_mem_nil, or_false] at hf
  rcases hf with rfl | rfl <;> exact ⟨by unfold Fit zeroV; decide, by unfold zeroV; decide⟩

/-- a list of fields that was just laid -/
theorem FRow.made (w : World) (l : List Fd) (cs : Array Value) (hcs : cs.toList = fcs l) (T : TypeId) : FRow (w.alloc (.cells cs T)) (w.alloc (.cells cs T)).heap.size (some ⟨w.heap.size, 0, none⟩) l := by
  refine .inr ⟨w.heap.size, 0, rfl, by simp, fun i f hf => ?_⟩
  have q : ∀ k, k < 4 → (w.alloc (.cells cs T)).cell? ⟨w.heap.size, i * 4 + k, none⟩ = (ffC f)[k]? := fun k hk => by
    rw [cell_of_row _ w.heap.size _ cs T (0, 0) (heap_alloc_new w _), ← Array.getElem?_toList, hcs]
    exact fcs_get l i f k hf hk
  rw [Nat.zero_add]
  exact ⟨q 0 (by omega), q 1 (by omega), q 2 (by omega), q 3 (by omega)⟩

set_option maxRecDepth 100000 in
set_option maxHeartbeats 1000000 in
theorem small_any {w : World} (h : KVars w) : Calls Tryd.prog 29 #[] w fun e w' => e = .returned (.slice (some ⟨w.heap.size, 0, none⟩) 2 2) ∧ w' = w.alloc (.cells #[.int .i64 1, .int .i64 1, .int .u64 300, .string ⟨#[]⟩, .int .i64 16, .int .i64 4, .int .u64 0, .string ⟨#[97, 98]⟩] 41) := by
  go_enter Tryd.func29, Tryd.ntmps29
  go_wp2_with (first
    | (go_at_call 24; refine (uint_any h).mono ?_; rintro e w' ⟨rfl, rfl⟩)
    | (go_at_call 44; refine (text_any h).mono ?_; rintro e w' ⟨rfl, rfl⟩))
  go_ret
  exact ⟨rfl, rfl⟩

/-- a list of bytes that was just made -/
theorem Byt.made (w : World) (cs : Array Value) (l : List UInt8) (h : cs.toList = byteCells l) (T : TypeId) : Byt (w.alloc (.cells cs T)) (w.alloc (.cells cs T)).heap.size (some ⟨w.heap.size, 0, none⟩) l := by
  refine .inr ⟨w.heap.size, 0, rfl, by simp, fun j hj => ?_⟩
  rw [cell_of_row _ w.heap.size _ cs T (0, 0) (heap_alloc_new w _), Nat.zero_add]
  rw [← Array.getElem?_toList, h]
  exact byteCells_get l j hj

def smallC : Array Value := #[.int .i64 1, .int .i64 1, .int .u64 300, .string ⟨#[]⟩, .int .i64 16, .int .i64 4, .int .u64 0, .string ⟨#[97, 98]⟩]
theorem live_enc {w0 w : World} (h : KSt w0 w) : Calls Tryd.prog 16 #[.slice (some ⟨w.heap.size, 0, none⟩) 2 2] (w.alloc (.cells #[.int .i64 1, .int .i64 1, .int .u64 300, .string ⟨#[]⟩, .int .i64 16, .int .i64 4, .int .u64 0, .string ⟨#[97, 98]⟩] 41)) fun e w' =>
    ∃ A c, e = .returned (.tuple #[.slice A 9 c, .int .i64 0]) ∧ Byt w' w'.heap.size A smallB ∧ 9 ≤ c ∧ Below w.heap.size w w' := by
  have := encode_any (h.new (.cells smallC 41)) 2 (FRow.made w smallL smallC rfl 41) small_good.1 small_good.2
  refine this.mono ?_
  rintro e w' ⟨A, c, he, ho, hb⟩
  obtain ⟨z1, _, _, z2⟩ := small_cer
  rw [z1, z2] at he
  rw [z2] at ho
  exact ⟨A, c, he, ho.reads, (own_room ho).1, ((Below.refl _ _).alloc (Nat.le_refl _) _).trans (hb.mono (by simp))⟩
theorem live_dec {w0 w : World} (h : KSt w0 w) {A : Option Addr} {c : Nat} (hA : Byt w w.heap.size A smallB) (hc : 9 ≤ c) : Calls Tryd.prog 21 #[.slice A 9 c] w fun e w' =>
    ∃ A' c', e = .returned (.tuple #[.slice A' 2 c', .int .i64 0]) ∧ FRow w' w'.heap.size A' smallL ∧ Below w.heap.size w w' := by
  refine (decode_any h c hA hc (by decide)).mono ?_
  rintro e w' ⟨A', c', he, ho, hb⟩
  obtain ⟨z1, z2⟩ := small_der
  rw [z1, z2] at he
  rw [z2] at ho
  exact ⟨A', c', he, ho.reads, hb⟩
theorem live_size {w0 w : World} (h : KSt w0 w) : Calls Tryd.prog 18 #[.slice (some ⟨w.heap.size, 0, none⟩) 2 2] (w.alloc (.cells #[.int .i64 1, .int .i64 1, .int .u64 300, .string ⟨#[]⟩, .int .i64 16, .int .i64 4, .int .u64 0, .string ⟨#[97, 98]⟩] 41)) fun e w' =>
    e = .returned (.tuple #[.int .i64 9, .int .i64 0]) ∧ Below w.heap.size w w' := by
  have := size5_any (h.new (.cells smallC 41)) 2 (FRow.made w smallL smallC rfl 41) small_good.1 small_good.2
  refine this.mono ?_
  rintro e w' ⟨he, hb⟩
  obtain ⟨z1, _, z2, _⟩ := small_cer
  rw [z1, z2] at he
  exact ⟨he, ((Below.refl _ _).alloc (Nat.le_refl _) _).trans (hb.mono (by simp))⟩
def twoC : Array Value := #[.int .i64 2, .int .i64 0, .int .u64 0, .string ⟨#[]⟩, .int .i64 1, .int .i64 0, .int .u64 0, .string ⟨#[]⟩]
theorem live_check {w0 w : World} (h : KSt w0 w) : Calls Tryd.prog 14 #[.slice (some ⟨w.heap.size, 0, none⟩) 2 2] (w.alloc (.cells #[.int .i64 2, .int .i64 0, .int .u64 0, .string ⟨#[]⟩, .int .i64 1, .int .i64 0, .int .u64 0, .string ⟨#[]⟩] 41)) fun e w' =>
    e = .returned (.tuple #[.int .i64 0, .int .i64 1]) ∧ Below w.heap.size w w' := by
  have := check_any (h.new (.cells twoC 41)) 2 (FRow.made w twoL twoC rfl 41) two_good.1 two_good.2
  refine this.mono ?_
  rintro e w' ⟨he, hb⟩
  rw [two_cer.1, two_cer.2] at he
  exact ⟨he, ((Below.refl _ _).alloc (Nat.le_refl _) _).trans (hb.mono (by simp))⟩
theorem live_same {w0 w : World} (_h : KSt w0 w) {A : Option Addr} {c : Nat} (hA : FRow w w.heap.size A smallL) : Calls Tryd.prog 22 #[.slice A 2 c, .slice (some ⟨w.heap.size, 0, none⟩) 2 2] (w.alloc (.cells #[.int .i64 1, .int .i64 1, .int .u64 300, .string ⟨#[]⟩, .int .i64 16, .int .i64 4, .int .u64 0, .string ⟨#[97, 98]⟩] 41)) fun e w' =>
    e = .returned (.bool true) ∧ Below w.heap.size w w' := by
  have := same_any (w := w.alloc (.cells smallC 41)) c 2 (hA.then_ ((Below.refl _ _).alloc (Nat.le_refl _) _)) (FRow.made w smallL smallC rfl 41) (by decide) (by decide)
  refine this.mono ?_
  rintro e w' ⟨he, d, rfl⟩
  rw [sm_self] at he
  exact ⟨he, Below.thenN ((Below.refl _ _).alloc (Nat.le_refl _) _) d⟩
theorem live_alike {w : World} {A : Option Addr} {c : Nat} (hA : Byt w w.heap.size A smallB) : Calls Tryd.prog 19 #[.slice A 9 c, .slice (some ⟨w.heap.size, 0, none⟩) 9 9] (w.alloc (.cells #[.int .u8 9, .int .u8 2, .int .u8 172, .int .u8 2, .int .u8 132, .int .u8 1, .int .u8 2, .int .u8 97, .int .u8 98] 5)) fun e w' =>
    e = .returned (.bool true) ∧ Below w.heap.size w w' := by
  have := alike_any (w := w.alloc (.cells #[.int .u8 9, .int .u8 2, .int .u8 172, .int .u8 2, .int .u8 132, .int .u8 1, .int .u8 2, .int .u8 97, .int .u8 98] 5)) c 9 (hA.then_ ((Below.refl _ _).alloc (Nat.le_refl _) _)) (Byt.made w #[.int .u8 9, .int .u8 2, .int .u8 172, .int .u8 2, .int .u8 132, .int .u8 1, .int .u8 2, .int .u8 97, .int .u8 98] smallB rfl 5)
  refine this.mono ?_
  rintro e w' ⟨he, rfl⟩
  exact ⟨he, (Below.refl _ _).alloc (Nat.le_refl _) _⟩

set_option maxRecDepth 100000 in
set_option maxHeartbeats 2000000 in
theorem lives_any {w0 w : World} (h : KSt w0 w) : Calls Tryd.prog 11 #[] w fun e w' => e = .returned (.bool true) ∧ Below w.heap.size w w' := by
  go_enter Tryd.func11, Tryd.ntmps11
  go_wp2_with (first
    | (go_at_call 29; refine (small_any h.k).mono ?_; rintro e w' ⟨rfl, rfl⟩)
    | (go_at_call 16; refine (live_enc h).mono ?_; rintro e w1 ⟨A, c, rfl, hA, hc, hb1⟩))
  refine (live_alike hA).mono ?_
  rintro e w2 ⟨rfl, hb2⟩
  have h2 : KSt w0 w2 := (h.then_ hb1).then_ hb2
  have hA2 := hA.then_ hb2
  have hB2 : Below w.heap.size w w2 := Below.both hb1 hb2
  clear hb1 hb2 hA
  go_wp2_with (go_at_call 21; refine (live_dec h2 hA2 hc).mono ?_; rintro e w3 ⟨A3, c3, rfl, hF3, hb3⟩; have h3 : KSt w0 w3 := h2.then_ hb3)
  have hB3 : Below w.heap.size w w3 := Below.both hB2 hb3
  clear hb3 hB2
  refine (small_any h3.k).mono ?_
  rintro e w' ⟨rfl, rfl⟩
  go_wp2_with (go_at_call 18; refine (live_size h3).mono ?_; rintro e w4 ⟨rfl, hb4⟩; have h4 : KSt w0 w4 := h3.then_ hb4; have hF4 := hF3.then_ hb4)
  have hB4 : Below w.heap.size w w4 := Below.both hB3 hb4
  clear hb4 hB3
  refine (live_check h4).mono ?_
  rintro e w5 ⟨rfl, hb5⟩
  have h5 : KSt w0 w5 := h4.then_ hb5
  have hF5 := hF4.then_ hb5
  have hB5 : Below w.heap.size w w5 := Below.both hB4 hb5
  clear hb5 hB4
  go_wp2_with (first
    | (go_at_call 29; refine (small_any h5.k).mono ?_; rintro e w' ⟨rfl, rfl⟩)
    | (go_at_call 22; refine (live_same h5 hF5).mono ?_; rintro e w6 ⟨rfl, hb6⟩))
  go_ret
  exact ⟨rfl, Below.both hB5 hb6⟩
end Go.Proofs.YthekbefbhjllnaaDoor
