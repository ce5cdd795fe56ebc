/- The walks of Index, Head, Tail, Join. -/
import Derived.Test.YtbaoaamaameddaaPartTog
namespace Go.Proofs.Ytbaoaamaameddaa
open Go.RowKit

/-- the search is asked only where the library's law holds: an empty separator, or a text of less than 2^32 - 15 bytes -/
def Fits (s sep : ByteArray) : Prop := sep.size = 0 ∨ s.size < 4294967281

theorem isEmpty_no {s : ByteArray} (h : s.size ≠ 0) : s.toList.isEmpty = false := by
  cases hc : s.toList.isEmpty with
  | false => rfl
  | true =>
    rw [List.isEmpty_iff, ByteArray.toList_eq] at hc
    exact absurd (by rw [← ls_size]; show s.data.toList.length = 0; rw [hc]; rfl) h
theorem size_zero {s : ByteArray} (h : s.size = 0) : s = ByteArray.empty := by
  apply ls_inj
  have : (ls s).length = 0 := by rw [ls_size, h]
  rw [List.eq_nil_of_length_eq_zero this]; rfl

set_option maxRecDepth 100000 in
set_option maxHeartbeats 1000000 in
theorem index_any {w : World} (h : ML w) (s sep : ByteArray) (hs : Fits s sep) :
    Calls Try.prog 10 #[.string s, .string sep] w fun e w' => e = .returned (.int .i64 (ix s sep)) ∧ w = w' := by
  obtain ⟨m, hm⟩ := h
  by_cases h0 : sep.size = 0
  · have he := size_zero h0
    rw [ix_empty h0]
    subst he
    clear h0 hs hm
    go_enter Try.func10, Try.ntmps10
    go_wp2
    go_ret
    exact ⟨rfl, rfl⟩
  · have hlt : s.size < 4294967281 := by rcases hs with h | h <;> omega
    have hne : sep.toList.isEmpty = false := isEmpty_no h0
    have hix : ix s sep = Lib.index (ls s) (ls sep) := if_neg h0
    rw [hix]
    clear hix
    go_enter Try.func10, Try.ntmps10
    go_wp2_with (go_at_call 22; refine (Try.strings_Index s sep m _ hlt hm).mono ?_; rintro e w' ⟨rfl, rfl⟩)
    go_ret
    exact ⟨rfl, rfl⟩

theorem strs_new (w : World) (cs : Array Value) (xs : List ByteArray) (T : TypeId) (h : cs.toList = xs.map Value.string) : Strs (w.alloc (.cells cs T)) (w.alloc (.cells cs T)).heap.size (some ⟨w.heap.size, 0, none⟩) xs := by
  refine .inr ⟨w.heap.size, 0, rfl, by simp, fun j hj => ?_⟩
  rw [cell_of_row _ w.heap.size _ cs T (0, 0) (heap_alloc_new w _), Nat.zero_add, ← Array.getElem?_toList, h]
  simp [List.getElem?_eq_getElem hj]

theorem tog_one {w : World} (s : ByteArray) (hs : s.size ≤ 281474976710656) (T : TypeId) :
    Calls Try.prog 24 #[.slice (some ⟨w.heap.size, 0, none⟩) 1 1] (w.alloc (.cells #[.string s] T)) fun e w' => e = .returned (.string s) ∧ Below w.heap.size w w' := by
  have h := together_any (w := w.alloc (.cells #[.string s] T)) [s] 1 (strs_new w #[.string s] [s] T rfl) (by rw [lens_cons]; show _ + 0 ≤ _; omega) (by simp)
  rw [cat_one] at h
  refine Calls.mono h ?_
  rintro e w' ⟨rfl, hb⟩
  exact ⟨rfl, ((Below.refl _ w).alloc (Nat.le_refl _) _).trans (hb.mono (by simp))⟩

theorem tog_three {w : World} (a b c : ByteArray) (hs : a.size + b.size + c.size ≤ 281474976710656) (T : TypeId) :
    Calls Try.prog 24 #[.slice (some ⟨w.heap.size, 0, none⟩) 3 3] (w.alloc (.cells #[.string a, .string b, .string c] T)) fun e w' => e = .returned (.string (a ++ b ++ c)) ∧ Below w.heap.size w w' := by
  have h := together_any (w := w.alloc (.cells #[.string a, .string b, .string c] T)) [a, b, c] 3 (strs_new w #[.string a, .string b, .string c] [a, b, c] T rfl) (by rw [lens_three]; omega) (by simp)
  rw [cat_three] at h
  refine Calls.mono h ?_
  rintro e w' ⟨rfl, hb⟩
  exact ⟨rfl, ((Below.refl _ w).alloc (Nat.le_refl _) _).trans (hb.mono (by simp))⟩

set_option maxRecDepth 100000 in
set_option maxHeartbeats 1000000 in
theorem join_any {w : World} (a b c : ByteArray) (hs : a.size + b.size + c.size ≤ 281474976710656) :
    Calls Try.prog 16 #[.string a, .string b, .string c] w fun e w' => e = .returned (.string (a ++ b ++ c)) ∧ Below w.heap.size w w' := by
  go_enter Try.func16, Try.ntmps16
  go_wp2_with (go_at_call 24; refine (tog_three (w := w) a b c hs _).mono ?_; rintro e w' ⟨rfl, hb⟩)
  go_ret
  exact ⟨rfl, hb⟩

set_option maxRecDepth 100000 in
set_option maxHeartbeats 1000000 in
theorem head_any {w : World} (h : ML w) (s sep : ByteArray) (hs : Fits s sep) (hz : s.size ≤ 281474976710656) :
    Calls Try.prog 12 #[.string s, .string sep] w fun e w' => e = .returned (.string (hd s sep)) ∧ Below w.heap.size w w' := by
  have ci := index_any h s sep hs
  rcases ix_cases s sep with ⟨hi, _⟩ | ⟨k, hi, _, hf⟩
  · rw [hd_none hi]
    rw [hi] at ci
    clear hi
    go_enter Try.func12, Try.ntmps12
    go_wp2_with (first
      | (go_at_call 10; refine ci.mono ?_; rintro e w' ⟨rfl, rfl⟩)
      | (go_at_call 24; refine (tog_one (w := w) s hz _).mono ?_; rintro e w' ⟨rfl, hb⟩))
    go_ret
    exact ⟨rfl, hb⟩
  · rw [hd_at hi]
    rw [hi] at ci
    have hk : k ≤ s.size := by have := hf.1.1; omega
    have q : ((k : Int) == -1) = false := by simp
    have hz2 : (s.extract 0 k).size ≤ 281474976710656 := by rw [ByteArray.size_extract]; omega
    clear hi hf hs
    go_enter Try.func12, Try.ntmps12
    go_wp2_with (first
      | (go_at_call 10; refine ci.mono ?_; rintro e w' ⟨rfl, rfl⟩)
      | (go_at_call 24; refine (tog_one (w := w) (s.extract 0 k) hz2 _).mono ?_; rintro e w' ⟨rfl, hb⟩))
    go_ret
    exact ⟨rfl, hb⟩

set_option maxRecDepth 100000 in
set_option maxHeartbeats 1000000 in
theorem tail_any {w : World} (h : ML w) (s sep : ByteArray) (hs : Fits s sep) (hz : s.size ≤ 281474976710656) :
    Calls Try.prog 14 #[.string s, .string sep] w fun e w' => e = .returned (.string (tl s sep)) ∧ Below w.heap.size w w' := by
  have ci := index_any h s sep hs
  rcases ix_cases s sep with ⟨hi, _⟩ | ⟨k, hi, _, hf⟩
  · rw [tl_none hi]
    rw [hi] at ci
    clear hi
    go_enter Try.func14, Try.ntmps14
    go_wp2_with (first
      | (go_at_call 10; refine ci.mono ?_; rintro e w' ⟨rfl, rfl⟩))
    go_ret
    exact ⟨rfl, Below.refl _ _⟩
  · rw [tl_at hi]
    rw [hi] at ci
    have hk : k + sep.size ≤ s.size := hf.1.1
    have q : ((k : Int) == -1) = false := by simp
    have hz2 : (s.extract (k + sep.size) s.size).size ≤ 281474976710656 := by rw [ByteArray.size_extract]; omega
    clear hi hf hs
    go_enter Try.func14, Try.ntmps14
    go_wp2_with (first
      | (go_at_call 10; refine ci.mono ?_; rintro e w' ⟨rfl, rfl⟩)
      | (go_at_call 24; refine (tog_one (w := w) (s.extract (k + sep.size) s.size) hz2 _).mono ?_; rintro e w' ⟨rfl, hb⟩))
    go_ret
    exact ⟨rfl, hb⟩
end Go.Proofs.Ytbaoaamaameddaa
