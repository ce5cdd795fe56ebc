/- The walks of the library's Repeat, at one text, and of Rep. -/
import Derived.Test.YtbaoaamaameddaaPartCode
import Derived.Deep.OwnRows
import Derived.Laws.CopyRow
import Derived.Laws.CopyOwn
namespace Go.Proofs.Ytbaoaamaameddaa
open Go.RowKit

theorem infoS : (Try.prog.info? 9).map (fun i => (i.zero, i.size, i.bytes)) = some (some (.string ⟨#[]⟩), 1, 16) := by kernel_rfl
theorem sizeS : (Try.prog.info? 9).map (·.size) = some 1 := by kernel_rfl

/-- a row of n places, s in the first m -/
def Row (s : ByteArray) (m n : Nat) : Array Value := (List.replicate m (Value.string s) ++ List.replicate (n - m) (Value.string ⟨#[]⟩)).toArray
theorem row_none (s : ByteArray) (n : Nat) : madeCells #[.string ⟨#[]⟩] n = Row s 0 n := by
  apply Array.ext
  · simp [size_madeCells, Row]
  · intro i h1 h2
    simp [madeCells, Row, Nat.mod_one]
theorem row_size (s : ByteArray) {m n : Nat} (h : m ≤ n) : (Row s m n).size = n := by simp [Row]; omega
theorem row_at (s : ByteArray) {m n j : Nat} (h : j < m) : (Row s m n)[j]? = some (.string s) := by
  unfold Row
  rw [List.getElem?_toArray, List.getElem?_append_left (by simpa using h)]
  simp [h]
theorem row_more (s : ByteArray) {m n k : Nat} (h : m + k ≤ n) : ((Row s m n).toList.take m ++ List.replicate k (Value.string s) ++ (Row s m n).toList.drop (m + k)).toArray = Row s (m + k) n := by
  unfold Row
  congr 1
  rw [List.take_left' (by simp), ← List.replicate_append_replicate (n := m) (m := k), List.drop_append, List.drop_eq_nil_of_le (by simp)]
  simp only [List.length_replicate, List.nil_append, List.drop_replicate]
  congr 2
  omega

theorem run_more {W : World} {g m n : Nat} {T : TypeId} (s : ByteArray) (hg : W.heap[g]? = some (.cells (Row s m n) T (0, 0))) (a : Addr) (k sLen sCap dCap : Nat) (hk : k = Nat.min sLen (n - m)) (hm : m ≤ n)
    (ha : ∀ j, j < k → W.cell? (a.add j) = some (.string s)) (ty : TypeId) :
    (Builtin.copy_ #[42, 42] ty #[.slice (some ⟨g, m, none⟩) (n - m) dCap, .slice (some a) sLen sCap]).run Try.prog W = .ok (.int .i64 (k : Nat)) (W.setRow g (Row s (m + k) n)) := by
  have hle : m + k ≤ n := by
    have : Nat.min sLen (n - m) ≤ n - m := Nat.min_le_right _ _
    omega
  have h := run_copy_row (P := Try.prog) W 42 42 ty 9 g m (n - m) dCap a sLen sCap (Row s m n) T (List.replicate k (.string s)) Try.underlying42 sizeS hg
    (by rw [List.length_replicate]; exact hk) (fun j v hj => by
      rw [List.getElem?_replicate] at hj
      split at hj
      · rename_i hlt
        rw [ha j hlt]; exact hj
      · cases hj) (by rw [List.length_replicate, row_size s hm]; exact hle) (fun v hv => by
      rw [(List.mem_replicate.1 hv).2]; rfl)
  rw [List.length_replicate, row_more s hle] at h
  exact h

theorem mul_one' (n : Nat) (hn : n < 18446744073709551616) (w : World) :
    Calls Try.prog 32 #[.int .u64 1, .int .u64 n] w fun e w' => e = .returned (.tuple #[.int .u64 0, .int .u64 n]) ∧ w = w' := by
  refine (Try.bits_Mul 1 n (by omega) hn w).mono ?_
  rintro e w' ⟨rfl, rfl⟩
  rw [Nat.one_mul, Nat.div_eq_of_lt hn, Nat.mod_eq_of_lt hn]
  exact ⟨rfl, rfl⟩

/-- a new row of n texts s -/
def Reps (w : World) (s : ByteArray) (n : Nat) (e : Ending) (w' : World) : Prop :=
  e = .returned (.slice (some ⟨w.heap.size, 0, none⟩) n n) ∧ Strs w' w'.heap.size (some ⟨w.heap.size, 0, none⟩) (List.replicate n s) ∧ Below w.heap.size w w'

theorem reps_of {w w' : World} {s : ByteArray} {n : Nat} {T : TypeId} (h : w'.heap[w.heap.size]? = some (.cells (Row s n n) T (0, 0))) (hb : Below w.heap.size w w') : Reps w s n (.returned (.slice (some ⟨w.heap.size, 0, none⟩) n n)) w' := by
  refine ⟨rfl, .inr ⟨_, 0, rfl, (Array.getElem?_eq_some_iff.1 h).1, fun j hj => ?_⟩, hb⟩
  rw [cell_of_row _ w.heap.size _ _ T (0, 0) h, Nat.zero_add, row_at s (by simpa using hj)]
  simp

set_option maxRecDepth 100000 in
set_option maxHeartbeats 2000000 in
theorem repeat_any {w : World} (s : ByteArray) (n : Nat) (hn : n ≤ 4096) (b o c : Nat) (hb : b < w.heap.size) (hc : w.cell? ⟨b, o, none⟩ = some (.string s)) :
    Calls Try.prog 25 #[.slice (some ⟨b, o, none⟩) 1 c, .int .i64 n] w (Reps w s n) := by
  have hmk := run_make_row' (P := Try.prog) 42 9 (.string ⟨#[]⟩) 16 Try.underlying42 infoS rfl .i64 .i64 n (by omega) (by omega)
  rw [row_none s n] at hmk
  have hcA : (w.alloc (.cells (Row s 0 n) 9)).cell? ⟨b, o, none⟩ = some (.string s) := (((Below.refl _ w).alloc (Nat.le_refl _) _).cell (p := ⟨b, o, none⟩) hb).trans hc
  have cm := mul_one' n (by omega)
  obtain ⟨k0, hk0⟩ : ∃ k0, k0 = Nat.min 1 (n - 0) := ⟨_, rfl⟩
  have hcp := run_more (g := w.heap.size) (m := 0) (n := n) s (heap_alloc_new w _) ⟨b, o, none⟩ k0 1 c n hk0 (Nat.zero_le _) (fun j hj => by
    have : Nat.min 1 (n - 0) ≤ 1 := Nat.min_le_left _ _
    obtain rfl : j = 0 := by omega
    rw [Addr.add_lit]; exact hcA) 3
  rw [Nat.sub_zero, Nat.zero_add] at hcp
  have hk01 : k0 ≤ n := by rw [hk0]; exact Nat.le_trans (Nat.min_le_right _ _) (by omega)
  have hk02 : 0 < n → 0 < k0 := fun h => by rw [hk0]; exact Nat.lt_min.2 ⟨by omega, by omega⟩
  have hrow : ((w.alloc (.cells (Row s 0 n) 9)).setRow w.heap.size (Row s k0 n)).heap[w.heap.size]? = some (.cells (Row s k0 n) 9 (0, 0)) := setRow_heap _ _ _ _ _ _ (heap_alloc_new w _)
  have hbel : Below w.heap.size w ((w.alloc (.cells (Row s 0 n) 9)).setRow w.heap.size (Row s k0 n)) := below_setRow ((Below.refl _ w).alloc (Nat.le_refl _) _) (Nat.le_refl _) _
  obtain ⟨w1, hw1⟩ : ∃ w1, (w.alloc (.cells (Row s 0 n) 9)).setRow w.heap.size (Row s k0 n) = w1 := ⟨_, rfl⟩
  rw [hw1] at hcp hrow hbel
  clear hw1 hcA hk0
  have HK := Lib.hid hk02
  clear hk02
  go_enter Try.func25, Try.ntmps25
  go_wp2_with (go_at_call 32; refine (cm _).mono ?_; rintro e w' ⟨rfl, rfl⟩)
  go_loopw [8] (fun v wr => ∃ m : Nat, v = .int .i64 m ∧ m ≤ n ∧ (0 < n → 0 < m) ∧ wr.heap[w.heap.size]? = some (.cells (Row s m n) 9 (0, 0)) ∧ Below w.heap.size w wr) (fun v _ => n - (intOf v).toNat)
  case atStart => exact ⟨k0, rfl, hk01, HK.out, hrow, hbel⟩
  case round =>
    obtain ⟨m, rfl, hm, hm0, hg, hbw⟩ := hrel
    by_cases hmn : m < n
    · have hpos : 0 < m := hm0 (by omega)
      obtain ⟨k, hk⟩ : ∃ k, k = Nat.min m (n - m) := ⟨_, rfl⟩
      have hkp : 0 < k := by rw [hk]; exact Nat.lt_min.2 ⟨hpos, by omega⟩
      have hkn : m + k ≤ n := by have : Nat.min m (n - m) ≤ n - m := Nat.min_le_right _ _; omega
      have hcpw : ∀ W : World, W.heap = wr.heap → _ := fun W hW => run_more (W := W) (g := w.heap.size) (m := m) (n := n) s (by rw [hW]; exact hg) ⟨w.heap.size, 0, none⟩ k m n (n - m) hk hm (fun j hj => by
        have : Nat.min m (n - m) ≤ m := Nat.min_le_left _ _
        rw [Addr.add_lit, cell_of_row W w.heap.size (0 + j) _ _ (0, 0) (by rw [hW]; exact hg), Nat.zero_add]
        exact row_at s (by omega)) 3
      have hcp1 := hcpw wr.drew rfl
      have hg2 : (wr.setRow w.heap.size (Row s (m + k) n)).heap[w.heap.size]? = some (.cells (Row s (m + k) n) 9 (0, 0)) := setRow_heap _ _ _ _ _ _ hg
      have hb2 : Below w.heap.size w (wr.drew.setRow w.heap.size (Row s (m + k) n)) := below_setRow (Below.thenN hbw 1) (Nat.le_refl _) _
      have hne : ¬ n = m := by omega
      obtain ⟨M, hM⟩ : ∃ M, m + k = M := ⟨_, rfl⟩
      have hwr : IntKind.i64.wrap ((m : Int) + (k : Int)) = (M : Int) := by rw [IntKind.wrap_i64]; omega
      have hMp : 0 < M := by omega
      have hMm : m < M := by omega
      rw [hM] at hcp1 hg2 hb2 hkn
      clear hcpw hk hm0 hcp hM
      go_wp2
      go_region_with fail
      go_roundw
      case rel => exact ⟨_, _, _, _, _, _, _, _, _, _, _, _, _, _, ⟨M, rfl, hkn, fun _ => hMp, hg2, hb2⟩, rfl⟩
      case measure =>
        show n - (M : Int).toNat < n - (m : Int).toNat
        omega
    · obtain rfl : m = n := by omega
      go_wp2
      go_ret
      exact reps_of hg hbw

theorem catL_rep (s : ByteArray) (n : Nat) : lens (List.replicate n s) = n * s.size := rpL_len s n

set_option maxRecDepth 100000 in
set_option maxHeartbeats 2000000 in
theorem rep_any {w : World} (s : ByteArray) (n : Nat) (hn : n ≤ 18446744073709551615) (hs : s.size ≤ 9223372036854775807) :
    Calls Try.prog 18 #[.string s, .int .u64 n] w fun e w' => e = .returned (.tuple #[.string (repT s n), .int .i64 (repE s n)]) ∧ Below w.heap.size w w' := by
  unfold repT repE
  by_cases h0 : s.size = 0
  · rw [rp_empty h0, h0, Nat.mul_zero, if_pos (Nat.zero_le _), if_pos (Nat.zero_le _)]
    obtain rfl := size_zero h0
    clear h0 hs
    go_enter Try.func18, Try.ntmps18
    go_wp2
    go_ret2
    exact ⟨rfl, Below.refl _ _⟩
  · have he := isEmpty_no h0
    by_cases hle : n * s.size ≤ 4096
    · rw [if_pos hle, if_pos hle]
      have hn2 : n ≤ 4096 := by
        have : n * 1 ≤ n * s.size := Nat.mul_le_mul_left _ (by omega)
        omega
      have hq : ¬ ((4096 : Int) / (s.size : Int) < (n : Int)) := by
        have h1 : n ≤ 4096 / s.size := (Nat.le_div_iff_mul_le (by omega)).2 hle
        have h2 : (4096 : Int) / (s.size : Int) = ((4096 / s.size : Nat) : Int) := rfl
        rw [h2]
        omega
      have hz : (s.size : Int) ≠ 0 := by omega
      have ct : ∀ {W : World}, Strs W W.heap.size (some ⟨w.heap.size + 1, 0, none⟩) (List.replicate n s) → Calls Try.prog 24 #[.slice (some ⟨w.heap.size + 1, 0, none⟩) n n] W fun e w' => e = .returned (.string (rp s n)) ∧ Below W.heap.size W w' := fun {W} h => by
        have := together_any (w := W) (List.replicate n s) n h (by rw [catL_rep]; omega) (by rw [List.length_replicate]; omega)
        rw [List.length_replicate] at this
        exact this
      have cr := fun T => repeat_any (w := w.alloc (.cells #[.string s] T)) s n hn2 w.heap.size 0 1 (by simp) (by rw [cell_of_row _ w.heap.size 0 #[.string s] T (0, 0) (heap_alloc_new w _)]; rfl)
      have HLE := Lib.hid hle
      clear hle
      go_enter Try.func18, Try.ntmps18
      go_wp2_with (first
        | (go_at_call 25; refine (cr _).mono ?_; rintro e w1 ⟨rfl, h1, b1⟩; have hb1 := ((Below.refl _ w).alloc (Nat.le_refl _) _).trans (b1.mono (by simp)))
        | (go_at_call 24; refine (ct (by simpa using h1)).mono ?_; rintro e w2 ⟨rfl, b2⟩))
      go_ret2
      exact ⟨rfl, Below.both hb1 b2⟩
    · rw [if_neg hle, if_neg hle]
      have hq : (4096 : Int) / (s.size : Int) < (n : Int) := by
        have h1 : 4096 / s.size < n := (Nat.div_lt_iff_lt_mul (by omega)).2 (by omega)
        have h2 : (4096 : Int) / (s.size : Int) = ((4096 / s.size : Nat) : Int) := rfl
        rw [h2]
        omega
      have hz : (s.size : Int) ≠ 0 := by omega
      clear hle
      go_enter Try.func18, Try.ntmps18
      go_wp2
      go_ret2
      exact ⟨rfl, Below.refl _ _⟩
end Go.Proofs.Ytbaoaamaameddaa
