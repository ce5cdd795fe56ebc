/- Words on memory for layer 7: texts in a row, the variable that the library's search reads, a builder with room. No walk here. -/
import Derived.Test.YtmbiompmhaiehaaDoorExGa
import Derived.Test.YtmbiompmhaiehaaDoorShelf
import Derived.Test.YtmbiompmhaiehaaDoorExGb
import Derived.Room.Shelf.BuilderFits
import Derived.Deep.OwnRows
import Derived.Laws.CopyRow
import Derived.Laws.CopyOwn
import Derived.Laws.MakeOwn
namespace Go.Proofs.YtmbiompmhaiehaaDoor
open Go.RowKit
open Go.Lib (byteCells)

/-- At the address A stand the texts l, below block B. -/
def Strs (w : World) (B : Nat) (A : Option Addr) (l : List ByteArray) : Prop :=
  l = [] ∨ ∃ b o, A = some ⟨b, o, none⟩ ∧ b < B ∧ ∀ j (h : j < l.length), w.cell? ⟨b, o + j, none⟩ = some (.string l[j])

section
variable {w w' : World} {B B' : Nat} {A : Option Addr} {l : List ByteArray}
theorem Strs.at_ (h : Strs w B A l) (hl : 0 < l.length) : ∃ b o, A = some ⟨b, o, none⟩ ∧ b < B ∧ ∀ j (h : j < l.length), w.cell? ⟨b, o + j, none⟩ = some (.string l[j]) := by
  rcases h with rfl | h
  · simp at hl
  · exact h
theorem Strs.below (h : Strs w B A l) (hb : Below B w w') : Strs w' B A l := by
  rcases h with rfl | ⟨b, o, rfl, hB, hc⟩
  · exact .inl rfl
  · exact .inr ⟨b, o, rfl, hB, fun j hj => (hb.cell (p := ⟨b, _, none⟩) hB).trans (hc j hj)⟩
end

/-- the numbers of the builder's own functions and types, for the library's laws -/
def bren : Go.Shelf.Ren := ⟨fun
  | 166 => 78 | 240 => 87 | 276 => 92 | n => n, fun
  | 70 => 115 | 3 => 3 | 0 => 0 | 4 => 4 | 9 => 9 | 20 => 20 | 72 => 117 | 37 => 96 | 164 => 136 | 5 => 5 | 75 => 119 | 80 => 122 | 71 => 48 | n => n, fun | n => n⟩
theorem blays : Go.Proofs.Lays.n166 Tryd.prog bren := {
  mixed := by kernel_rfl
  f166 := Tryd.func78.trans (congrArg some (by kernel_rfl))
  f240 := Tryd.func87.trans (congrArg some (by kernel_rfl))
  f276 := Tryd.func92.trans (congrArg some (by kernel_rfl))
  t0 := Tryd.underlying0
  a0 := Tryd.isAgg0
  z0 := Tryd.sizeOf0
  v0 := Tryd.zeroValue0
  t3 := Tryd.underlying3
  a3 := Tryd.isAgg3
  z3 := Tryd.sizeOf3
  v3 := Tryd.zeroValue3
  t4 := Tryd.underlying4
  a4 := Tryd.isAgg4
  z4 := Tryd.sizeOf4
  v4 := Tryd.zeroValue4
  t9 := Tryd.underlying9
  a9 := Tryd.isAgg9
  z9 := Tryd.sizeOf9
  v9 := Tryd.zeroValue9
  t20 := Tryd.underlying20
  a20 := Tryd.isAgg20
  z20 := Tryd.sizeOf20
  v20 := Tryd.zeroValue20
  t37 := Tryd.underlying96
  a37 := Tryd.isAgg96
  z37 := Tryd.sizeOf96
  v37 := Tryd.zeroValue96
  t70 := Tryd.underlying115
  a70 := Tryd.isAgg115
  z70 := Tryd.sizeOf115
  v70 := Tryd.zeroValue115
  t72 := Tryd.underlying117
  a72 := Tryd.isAgg117
  z72 := Tryd.sizeOf117
  v72 := Tryd.zeroValue117
  t75 := Tryd.underlying119
  a75 := Tryd.isAgg119
  z75 := Tryd.sizeOf119
  v75 := Tryd.zeroValue119
  t164 := Tryd.underlying136
  a164 := Tryd.isAgg136
  z164 := Tryd.sizeOf136
  v164 := Tryd.zeroValue136 }
theorem bxtra : Builder.Extra Tryd.prog bren := {
  sizeBuilder := by kernel_rfl
  liesBuilder := by kernel_rfl
  t5 := Tryd.underlying5
  a5 := Tryd.isAgg5
  z5 := Tryd.sizeOf5
  v5 := Tryd.zeroValue5
  infoByte := by kernel_rfl
  cellsByte := by kernel_rfl
  sizeByte := by kernel_rfl
  neB5 := by decide }

/-- the builder in block b, of the call's own from B on, holds these bytes, and there is room for N -/
def Bld (B b N : Nat) (l : List UInt8) (w : World) : Prop :=
  Lib.IsBuilder 117 5 B b (byteCells l) w ∧ (N = 0 ∨ Lib.BldRoom b l.length N w)

theorem bld_fresh {w : World} {N : Nat} (hN : N ≤ 281474976710656) :
    Calls Tryd.prog 91 #[.pointer (some ⟨w.heap.size, 0, none⟩), .int .i64 N] (w.alloc (.cells #[.pointer none, .slice none 0 0] 117)) fun e w' => e = .returned (.tuple #[]) ∧ Bld w.heap.size w.heap.size N [] w' ∧ Below w.heap.size w w' := by
  refine (Tryd.Builder_Grow_fresh_cap w.heap.size w.heap.size N _ (Nat.le_refl _) (heap_alloc_new w _) (by simp) hN).mono ?_
  rintro e w1 ⟨rfl, ⟨h1, hb1⟩, p, cap, hcell, hcap⟩
  exact ⟨rfl, ⟨.inr h1, .inr ⟨p, cap, hcell, hcap⟩⟩, ((Below.refl _ w).alloc (Nat.le_refl _) _).trans hb1⟩

theorem strCells_ls (s : ByteArray) : Lib.strCells s = byteCells (ls s) := rfl

theorem Bld.write {B b N : Nat} {l : List UInt8} {w : World} (h : Bld B b N l w) (s : ByteArray) (hN : l.length + s.size ≤ N) (hB : B ≤ w.heap.size) (r : List UInt8) (hr : r = l ++ ls s) :
    Calls Tryd.prog 78 #[.pointer (some ⟨b, 0, none⟩), .string s] w fun e w' => e = .returned (.tuple #[.int .i64 s.size, .nilIface]) ∧ Bld B b N r w' ∧ Below B w w' := by
  have hl := Go.Lib.byteCells_length l
  rcases h.2 with h0 | h0
  · refine (Any.Builder_WriteString (ρ := bren) blays bxtra B b (byteCells l) s w h.1 (by rw [hl]; omega) hB).mono ?_
    rintro e w' ⟨rfl, h1, h2⟩
    rw [strCells_ls, ← Go.Lib.byteCells_append, ← hr] at h1
    exact ⟨rfl, ⟨.inr h1, .inl h0⟩, h2⟩
  · rcases Nat.eq_zero_or_pos N with hz | hz
    · refine (Any.Builder_WriteString (ρ := bren) blays bxtra B b (byteCells l) s w h.1 (by rw [hl]; omega) hB).mono ?_
      rintro e w' ⟨rfl, h1, h2⟩
      rw [strCells_ls, ← Go.Lib.byteCells_append, ← hr] at h1
      exact ⟨rfl, ⟨.inr h1, .inl hz⟩, h2⟩
    · refine (Any.Builder_WriteString_fits (ρ := bren) blays bxtra B b N (byteCells l) s w h.1 (by rw [hl]; exact h0) hz (by rw [hl]; exact hN) hB).mono ?_
      rintro e w' ⟨rfl, ⟨h1, h2⟩, h3⟩
      rw [strCells_ls, ← Go.Lib.byteCells_append, ← hr] at h1
      rw [hl, ← ls_size, ← List.length_append, ← hr] at h3
      exact ⟨rfl, ⟨.inr h1, .inr h3⟩, h2⟩
end Go.Proofs.YtmbiompmhaiehaaDoor
/- The walk of together: the texts one behind the other. -/
namespace Go.Proofs.YtmbiompmhaiehaaDoor
open Go.RowKit
open Go.Lib (byteCells)

set_option maxRecDepth 100000 in
set_option maxHeartbeats 2000000 in
theorem together_any {w : World} {A : Option Addr} (xs : List ByteArray) (c : Nat) (h : Strs w w.heap.size A xs) (hs : lens xs ≤ 281474976710656) (hn : xs.length ≤ 9223372036854775807) :
    Calls Tryd.prog 84 #[.slice A xs.length c] w fun e w' => e = .returned (.string (cat xs)) ∧ Below w.heap.size w w' := by
  have H := Lib.hid h
  clear h
  go_enter Tryd.func84, Tryd.ntmps84
  go_wp2
  go_loop [3, 11] (fun n i => ∃ k : Nat, k ≤ xs.length ∧ i = .int .i64 k ∧ n = .int .i64 (lens (xs.take k) : Nat)) (fun _ i => xs.length - (intOf i).toNat)
  case atStart => exact ⟨0, Nat.zero_le _, rfl, rfl⟩
  case round =>
    obtain ⟨k, hk, rfl, rfl⟩ := hrel
    by_cases hkn : k < xs.length
    · obtain ⟨b, o, rfl, hb, hc⟩ := H.out.at_ (by omega)
      have hck := hc k hkn
      have hstep := lens_take xs k hkn
      have hbound := lens_take_le xs (k + 1)
      obtain ⟨x, hx⟩ : ∃ x, xs[k] = x := ⟨_, rfl⟩
      obtain ⟨L0, hL0⟩ : ∃ L0, lens (xs.take k) = L0 := ⟨_, rfl⟩
      obtain ⟨L1, hL1⟩ : ∃ L1, lens (xs.take (k + 1)) = L1 := ⟨_, rfl⟩
      rw [hx] at hck hstep
      rw [hL0]
      rw [hL0, hL1] at hstep
      rw [hL1] at hbound
      have HL1 := Lib.hid hL1
      clear hx hL0 hL1 hc
      go_wp2
      exact ⟨⟨k + 1, by omega, by go_num, by rw [HL1.out]; refine congrArg _ ?_; omega⟩, by simp [intOf]; omega⟩
    · obtain rfl : k = xs.length := by omega
      rw [List.take_length]
      obtain ⟨N, hN⟩ : ∃ N, lens xs = N := ⟨_, rfl⟩
      rw [hN]
      rw [hN] at hs
      have HN := Lib.hid hN
      clear hN
      go_wp2_with (go_at_call 91; refine (bld_fresh (w := w) hs).mono ?_; rintro e w1 ⟨rfl, hbld, hBw⟩)
      obtain ⟨B, hB⟩ : ∃ B, w.heap.size = B := ⟨_, rfl⟩
      rw [hB] at hBw hbld ⊢
      have HB := Lib.hid hB
      clear hB
      go_wp2
      go_loopw [24] (fun i wr => ∃ k : Nat, k ≤ xs.length ∧ i = .int .i64 k ∧ Bld B B N (catL (xs.take k)) wr ∧ Below B w wr) (fun i _ => xs.length - (intOf i).toNat)
      case atStart => exact ⟨0, Nat.zero_le _, rfl, hbld, hBw⟩
      case round =>
        obtain ⟨k, hk, rfl, hI, hbw⟩ := hrel
        by_cases hkn : k < xs.length
        · obtain ⟨b, o, rfl, hb, hc⟩ := H.out.at_ (by omega)
          rw [HB.out] at hb
          have hck := (hbw.cell (p := ⟨b, o + k, none⟩) hb).trans (hc k hkn)
          have hstep := catL_take xs k hkn
          have hle := lens_take_le xs (k + 1)
          have hls := lens_take xs k hkn
          rw [HN.out] at hle
          obtain ⟨x, hx⟩ : ∃ x, xs[k] = x := ⟨_, rfl⟩
          obtain ⟨l0, hl0⟩ : ∃ l0, catL (xs.take k) = l0 := ⟨_, rfl⟩
          obtain ⟨l1, hl1⟩ : ∃ l1, catL (xs.take (k + 1)) = l1 := ⟨_, rfl⟩
          rw [hx] at hck hstep hls
          rw [hl0] at hI
          rw [hl0, hl1] at hstep
          have hlen : l0.length + x.size ≤ N := by
            unfold lens at hle hls
            rw [hl1] at hle hls
            rw [hl0] at hls
            omega
          have hsz : B ≤ wr.heap.size := by have := hbw.size; have := HB.out; omega
          have HS := Lib.hid hstep
          have HL := Lib.hid hl1
          clear hx hl0 hl1 hstep hc hle hls
          go_wp2_with (go_at_call 78; refine (hI.write x hlen hsz l1 HS.out).mono ?_; rintro e w2 ⟨rfl, h2, b2⟩)
          go_roundw
          case rel => exact ⟨k + 1, by omega, by go_num, by rw [HL.out]; exact h2, hbw.trans b2⟩
          case measure => simp [intOf]; omega
        · obtain rfl : k = xs.length := by omega
          rw [List.take_length] at hI
          have hsz : B ≤ wr.heap.size := by have := hbw.size; have := HB.out; omega
          go_wp2_with (go_at_call 79; refine (Tryd.Builder_String_any B B (catL xs) _ hI.1 hsz).mono ?_)
          rintro e w2 ⟨rfl, b2⟩
          go_wp2
          go_ret
          have hb := hbw.trans b2
          rw [← HB.out] at hb
          exact ⟨rfl, hb⟩
end Go.Proofs.YtmbiompmhaiehaaDoor
/- The walk of Join. -/
namespace Go.Proofs.YtmbiompmhaiehaaDoor
open Go.RowKit

theorem isEmpty_no {s : ByteArray} (h : s.size ≠ 0) : s.toList.isEmpty = false := by
  cases hc : s.toList.isEmpty with
  | false => rfl
  | true =>
    rw [List.isEmpty_iff, ByteArray.toList_eq] at hc
    exact absurd (by rw [← ls_size]; show s.data.toList.length = 0; rw [hc]; rfl) h
theorem size_zero {s : ByteArray} (h : s.size = 0) : s = ByteArray.empty := by
  apply ls_inj
  have : (ls s).length = 0 := by rw [ls_size, h]
  rw [List.eq_nil_of_length_eq_zero this]; rfl

theorem strs_new (w : World) (cs : Array Value) (xs : List ByteArray) (T : TypeId) (h : cs.toList = xs.map Value.string) : Strs (w.alloc (.cells cs T)) (w.alloc (.cells cs T)).heap.size (some ⟨w.heap.size, 0, none⟩) xs := by
  refine .inr ⟨w.heap.size, 0, rfl, by simp, fun j hj => ?_⟩
  rw [cell_of_row _ w.heap.size _ cs T (0, 0) (heap_alloc_new w _), Nat.zero_add, ← Array.getElem?_toList, h]
  simp [List.getElem?_eq_getElem hj]

theorem tog_one {w : World} (s : ByteArray) (hs : s.size ≤ 281474976710656) (T : TypeId) :
    Calls Tryd.prog 84 #[.slice (some ⟨w.heap.size, 0, none⟩) 1 1] (w.alloc (.cells #[.string s] T)) fun e w' => e = .returned (.string s) ∧ Below w.heap.size w w' := by
  have h := together_any (w := w.alloc (.cells #[.string s] T)) [s] 1 (strs_new w #[.string s] [s] T rfl) (by rw [lens_cons]; show _ + 0 ≤ _; omega) (by simp)
  rw [cat_one] at h
  refine Calls.mono h ?_
  rintro e w' ⟨rfl, hb⟩
  exact ⟨rfl, ((Below.refl _ w).alloc (Nat.le_refl _) _).trans (hb.mono (by simp))⟩

theorem tog_three {w : World} (a b c : ByteArray) (hs : a.size + b.size + c.size ≤ 281474976710656) (T : TypeId) :
    Calls Tryd.prog 84 #[.slice (some ⟨w.heap.size, 0, none⟩) 3 3] (w.alloc (.cells #[.string a, .string b, .string c] T)) fun e w' => e = .returned (.string (a ++ b ++ c)) ∧ Below w.heap.size w w' := by
  have h := together_any (w := w.alloc (.cells #[.string a, .string b, .string c] T)) [a, b, c] 3 (strs_new w #[.string a, .string b, .string c] [a, b, c] T rfl) (by rw [lens_three]; omega) (by simp)
  rw [cat_three] at h
  refine Calls.mono h ?_
  rintro e w' ⟨rfl, hb⟩
  exact ⟨rfl, ((Below.refl _ w).alloc (Nat.le_refl _) _).trans (hb.mono (by simp))⟩

set_option maxRecDepth 100000 in
set_option maxHeartbeats 1000000 in
theorem join_any {w : World} (a b c : ByteArray) (hs : a.size + b.size + c.size ≤ 281474976710656) :
    Calls Tryd.prog 72 #[.string a, .string b, .string c] w fun e w' => e = .returned (.string (a ++ b ++ c)) ∧ Below w.heap.size w w' := by
  go_enter Tryd.func72, Tryd.ntmps72
  go_wp2_with (go_at_call 84; refine (tog_three (w := w) a b c hs _).mono ?_; rintro e w' ⟨rfl, hb⟩)
  go_ret
  exact ⟨rfl, hb⟩
end Go.Proofs.YtmbiompmhaiehaaDoor
/- The walks of the library's Repeat, at one text, and of Rep. -/
namespace Go.Proofs.YtmbiompmhaiehaaDoor
open Go.RowKit

theorem infoS : (Tryd.prog.info? 9).map (fun i => (i.zero, i.size, i.bytes)) = some (some (.string ⟨#[]⟩), 1, 16) := by kernel_rfl
theorem sizeS : (Tryd.prog.info? 9).map (·.size) = some 1 := by kernel_rfl

/-- a row of n places, s in the first m -/
def Row (s : ByteArray) (m n : Nat) : Array Value := (List.replicate m (Value.string s) ++ List.replicate (n - m) (Value.string ⟨#[]⟩)).toArray
theorem row_none (s : ByteArray) (n : Nat) : madeCells #[.string ⟨#[]⟩] n = Row s 0 n := by
  apply Array.ext
  · simp [size_madeCells, Row]
  · intro i h1 h2
    simp [madeCells, Row, Nat.mod_one]
theorem row_size (s : ByteArray) {m n : Nat} (h : m ≤ n) : (Row s m n).size = n := by simp [Row]; omega
theorem row_at (s : ByteArray) {m n j : Nat} (h : j < m) : (Row s m n)[j]? = some (.string s) := by
  unfold Row
  rw [List.getElem?_toArray, List.getElem?_append_left (by simpa using h)]
  simp [h]
theorem row_more (s : ByteArray) {m n k : Nat} (h : m + k ≤ n) : ((Row s m n).toList.take m ++ List.replicate k (Value.string s) ++ (Row s m n).toList.drop (m + k)).toArray = Row s (m + k) n := by
  unfold Row
  congr 1
  rw [List.take_left' (by simp), ← List.replicate_append_replicate (n := m) (m := k), List.drop_append, List.drop_eq_nil_of_le (by simp)]
  simp only [List.length_replicate, List.nil_append, List.drop_replicate]
  congr 2
  omega

theorem run_more {W : World} {g m n : Nat} {T : TypeId} (s : ByteArray) (hg : W.heap[g]? = some (.cells (Row s m n) T (0, 0))) (a : Addr) (k sLen sCap dCap : Nat) (hk : k = Nat.min sLen (n - m)) (hm : m ≤ n)
    (ha : ∀ j, j < k → W.cell? (a.add j) = some (.string s)) (ty : TypeId) :
    (Builtin.copy_ #[129, 129] ty #[.slice (some ⟨g, m, none⟩) (n - m) dCap, .slice (some a) sLen sCap]).run Tryd.prog W = .ok (.int .i64 (k : Nat)) (W.setRow g (Row s (m + k) n)) := by
  have hle : m + k ≤ n := by
    have : Nat.min sLen (n - m) ≤ n - m := Nat.min_le_right _ _
    omega
  have h := run_copy_row (P := Tryd.prog) W 129 129 ty 9 g m (n - m) dCap a sLen sCap (Row s m n) T (List.replicate k (.string s)) Tryd.underlying129 sizeS hg
    (by rw [List.length_replicate]; exact hk) (fun j v hj => by
      rw [List.getElem?_replicate] at hj
      split at hj
      · rename_i hlt
        rw [ha j hlt]; exact hj
      · cases hj) (by rw [List.length_replicate, row_size s hm]; exact hle) (fun v hv => by
      rw [(List.mem_replicate.1 hv).2]; rfl)
  rw [List.length_replicate, row_more s hle] at h
  exact h

theorem mul_one' (n : Nat) (hn : n < 18446744073709551616) (w : World) :
    Calls Tryd.prog 93 #[.int .u64 1, .int .u64 n] w fun e w' => e = .returned (.tuple #[.int .u64 0, .int .u64 n]) ∧ w = w' := by
  refine (Tryd.bits_Mul 1 n (by omega) hn w).mono ?_
  rintro e w' ⟨rfl, rfl⟩
  rw [Nat.one_mul, Nat.div_eq_of_lt hn, Nat.mod_eq_of_lt hn]
  exact ⟨rfl, rfl⟩

/-- a new row of n texts s -/
def Reps (w : World) (s : ByteArray) (n : Nat) (e : Ending) (w' : World) : Prop :=
  e = .returned (.slice (some ⟨w.heap.size, 0, none⟩) n n) ∧ Strs w' w'.heap.size (some ⟨w.heap.size, 0, none⟩) (List.replicate n s) ∧ Below w.heap.size w w'

theorem reps_of {w w' : World} {s : ByteArray} {n : Nat} {T : TypeId} (h : w'.heap[w.heap.size]? = some (.cells (Row s n n) T (0, 0))) (hb : Below w.heap.size w w') : Reps w s n (.returned (.slice (some ⟨w.heap.size, 0, none⟩) n n)) w' := by
  refine ⟨rfl, .inr ⟨_, 0, rfl, (Array.getElem?_eq_some_iff.1 h).1, fun j hj => ?_⟩, hb⟩
  rw [cell_of_row _ w.heap.size _ _ T (0, 0) h, Nat.zero_add, row_at s (by simpa using hj)]
  simp

set_option maxRecDepth 100000 in
set_option maxHeartbeats 2000000 in
theorem repeat_any {w : World} (s : ByteArray) (n : Nat) (hn : n ≤ 4096) (b o c : Nat) (hb : b < w.heap.size) (hc : w.cell? ⟨b, o, none⟩ = some (.string s)) :
    Calls Tryd.prog 88 #[.slice (some ⟨b, o, none⟩) 1 c, .int .i64 n] w (Reps w s n) := by
  have hmk := run_make_row' (P := Tryd.prog) 129 9 (.string ⟨#[]⟩) 16 Tryd.underlying129 infoS rfl .i64 .i64 n (by omega) (by omega)
  rw [row_none s n] at hmk
  have hcA : (w.alloc (.cells (Row s 0 n) 9)).cell? ⟨b, o, none⟩ = some (.string s) := (((Below.refl _ w).alloc (Nat.le_refl _) _).cell (p := ⟨b, o, none⟩) hb).trans hc
  have cm := mul_one' n (by omega)
  obtain ⟨k0, hk0⟩ : ∃ k0, k0 = Nat.min 1 (n - 0) := ⟨_, rfl⟩
  have hcp := run_more (g := w.heap.size) (m := 0) (n := n) s (heap_alloc_new w _) ⟨b, o, none⟩ k0 1 c n hk0 (Nat.zero_le _) (fun j hj => by
    have : Nat.min 1 (n - 0) ≤ 1 := Nat.min_le_left _ _
    obtain rfl : j = 0 := by omega
    rw [Addr.add_lit]; exact hcA) 3
  rw [Nat.sub_zero, Nat.zero_add] at hcp
  have hk01 : k0 ≤ n := by rw [hk0]; exact Nat.le_trans (Nat.min_le_right _ _) (by omega)
  have hk02 : 0 < n → 0 < k0 := fun h => by rw [hk0]; exact Nat.lt_min.2 ⟨by omega, by omega⟩
  have hrow : ((w.alloc (.cells (Row s 0 n) 9)).setRow w.heap.size (Row s k0 n)).heap[w.heap.size]? = some (.cells (Row s k0 n) 9 (0, 0)) := setRow_heap _ _ _ _ _ _ (heap_alloc_new w _)
  have hbel : Below w.heap.size w ((w.alloc (.cells (Row s 0 n) 9)).setRow w.heap.size (Row s k0 n)) := below_setRow ((Below.refl _ w).alloc (Nat.le_refl _) _) (Nat.le_refl _) _
  obtain ⟨w1, hw1⟩ : ∃ w1, (w.alloc (.cells (Row s 0 n) 9)).setRow w.heap.size (Row s k0 n) = w1 := ⟨_, rfl⟩
  rw [hw1] at hcp hrow hbel
  clear hw1 hcA hk0
  have HK := Lib.hid hk02
  clear hk02
  go_enter Tryd.func88, Tryd.ntmps88
  go_wp2_with (go_at_call 93; refine (cm _).mono ?_; rintro e w' ⟨rfl, rfl⟩)
  go_loopw [8] (fun v wr => ∃ m : Nat, v = .int .i64 m ∧ m ≤ n ∧ (0 < n → 0 < m) ∧ wr.heap[w.heap.size]? = some (.cells (Row s m n) 9 (0, 0)) ∧ Below w.heap.size w wr) (fun v _ => n - (intOf v).toNat)
  case atStart => exact ⟨k0, rfl, hk01, HK.out, hrow, hbel⟩
  case round =>
    obtain ⟨m, rfl, hm, hm0, hg, hbw⟩ := hrel
    by_cases hmn : m < n
    · have hpos : 0 < m := hm0 (by omega)
      obtain ⟨k, hk⟩ : ∃ k, k = Nat.min m (n - m) := ⟨_, rfl⟩
      have hkp : 0 < k := by rw [hk]; exact Nat.lt_min.2 ⟨hpos, by omega⟩
      have hkn : m + k ≤ n := by have : Nat.min m (n - m) ≤ n - m := Nat.min_le_right _ _; omega
      have hcpw : ∀ W : World, W.heap = wr.heap → _ := fun W hW => run_more (W := W) (g := w.heap.size) (m := m) (n := n) s (by rw [hW]; exact hg) ⟨w.heap.size, 0, none⟩ k m n (n - m) hk hm (fun j hj => by
        have : Nat.min m (n - m) ≤ m := Nat.min_le_left _ _
        rw [Addr.add_lit, cell_of_row W w.heap.size (0 + j) _ _ (0, 0) (by rw [hW]; exact hg), Nat.zero_add]
        exact row_at s (by omega)) 3
      have hcp1 := hcpw wr.drew rfl
      have hg2 : (wr.setRow w.heap.size (Row s (m + k) n)).heap[w.heap.size]? = some (.cells (Row s (m + k) n) 9 (0, 0)) := setRow_heap _ _ _ _ _ _ hg
      have hb2 : Below w.heap.size w (wr.drew.setRow w.heap.size (Row s (m + k) n)) := below_setRow (Below.thenN hbw 1) (Nat.le_refl _) _
      have hne : ¬ n = m := by omega
      obtain ⟨M, hM⟩ : ∃ M, m + k = M := ⟨_, rfl⟩
      have hwr : IntKind.i64.wrap ((m : Int) + (k : Int)) = (M : Int) := by rw [IntKind.wrap_i64]; omega
      have hMp : 0 < M := by omega
      have hMm : m < M := by omega
      rw [hM] at hcp1 hg2 hb2 hkn
      clear hcpw hk hm0 hcp hM
      go_wp2
      go_region_with fail
      go_roundw
      case rel => exact ⟨_, _, _, _, _, _, _, _, _, _, _, _, _, _, ⟨M, rfl, hkn, fun _ => hMp, hg2, hb2⟩, rfl⟩
      case measure =>
        show n - (M : Int).toNat < n - (m : Int).toNat
        omega
    · obtain rfl : m = n := by omega
      go_wp2
      go_ret
      exact reps_of hg hbw

theorem catL_rep (s : ByteArray) (n : Nat) : lens (List.replicate n s) = n * s.size := rpL_len s n

set_option maxRecDepth 100000 in
set_option maxHeartbeats 2000000 in
theorem rep_any {w : World} (s : ByteArray) (n : Nat) (hn : n ≤ 18446744073709551615) (hs : s.size ≤ 9223372036854775807) :
    Calls Tryd.prog 80 #[.string s, .int .u64 n] w fun e w' => e = .returned (.tuple #[.string (repT s n), .int .i64 (repE s n)]) ∧ Below w.heap.size w w' := by
  unfold repT repE
  by_cases h0 : s.size = 0
  · rw [rp_empty h0, h0, Nat.mul_zero, if_pos (Nat.zero_le _), if_pos (Nat.zero_le _)]
    obtain rfl := size_zero h0
    clear h0 hs
    go_enter Tryd.func80, Tryd.ntmps80
    go_wp2
    go_ret2
    exact ⟨rfl, Below.refl _ _⟩
  · have he := isEmpty_no h0
    by_cases hle : n * s.size ≤ 4096
    · rw [if_pos hle, if_pos hle]
      have hn2 : n ≤ 4096 := by
        have : n * 1 ≤ n * s.size := Nat.mul_le_mul_left _ (by omega)
        omega
      have hq : ¬ ((4096 : Int) / (s.size : Int) < (n : Int)) := by
        have h1 : n ≤ 4096 / s.size := (Nat.le_div_iff_mul_le (by omega)).2 hle
        have h2 : (4096 : Int) / (s.size : Int) = ((4096 / s.size : Nat) : Int) := rfl
        rw [h2]
        omega
      have hz : (s.size : Int) ≠ 0 := by omega
      have ct : ∀ {W : World}, Strs W W.heap.size (some ⟨w.heap.size + 1, 0, none⟩) (List.replicate n s) → Calls Tryd.prog 84 #[.slice (some ⟨w.heap.size + 1, 0, none⟩) n n] W fun e w' => e = .returned (.string (rp s n)) ∧ Below W.heap.size W w' := fun {W} h => by
        have := together_any (w := W) (List.replicate n s) n h (by rw [catL_rep]; omega) (by rw [List.length_replicate]; omega)
        rw [List.length_replicate] at this
        exact this
      have cr := fun T => repeat_any (w := w.alloc (.cells #[.string s] T)) s n hn2 w.heap.size 0 1 (by simp) (by rw [cell_of_row _ w.heap.size 0 #[.string s] T (0, 0) (heap_alloc_new w _)]; rfl)
      have HLE := Lib.hid hle
      clear hle
      go_enter Tryd.func80, Tryd.ntmps80
      go_wp2_with (first
        | (go_at_call 88; refine (cr _).mono ?_; rintro e w1 ⟨rfl, h1, b1⟩; have hb1 := ((Below.refl _ w).alloc (Nat.le_refl _) _).trans (b1.mono (by simp)))
        | (go_at_call 84; refine (ct (by simpa using h1)).mono ?_; rintro e w2 ⟨rfl, b2⟩))
      go_ret2
      exact ⟨rfl, Below.both hb1 b2⟩
    · rw [if_neg hle, if_neg hle]
      have hq : (4096 : Int) / (s.size : Int) < (n : Int) := by
        have h1 : 4096 / s.size < n := (Nat.div_lt_iff_lt_mul (by omega)).2 (by omega)
        have h2 : (4096 : Int) / (s.size : Int) = ((4096 / s.size : Nat) : Int) := rfl
        rw [h2]
        omega
      have hz : (s.size : Int) ≠ 0 := by omega
      clear hle
      go_enter Tryd.func80, Tryd.ntmps80
      go_wp2
      go_ret2
      exact ⟨rfl, Below.refl _ _⟩
end Go.Proofs.YtmbiompmhaiehaaDoor
/- The walks of a digit of base 16, the code's and the reference's; one byte appended. -/
namespace Go.Proofs.YtmbiompmhaiehaaDoor
open Go.RowKit
open Go.Lib (byteCells)

theorem infoB : (Tryd.prog.info? 5).map (fun i => (i.zero, i.size, i.bytes)) = some (some (.int .u8 0), 1, 1) := by kernel_rfl

theorem dv_num {c : Nat} (h : 48 ≤ c ∧ c ≤ 57) : dv c = c - 48 := if_pos h
theorem dv_low {c : Nat} (h : 97 ≤ c ∧ c ≤ 102) : dv c = c - 87 := by unfold dv; rw [if_neg (by omega), if_pos h]
theorem dv_upp {c : Nat} (h : 65 ≤ c ∧ c ≤ 70) : dv c = c - 55 := by unfold dv; rw [if_neg (by omega), if_neg (by omega), if_pos h]
theorem dv_no {c : Nat} (h1 : ¬ (48 ≤ c ∧ c ≤ 57)) (h2 : ¬ (97 ≤ c ∧ c ≤ 102)) (h3 : ¬ (65 ≤ c ∧ c ≤ 70)) : dv c = 16 := by unfold dv; rw [if_neg h1, if_neg h2, if_neg h3]

/-- what the code's digit answers -/
def dgN (c : Nat) : Nat := if dv c = 16 then 0 else dv c
def dgB (c : Nat) : Bool := decide (dv c ≠ 16)

theorem ret_two {a b : Int} {p q : Bool} (h : a = b) (g : p = q) : Ending.returned (.tuple #[.int .u8 a, .bool p]) = .returned (.tuple #[.int .u8 b, .bool q]) := by rw [h, g]

set_option maxRecDepth 100000 in
set_option maxHeartbeats 1000000 in
theorem digit_any (w : World) (c : Nat) (hc : c ≤ 255) :
    Calls Tryd.prog 89 #[.int .u8 c] w fun e w' => e = .returned (.tuple #[.int .u8 (dgN c : Nat), .bool (dgB c)]) ∧ w = w' := by
  unfold dgN dgB
  by_cases h1 : 48 ≤ c ∧ c ≤ 57
  · rw [dv_num h1, if_neg (by omega), decide_eq_true (by omega)]
    obtain ⟨a, b⟩ := h1
    go_enter Tryd.func89, Tryd.ntmps89
    go_wp2
    go_ret2
    exact ⟨ret_two (by omega) rfl, rfl⟩
  · by_cases h2 : 97 ≤ c ∧ c ≤ 102
    · rw [dv_low h2, if_neg (by omega), decide_eq_true (by omega)]
      obtain ⟨a, b⟩ := h2
      have n1 : ¬ (c : Int) ≤ 57 := by omega
      clear h1
      go_enter Tryd.func89, Tryd.ntmps89
      go_wp2
      go_ret2
      exact ⟨ret_two (by omega) rfl, rfl⟩
    · by_cases h3 : 65 ≤ c ∧ c ≤ 70
      · rw [dv_upp h3, if_neg (by omega), decide_eq_true (by omega)]
        obtain ⟨a, b⟩ := h3
        have n1 : ¬ (c : Int) ≤ 57 := by omega
        have n2 : ¬ (97 : Int) ≤ c := by omega
        clear h1 h2
        go_enter Tryd.func89, Tryd.ntmps89
        go_wp2
        go_ret2
        exact ⟨ret_two (by omega) rfl, rfl⟩
      · rw [dv_no h1 h2 h3, if_pos rfl, decide_eq_false (by omega)]
        go_enter Tryd.func89, Tryd.ntmps89
        go_wp2
        all_goals first
          | (go_ret2; exact ⟨rfl, rfl⟩)
          | (exfalso; omega)

set_option maxRecDepth 100000 in
set_option maxHeartbeats 1000000 in
theorem rdigit_any (w : World) (c : Nat) (hc : c ≤ 255) :
    Calls Tryd.prog 82 #[.int .u8 c] w fun e w' => e = .returned (.int .u8 (dv c : Nat)) ∧ w = w' := by
  by_cases h1 : 48 ≤ c ∧ c ≤ 57
  · rw [dv_num h1]
    obtain ⟨a, b⟩ := h1
    go_enter Tryd.func82, Tryd.ntmps82
    go_wp2
    go_ret
    exact ⟨ret_int (by omega), rfl⟩
  · by_cases h2 : 97 ≤ c ∧ c ≤ 102
    · rw [dv_low h2]
      obtain ⟨a, b⟩ := h2
      have n1 : ¬ (c : Int) ≤ 57 := by omega
      clear h1
      go_enter Tryd.func82, Tryd.ntmps82
      go_wp2
      go_ret
      exact ⟨ret_int (by omega), rfl⟩
    · by_cases h3 : 65 ≤ c ∧ c ≤ 70
      · rw [dv_upp h3]
        obtain ⟨a, b⟩ := h3
        have n1 : ¬ (c : Int) ≤ 57 := by omega
        have n2 : ¬ (97 : Int) ≤ c := by omega
        clear h1 h2
        go_enter Tryd.func82, Tryd.ntmps82
        go_wp2
        go_ret
        exact ⟨ret_int (by omega), rfl⟩
      · rw [dv_no h1 h2 h3]
        go_enter Tryd.func82, Tryd.ntmps82
        go_wp2
        all_goals first
          | (go_ret; exact ⟨rfl, rfl⟩)
          | (exfalso; omega)

theorem byt_new (w : World) (cs : Array Value) (l : List UInt8) (T : TypeId) (h : cs.toList = byteCells l) : Byt (w.alloc (.cells cs T)) (w.alloc (.cells cs T)).heap.size (some ⟨w.heap.size, 0, none⟩) l := by
  refine .inr ⟨w.heap.size, 0, rfl, by simp, fun j hj => ?_⟩
  rw [cell_of_row _ w.heap.size _ cs T (0, 0) (heap_alloc_new w _), Nat.zero_add, ← Array.getElem?_toList, h]
  exact byteCells_get l j hj

theorem own_then {w w' : World} {base : Nat} {e : TypeId} {s : Nat} {v : Value} {n : Nat} {xs : List Value} (h : w.ownsRow base e s v n xs) (hb : Below w.heap.size w w') : w'.ownsRow base e s v n xs := by
  refine ⟨h.1, ?_⟩
  rcases h.2 with h0 | ⟨g, cap, cur, hv, hg, hc, rest⟩
  · exact .inl h0
  · exact .inr ⟨g, cap, cur, hv, hg, (hb.block g (Array.getElem?_eq_some_iff.1 hc).1).trans hc, rest⟩
theorem OwnB.then_ {w w' : World} {base : Nat} {e : TypeId} {A : Option Addr} {c : Nat} {l : List UInt8} (h : OwnB w base e A c l) (hb : Below w.heap.size w w') : OwnB w' base e A c l := own_then h hb
theorem OwnB.new {w : World} {base : Nat} {e : TypeId} {A : Option Addr} {c : Nat} {l : List UInt8} (h : OwnB w base e A c l) (o : Obj) : OwnB (w.alloc o) base e A c l := h.then_ ((Below.refl _ _).alloc (Nat.le_refl _) _)

/-- bytes of a block just made, appended -/
theorem run_app_new {w : World} {base : Nat} {A : Option Addr} {c : Nat} {pre : List UInt8} (ho : OwnB w base 5 A c pre) (cs : Array Value) (l : List UInt8) (n : Nat) (hn : n = l.length) (h : cs.toList = byteCells l) (T : TypeId)
    (r : List UInt8) (hr : r = pre ++ l) (hm : r.length ≤ 140737488355328) (hbase : base ≤ w.heap.size) :
    ∃ A' c' w', (Builtin.append_ #[96, 96] 96 #[.slice A pre.length c, .slice (some ⟨w.heap.size, 0, none⟩) n n]).run Tryd.prog (w.alloc (.cells cs T)) = .ok (.slice A' r.length c') w' ∧ OwnB w' base 5 A' c' r ∧ Below base w w' := by
  obtain ⟨i0, hi, hz0, hz1, hz2⟩ := info_parts infoB
  subst hn
  obtain ⟨A', c', w', h1, h2, h3⟩ := run_append_byt (P := Tryd.prog) base 96 96 5 i0 _ Tryd.underlying96 hi hz0 hz1 hz2 rfl c l.length (ho.new _) (byt_new w cs l T h) r hr hm (by simp; omega)
  exact ⟨A', c', w', h1, h2, ((Below.refl base w).alloc hbase _).trans h3⟩
end Go.Proofs.YtmbiompmhaiehaaDoor
/- The walks of Hex, the code's. -/
namespace Go.Proofs.YtmbiompmhaiehaaDoor
open Go.RowKit
open Go.Lib (byteCells)

set_option maxRecDepth 100000 in
theorem run_mk0 (n : Nat) (hn : n ≤ 140737488355328) (W : World) : (Instr.makeSlice 96 (.int .i64 0) (.int .i64 (n : Int))).run Tryd.prog W =
    .ok (.slice (some ⟨W.heap.size, 0, none⟩) 0 n) (W.alloc (.cells (Array.replicate n (.int .u8 0)) 5)) := by
  obtain ⟨i0, hi, hz0, hz1, hz2⟩ := info_parts infoB
  have h := run_make (P := Tryd.prog) W 96 5 i0 _ Tryd.underlying96 hi hz0 .i64 .i64 (0 : Int) (n : Int) (by omega) (by omega) (by rw [hz2]; omega) (by omega)
  rw [hz1] at h
  simp only [Int.toNat_natCast, Nat.mul_one] at h
  rw [show ((0 : Int).toNat) = 0 from rfl] at h
  rw [h]
  congr 3
  apply Array.toList_inj.1
  rw [Array.toList_replicate]
  exact toList_madeCells_one _ _
theorem own_mk0 (W : World) (n : Nat) (hn : n ≤ 140737488355328) (base : Nat) (hb : base ≤ W.heap.size) : OwnB (W.alloc (.cells (Array.replicate n (.int .u8 0)) 5)) base 5 (some ⟨W.heap.size, 0, none⟩) n [] := by
  refine ⟨rfl, .inr ⟨W.heap.size, n, _, rfl, hb, heap_alloc_new W _, by simp, by simp only [maxLen]; omega, by simp, by simp [byteCells]⟩⟩

/-- the digits read so far, and those that are left -/
def Dec (s : ByteArray) (k : Nat) (pre : List UInt8) : Prop := hexL (ls s) = (hexL ((ls s).drop k)).map fun t => pre ++ t
theorem dec_start (s : ByteArray) : Dec s 0 [] := by unfold Dec; rw [List.drop_zero]; cases hexL (ls s) <;> rfl
theorem dec_end {s : ByteArray} {k : Nat} {pre : List UInt8} (h : Dec s k pre) (hk : s.size ≤ k) : hexL (ls s) = some pre := by
  unfold Dec at h
  rw [h, List.drop_eq_nil_of_le (by rw [ls_size]; exact hk)]
  simp [hexL]
theorem dec_bad {s : ByteArray} {k : Nat} {pre : List UInt8} (h : Dec s k pre) (hk : k + 1 < s.size) {a b : UInt8} (ha : s[k]'(by omega) = a) (hb : s[k + 1] = b) (hd : dv a.toNat = 16 ∨ dv b.toNat = 16) : hexL (ls s) = none := by
  unfold Dec at h
  have ha' : (ls s)[k]'(by rw [ls_size]; omega) = a := ha
  have hb' : (ls s)[k + 1]'(by rw [ls_size]; omega) = b := hb
  rw [h, hexL_drop (ls s) k (by rw [ls_size]; exact hk), ha', hb', if_pos hd]
  rfl
theorem dec_more {s : ByteArray} {k : Nat} {pre : List UInt8} (h : Dec s k pre) (hk : k + 1 < s.size) {a b : UInt8} (ha : s[k]'(by omega) = a) (hb : s[k + 1] = b) (hd : ¬ (dv a.toNat = 16 ∨ dv b.toNat = 16)) : Dec s (k + 2) (pre ++ [UInt8.ofNat (16 * dv a.toNat + dv b.toNat)]) := by
  unfold Dec at h ⊢
  have ha' : (ls s)[k]'(by rw [ls_size]; omega) = a := ha
  have hb' : (ls s)[k + 1]'(by rw [ls_size]; omega) = b := hb
  rw [h, hexL_drop (ls s) k (by rw [ls_size]; exact hk), ha', hb', if_neg hd, Option.map_map]
  congr 1
  funext t
  simp

theorem own_byt {w : World} {base : Nat} {e : TypeId} {A : Option Addr} {c : Nat} {l : List UInt8} (h : OwnB w base e A c l) (n : Nat) :
    (convert 96 9 (.slice A l.length n)).run Tryd.prog w = .ok (.string (str l)) w :=
  run_str h.reads 96 5 9 Tryd.underlying96 Tryd.underlying5 Tryd.underlying9 n

/-- two digits as a byte, as the code puts them together -/
theorem two_digits (a b : Nat) (ha : a < 16) (hb : b < 16) : bits .or .u8 ((a : Int) * 16) (b : Int) = ((16 * a + b : Nat) : Int) := by
  have : ∀ a : Fin 16, ∀ b : Fin 16, bits .or .u8 (((a : Nat) : Int) * 16) ((b : Nat) : Int) = ((16 * (a : Nat) + (b : Nat) : Nat) : Int) := by decide
  exact this ⟨a, ha⟩ ⟨b, hb⟩

set_option maxRecDepth 100000 in
set_option maxHeartbeats 2000000 in
theorem hex_any {w : World} (s : ByteArray) (hs : s.size ≤ 140737488355328) :
    Calls Tryd.prog 81 #[.string s] w fun e w' => e = .returned (.tuple #[.string (hexT s), .int .i64 (hexE s)]) ∧ Below w.heap.size w w' := by
  obtain ⟨T, hT⟩ : ∃ T, hexT s = T := ⟨_, rfl⟩
  obtain ⟨E, hE⟩ : ∃ E, hexE s = E := ⟨_, rfl⟩
  rw [hT, hE]
  have HT := Lib.hid hT
  have HE := Lib.hid hE
  have bad : hexL (ls s) = none → Hid (T = ByteArray.empty ∧ E = 111) := fun h => by
    obtain ⟨a, b⟩ := hex_none h
    exact ⟨HT.out.symm.trans a, HE.out.symm.trans b⟩
  have good : ∀ t, hexL (ls s) = some t → Hid (T = str t ∧ E = 0) := fun t h => by
    obtain ⟨a, b⟩ := hex_some h
    exact ⟨HT.out.symm.trans a, HE.out.symm.trans b⟩
  have BAD := Lib.hid bad
  have GOOD := Lib.hid good
  clear hT hE bad good HT HE
  by_cases hodd : s.size % 2 = 0
  · have q0 : (s.size : Int) % 2 = 0 := by omega
    have hmk := run_mk0 (s.size / 2) (by omega)
    rw [show ((s.size / 2 : Nat) : Int) = (s.size : Int) / 2 from rfl] at hmk
    have hown := own_mk0 w (s.size / 2) (by omega) w.heap.size (Nat.le_refl _)
    go_enter Tryd.func81, Tryd.ntmps81
    go_wp2
    clear q0
    go_loopw [4, 5] (fun o v wr => ∃ (k : Nat) (A : Option Addr) (c : Nat) (pre : List UInt8), o = .slice A pre.length c ∧ v = .int .i64 k ∧ k ≤ s.size ∧ k % 2 = 0 ∧ pre.length ≤ k ∧ Hid (OwnB wr w.heap.size 5 A c pre) ∧ Hid (Dec s k pre) ∧ Below w.heap.size w wr) (fun _ v _ => s.size - (intOf v).toNat)
    case atStart => exact ⟨0, _, _, [], rfl, rfl, Nat.zero_le _, rfl, Nat.le_refl _, hown, dec_start s, (Below.refl _ w).alloc (Nat.le_refl _) _⟩
    case round =>
      obtain ⟨k, A, c, pre, rfl, rfl, hk, hk2, hpk, HO, HD, hbw⟩ := hrel
      by_cases hlt : k < s.size
      · have hlt1 : k + 1 < s.size := by omega
        have hltz : (k : Int) < (s.size : Int) := by omega
        have hltz1 : (k : Int) + 1 < (s.size : Int) := by omega
        obtain ⟨x, hx⟩ : ∃ x, s[k]'hlt = x := ⟨_, rfl⟩
        obtain ⟨y, hy⟩ : ∃ y, s[k + 1]'hlt1 = y := ⟨_, rfl⟩
        have cx := fun W => digit_any W x.toNat (by have := x.toNat_lt; omega)
        have cy := fun W => digit_any W y.toNat (by have := y.toNat_lt; omega)
        by_cases hd : dv x.toNat = 16 ∨ dv y.toNat = 16
        · have hb := BAD.out (dec_bad HD.out hlt1 hx hy hd)
          obtain ⟨rfl, rfl⟩ := hb.out
          have hbb : dgB x.toNat = false ∨ (dgB x.toNat = true ∧ dgB y.toNat = false) := by
            unfold dgB
            by_cases h : dv x.toNat = 16
            · exact .inl (decide_eq_false fun n => n h)
            · exact .inr ⟨decide_eq_true h, decide_eq_false fun n => n (hd.resolve_left h)⟩
          clear BAD GOOD hb hd
          rcases hbb with hq | ⟨hq, hr⟩
          · rw [hq] at cx
            clear hq
            go_wp2_with (first
              | (go_at_call 89; (with_reducible refine (cx _).mono ?_); rintro e w2 ⟨rfl, rfl⟩)
              | (go_at_call 89; (with_reducible refine (cy _).mono ?_); rintro e w2 ⟨rfl, rfl⟩))
            go_ret2
            exact ⟨rfl, hbw⟩
          · rw [hq] at cx
            rw [hr] at cy
            clear hq hr
            go_wp2_with (first
              | (go_at_call 89; (with_reducible refine (cx _).mono ?_); rintro e w2 ⟨rfl, rfl⟩)
              | (go_at_call 89; (with_reducible refine (cy _).mono ?_); rintro e w2 ⟨rfl, rfl⟩))
            go_ret2
            exact ⟨rfl, hbw⟩
        · have hdx : dv x.toNat ≠ 16 := fun h => hd (.inl h)
          have hdy : dv y.toNat ≠ 16 := fun h => hd (.inr h)
          have hx16 := dv_le x.toNat
          have hy16 := dv_le y.toNat
          have hD2 := dec_more HD.out hlt1 hx hy hd
          have e1 : dgB x.toNat = true := decide_eq_true hdx
          have e2 : dgB y.toNat = true := decide_eq_true hdy
          have e3 : dgN x.toNat = dv x.toNat := if_neg hdx
          have e4 : dgN y.toNat = dv y.toNat := if_neg hdy
          rw [e1, e3] at cx
          rw [e2, e4] at cy
          obtain ⟨p, hp⟩ : ∃ p, dv x.toNat = p := ⟨_, rfl⟩
          obtain ⟨q, hq⟩ : ∃ q, dv y.toNat = q := ⟨_, rfl⟩
          rw [hp] at cx hx16 hdx hD2
          rw [hq] at cy hy16 hdy hD2
          have hp15 : p < 16 := by omega
          have hq15 : q < 16 := by omega
          have hor := two_digits p q hp15 hq15
          obtain ⟨z, hz⟩ : ∃ z, 16 * p + q = z := ⟨_, rfl⟩
          have hz255 : z < 256 := by omega
          rw [hz] at hor hD2
          obtain ⟨r, hr⟩ : ∃ r, r = pre ++ [UInt8.ofNat z] := ⟨_, rfl⟩
          rw [← hr] at hD2
          have hrl : r.length = pre.length + 1 := by rw [hr]; simp
          obtain ⟨A', c', w4, ha, ho4, hb4⟩ := run_app_new HO.out #[.int .u8 (z : Int)] [UInt8.ofNat z] 1 rfl (by simp [byteCells, Nat.mod_eq_of_lt hz255]) 5 r hr (by omega) hbw.size
          have HRL := Lib.hid hrl
          have HA := Lib.hid ha
          have HO4 := Lib.hid ho4
          have HD4 := Lib.hid hD2
          clear BAD GOOD hd hdx hdy hx16 hy16 e1 e2 e3 e4 hp hq hz hr ha ho4 hD2 hrl
          go_wp2_with (first
            | (go_at_call 89; (with_reducible refine (cx _).mono ?_); rintro e w2 ⟨rfl, rfl⟩)
            | (go_at_call 89; (with_reducible refine (cy _).mono ?_); rintro e w2 ⟨rfl, rfl⟩)
            | (at_builtin; refine wpList_append_run rfl (.tmp 45) (.tmp 50) _ rfl rfl rfl HA.out ?_))
          go_roundw
          case rel => exact ⟨k + 2, A', c', r, rfl, by go_num, by omega, by omega, by have := HRL.out; omega, HO4, HD4, hbw.trans hb4⟩
          case measure => simp [intOf]; omega
      · have hg := GOOD.out pre (dec_end HD.out (by omega))
        obtain ⟨rfl, rfl⟩ := hg.out
        have hst := own_byt HO.out c
        clear BAD GOOD hg
        go_wp2
        go_ret2
        exact ⟨rfl, hbw⟩
  · have hb := BAD.out (hexL_odd (by rw [ls_size]; exact hodd))
    obtain ⟨rfl, rfl⟩ := hb.out
    have q0 : (s.size : Int) % 2 = 1 := by omega
    clear BAD GOOD hb
    go_enter Tryd.func81, Tryd.ntmps81
    go_wp2
    go_ret2
    exact ⟨rfl, Below.refl _ _⟩
end Go.Proofs.YtmbiompmhaiehaaDoor
