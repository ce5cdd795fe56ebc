/- The walks of the reference's value. -/
import Derived.Test.YthekbefbhjllnaaDoorTlvREnc
import Derived.Test.YthekbefbhjllnaaDoorTlvPieLaw
import Derived.Deep.RegionWith
namespace Go.Proofs.YthekbefbhjllnaaDoor
open Go.RowKit
open Go.Lib (byteCells uvarint)

/-- what value answers where there is none -/
def NoVal (w : World) (e : Ending) (w' : World) : Prop := (∃ (k n : Int) (s : ByteArray), e = .returned (.tuple #[.agg #[.int .i64 k, .int .u64 n, .string s], .bool false])) ∧ Below w.heap.size w w'
/-- what value answers -/
def IsVal (w : World) (v : Val) (e : Ending) (w' : World) : Prop := e = .returned (.tuple #[.agg #[.int .i64 v.k, .int .u64 v.n, .string v.s], .bool true]) ∧ Below w.heap.size w w'

theorem rval_case (w : World) (k n : Int) (s : ByteArray) (V : Bool) (e : Ending) (w' : World) (he : e = .returned (.tuple #[.agg #[.int .i64 k, .int .u64 n, .string s], .bool V])) (hb : Below w.heap.size w w') : (V = true → IsVal w ⟨k, n, s⟩ e w') ∧ (V = false → NoVal w e w') := by
  refine ⟨fun h => ⟨by rw [he, h], hb⟩, fun h => ⟨⟨k, n, s, by rw [he, h]⟩, hb⟩⟩

theorem rv_any {w : World} (h : KSt w w) (v : Val) (hf : Fit v) (hs : v.s.size ≤ 140737488355328) :
    Calls Tryd.prog 30 #[.agg (vvC v)] w fun e w' => e = .returned (.bool (okV v)) ∧ Below w.heap.size w w' :=
  (rkvalid_any h v hf hs).mono fun _ _ ⟨he, hb⟩ => ⟨he, hb.below⟩
/-- two boxes, one behind the other -/
def Two (w : World) (g : Nat) (z v : Val) : Prop := BoxV w g z ∧ BoxV w (g + 1) v ∧ ∀ o, w.frozen? ⟨g, o, none⟩ = false
theorem Two.new (w : World) (z v : Val) (T : TypeId) : Two ((w.alloc (.cells (vvC z) T)).alloc (.cells (vvC v) T)) w.heap.size z v := by
  have hs : (w.alloc (.cells (vvC z) T)).heap.size = w.heap.size + 1 := by simp
  refine ⟨(BoxV.new w z T).then_ ((Below.refl _ _).alloc (Nat.le_refl _) _), ?_, fun o => ?_⟩
  · rw [← hs]; exact BoxV.new _ v T
  · simp [go_sem]
theorem Two.below {w w' : World} {g : Nat} {z v : Val} (h : Two w g z v) (hb : Below w.heap.size w w') : Two w' g z v :=
  ⟨h.1.then_ hb, h.2.1.then_ hb, fun o => ((Below.cells hb).2 g o h.1.lt).trans (h.2.2 o)⟩
theorem Two.drew {w : World} {g : Nat} {z v : Val} (h : Two w g z v) : Two w.drew g z v := h.below (Below.thenN (Below.refl _ _) 1)

set_option maxRecDepth 100000 in
set_option maxHeartbeats 4000000 in
theorem rval_text {w0 w : World} (h : KSt w0 w) {A : Option Addr} {p : List UInt8} (c : Nat) (hA : Byt w w.heap.size A p) (hm : p.length ≤ 140737488355328) (k : Int) (hk : isNum k = false) (V : Bool) (hV : okV ⟨k, 0, str p⟩ = V) :
    Calls Tryd.prog 39 #[.int .i64 k, .slice A p.length c] w fun e w' => e = .returned (.tuple #[.agg #[.int .i64 k, .int .u64 0, .string (str p)], .bool V]) ∧ Below w.heap.size w w' := by
  have hB1 : Below w.heap.size w (w.alloc (.cells #[.int .i64 0, .int .u64 0, .string ⟨#[]⟩] 39)) := (Below.refl _ _).alloc (Nat.le_refl _) _
  have hB2 : Below w.heap.size w ((w.alloc (.cells #[.int .i64 0, .int .u64 0, .string ⟨#[]⟩] 39)).alloc (.cells #[.int .i64 k, .int .u64 0, .string ⟨#[]⟩] 39)) := hB1.alloc (by simp) _
  simp only [isNum, Bool.or_eq_false_iff] at hk
  obtain ⟨⟨q1, q2⟩, q3⟩ := hk
  have y1 := run_str (P := Tryd.prog) (hA.below hB2) 28 5 9 Tryd.underlying28 Tryd.underlying5 Tryd.underlying9 c
  have HV := Lib.hid hV
  clear hB2 hV
  go_enter Tryd.func39, Tryd.ntmps39
  go_wp2
  have hV := HV.out
  have v0 := fun {W : World} (q : KSt W W) => rv_any q ⟨k, 0, (str p)⟩ (by unfold Fit; dsimp only; omega) (by show (str p).size ≤ _; rw [str_size]; exact hm)
  simp only [hV] at v0
  have hB3 : Below w.heap.size w ((w.alloc (.cells #[.int .i64 0, .int .u64 0, .string ⟨#[]⟩] 39)).alloc (.cells #[.int .i64 k, .int .u64 0, .string (str p)] 39)) := hB1.alloc (by simp) _
  have h3 := (h.then_ hB3).self
  have HT : Hid (Two ((w.alloc (.cells #[.int .i64 0, .int .u64 0, .string ⟨#[]⟩] 39)).alloc (.cells #[.int .i64 k, .int .u64 0, .string (str p)] 39)) w.heap.size zeroV ⟨k, 0, (str p)⟩) := Two.new w zeroV ⟨k, 0, (str p)⟩ 39
  unfold vvC at v0
  dsimp only at v0
  have HB3 := Lib.hid hB3
  clear hV hB1 hB3 y1
  generalize (w.alloc (.cells #[.int .i64 0, .int .u64 0, .string ⟨#[]⟩] 39)).alloc (.cells #[.int .i64 k, .int .u64 0, .string (str p)] 39) = W3 at *
  obtain ⟨⟨z0, z1, z2⟩, ⟨b0, b1, b2⟩, f0⟩ := HT.out
  dsimp only at b0 b1 b2
  go_region_with (go_at_call 30; refine (v0 h3.drew.self).mono ?_; rintro e w' ⟨rfl, hb⟩; obtain ⟨⟨z0, z1, z2⟩, ⟨b0, b1, b2⟩, f0⟩ := HT.out.drew.below hb; dsimp only at b0 b1 b2)
  all_goals
    go_wp2
    have hBw : Below w.heap.size w w' := (Below.thenN HB3.out 1).trans (hb.mono HB3.out.size)
    exact bodyPost_ret (v := .tuple #[.agg #[.int .i64 k, .int .u64 0, .string (str p)], .bool V]) (by simp [results, Tryd.results39, go_sem, z0, z1, z2]) rfl ⟨rfl, ((hBw.setCell (Nat.le_refl _) _).setCell (Nat.le_refl _) _).setCell (Nat.le_refl _) _⟩

/-- a value that is a number is valid where it has no text -/
theorem ok_one (n : Int) : okV ⟨1, n, ⟨#[]⟩⟩ = true := rfl
theorem ok_two (n : Int) : okV ⟨2, n, ⟨#[]⟩⟩ = true := rfl
theorem ok_three (n : Int) : okV ⟨3, n, ⟨#[]⟩⟩ = decide (n ≤ 1) := by
  show (decide (n ≤ 1) && decide ((⟨#[]⟩ : ByteArray).size = 0)) = _
  rw [decide_eq_true (show (⟨#[]⟩ : ByteArray).size = 0 from rfl), Bool.and_true]

set_option maxRecDepth 100000 in
set_option maxHeartbeats 4000000 in
theorem rval_one {w0 w : World} (h : KSt w0 w) {A : Option Addr} {p : List UInt8} (c : Nat) (hA : Byt w w.heap.size A p) (hm : p.length ≤ 140737488355328) (hE : tkE p = 0) (hN : tkN p = p.length) :
    Calls Tryd.prog 39 #[.int .i64 1, .slice A p.length c] w fun e w' => e = .returned (.tuple #[.agg #[.int .i64 1, .int .u64 (tkX p : Nat), .string ⟨#[]⟩], .bool true]) ∧ Below w.heap.size w w' := by
  have hB1 : Below w.heap.size w (w.alloc (.cells #[.int .i64 0, .int .u64 0, .string ⟨#[]⟩] 39)) := (Below.refl _ _).alloc (Nat.le_refl _) _
  have hB2 : Below w.heap.size w ((w.alloc (.cells #[.int .i64 0, .int .u64 0, .string ⟨#[]⟩] 39)).alloc (.cells #[.int .i64 1, .int .u64 0, .string ⟨#[]⟩] 39)) := hB1.alloc (by simp) _
  have ct := rtake_any c (hA.below hB2) hm
  have z0 : ((0 : Nat) : Int) = 0 := rfl
  rw [hE, z0] at ct
  have hx := (tk_ok hE).2.2.2.2
  obtain ⟨X, hX⟩ : ∃ x, tkX p = x := ⟨_, rfl⟩
  rw [hX] at hx ct ⊢
  rw [hN] at ct
  have hNb : ((p.length : Int) != (p.length : Int)) = false := by simp
  have hV : okV ⟨1, (X : Int), ⟨#[]⟩⟩ = true := rfl
  have HV := Lib.hid hV
  clear hB2 hV hX hE hN z0
  go_enter Tryd.func39, Tryd.ntmps39
  go_wp2_with (first
    | (go_at_call 38; refine ct.mono ?_; rintro e w1 ⟨rfl, rfl⟩))
  have hV := HV.out
  have v0 := fun {W : World} (q : KSt W W) => rv_any q ⟨1, (X : Int), ⟨#[]⟩⟩ (by unfold Fit; dsimp only; omega) (Nat.zero_le _)
  simp only [hV] at v0
  have hB3 : Below w.heap.size w ((w.alloc (.cells #[.int .i64 0, .int .u64 0, .string ⟨#[]⟩] 39)).alloc (.cells #[.int .i64 1, .int .u64 (X : Int), .string ⟨#[]⟩] 39)) := hB1.alloc (by simp) _
  have h3 := (h.then_ hB3).self
  have HT : Hid (Two ((w.alloc (.cells #[.int .i64 0, .int .u64 0, .string ⟨#[]⟩] 39)).alloc (.cells #[.int .i64 1, .int .u64 (X : Int), .string ⟨#[]⟩] 39)) w.heap.size zeroV ⟨1, (X : Int), ⟨#[]⟩⟩) := Two.new w zeroV ⟨1, (X : Int), ⟨#[]⟩⟩ 39
  unfold vvC at v0
  dsimp only at v0
  have HB3 := Lib.hid hB3
  clear hV hB1 hB3 ct
  generalize (w.alloc (.cells #[.int .i64 0, .int .u64 0, .string ⟨#[]⟩] 39)).alloc (.cells #[.int .i64 1, .int .u64 (X : Int), .string ⟨#[]⟩] 39) = W3 at *
  obtain ⟨⟨z0, z1, z2⟩, ⟨b0, b1, b2⟩, f0⟩ := HT.out
  dsimp only at b0 b1 b2
  go_region_with (go_at_call 30; refine (v0 h3.drew.self).mono ?_; rintro e w' ⟨rfl, hb⟩; obtain ⟨⟨z0, z1, z2⟩, ⟨b0, b1, b2⟩, f0⟩ := HT.out.drew.below hb; dsimp only at b0 b1 b2)
  all_goals
    go_wp2
    have hBw : Below w.heap.size w w' := (Below.thenN HB3.out 1).trans (hb.mono HB3.out.size)
    exact bodyPost_ret (v := .tuple #[.agg #[.int .i64 1, .int .u64 (X : Int), .string ⟨#[]⟩], .bool true]) (by simp [results, Tryd.results39, go_sem, z0, z1, z2]) rfl ⟨rfl, ((hBw.setCell (Nat.le_refl _) _).setCell (Nat.le_refl _) _).setCell (Nat.le_refl _) _⟩

set_option maxRecDepth 100000 in
set_option maxHeartbeats 4000000 in
theorem rval_two {w0 w : World} (h : KSt w0 w) {A : Option Addr} {p : List UInt8} (c : Nat) (hA : Byt w w.heap.size A p) (hm : p.length ≤ 140737488355328) (hE : tkE p = 0) (hN : tkN p = p.length) :
    Calls Tryd.prog 39 #[.int .i64 2, .slice A p.length c] w fun e w' => e = .returned (.tuple #[.agg #[.int .i64 2, .int .u64 (uns (zag (tkX p : Nat))), .string ⟨#[]⟩], .bool true]) ∧ Below w.heap.size w w' := by
  have hB1 : Below w.heap.size w (w.alloc (.cells #[.int .i64 0, .int .u64 0, .string ⟨#[]⟩] 39)) := (Below.refl _ _).alloc (Nat.le_refl _) _
  have hB2 : Below w.heap.size w ((w.alloc (.cells #[.int .i64 0, .int .u64 0, .string ⟨#[]⟩] 39)).alloc (.cells #[.int .i64 2, .int .u64 0, .string ⟨#[]⟩] 39)) := hB1.alloc (by simp) _
  have ct := rtake_any c (hA.below hB2) hm
  have z0 : ((0 : Nat) : Int) = 0 := rfl
  rw [hE, z0] at ct
  have hx := (tk_ok hE).2.2.2.2
  obtain ⟨X, hX⟩ : ∃ x, tkX p = x := ⟨_, rfl⟩
  rw [hX] at hx ct ⊢
  rw [hN] at ct
  have hNb : ((p.length : Int) != (p.length : Int)) = false := by simp
  have hzr := zag_range (y := (X : Int)) (by omega) (by omega)
  have hwu := wrap_uns hzr.1 hzr.2
  have cz := fun W => rzag_any X W hx
  have hU : 0 ≤ uns (zag (X : Int)) ∧ uns (zag (X : Int)) ≤ 18446744073709551615 := by unfold uns; split <;> omega
  obtain ⟨Z, hZ⟩ : ∃ Z, zag (X : Int) = Z := ⟨_, rfl⟩
  rw [hZ] at hwu hzr hU ⊢
  simp only [hZ] at cz
  obtain ⟨U, hUU⟩ : ∃ U, uns Z = U := ⟨_, rfl⟩
  rw [hUU] at hwu hU ⊢
  clear hUU hZ
  have hV : okV ⟨2, U, ⟨#[]⟩⟩ = true := rfl
  have HV := Lib.hid hV
  clear hB2 hV hX hE hN z0
  go_enter Tryd.func39, Tryd.ntmps39
  go_wp2_with (first
    | (go_at_call 38; refine ct.mono ?_; rintro e w1 ⟨rfl, rfl⟩)
    | (go_at_call 53; refine (cz _).mono ?_; rintro e w1 ⟨rfl, rfl⟩))
  have hV := HV.out
  have v0 := fun {W : World} (q : KSt W W) => rv_any q ⟨2, U, ⟨#[]⟩⟩ (by unfold Fit; dsimp only; omega) (Nat.zero_le _)
  simp only [hV] at v0
  have hB3 : Below w.heap.size w ((w.alloc (.cells #[.int .i64 0, .int .u64 0, .string ⟨#[]⟩] 39)).alloc (.cells #[.int .i64 2, .int .u64 U, .string ⟨#[]⟩] 39)) := hB1.alloc (by simp) _
  have h3 := (h.then_ hB3).self
  have HT : Hid (Two ((w.alloc (.cells #[.int .i64 0, .int .u64 0, .string ⟨#[]⟩] 39)).alloc (.cells #[.int .i64 2, .int .u64 U, .string ⟨#[]⟩] 39)) w.heap.size zeroV ⟨2, U, ⟨#[]⟩⟩) := Two.new w zeroV ⟨2, U, ⟨#[]⟩⟩ 39
  unfold vvC at v0
  dsimp only at v0
  have HB3 := Lib.hid hB3
  clear hV hB1 hB3 ct cz
  generalize (w.alloc (.cells #[.int .i64 0, .int .u64 0, .string ⟨#[]⟩] 39)).alloc (.cells #[.int .i64 2, .int .u64 U, .string ⟨#[]⟩] 39) = W3 at *
  obtain ⟨⟨z0, z1, z2⟩, ⟨b0, b1, b2⟩, f0⟩ := HT.out
  dsimp only at b0 b1 b2
  go_region_with (go_at_call 30; refine (v0 h3.drew.self).mono ?_; rintro e w' ⟨rfl, hb⟩; obtain ⟨⟨z0, z1, z2⟩, ⟨b0, b1, b2⟩, f0⟩ := HT.out.drew.below hb; dsimp only at b0 b1 b2)
  all_goals
    go_wp2
    have hBw : Below w.heap.size w w' := (Below.thenN HB3.out 1).trans (hb.mono HB3.out.size)
    exact bodyPost_ret (v := .tuple #[.agg #[.int .i64 2, .int .u64 U, .string ⟨#[]⟩], .bool true]) (by simp [results, Tryd.results39, go_sem, z0, z1, z2]) rfl ⟨rfl, ((hBw.setCell (Nat.le_refl _) _).setCell (Nat.le_refl _) _).setCell (Nat.le_refl _) _⟩

set_option maxRecDepth 100000 in
set_option maxHeartbeats 4000000 in
theorem rval_three {w0 w : World} (h : KSt w0 w) {A : Option Addr} {x : UInt8} (c : Nat) (hA : Byt w w.heap.size A [x]) (V : Bool) (hV : okV ⟨3, (x.toNat : Int), ⟨#[]⟩⟩ = V) :
    Calls Tryd.prog 39 #[.int .i64 3, .slice A 1 c] w fun e w' => e = .returned (.tuple #[.agg #[.int .i64 3, .int .u64 (x.toNat : Int), .string ⟨#[]⟩], .bool V]) ∧ Below w.heap.size w w' := by
  have hB1 : Below w.heap.size w (w.alloc (.cells #[.int .i64 0, .int .u64 0, .string ⟨#[]⟩] 39)) := (Below.refl _ _).alloc (Nat.le_refl _) _
  have hB2 : Below w.heap.size w ((w.alloc (.cells #[.int .i64 0, .int .u64 0, .string ⟨#[]⟩] 39)).alloc (.cells #[.int .i64 3, .int .u64 0, .string ⟨#[]⟩] 39)) := hB1.alloc (by simp) _
  obtain ⟨gb, ob, rfl, hgb, hcb⟩ := (hA.below hB2).at_ (by simp)
  have hc0 := hcb 0 (by simp)
  have hx8 := x.toNat_lt
  obtain ⟨X, hX⟩ : ∃ X : Int, (x.toNat : Int) = X := ⟨_, rfl⟩
  have hc1 : ((w.alloc (.cells #[.int .i64 0, .int .u64 0, .string ⟨#[]⟩] 39)).alloc (.cells #[.int .i64 3, .int .u64 0, .string ⟨#[]⟩] 39)).cell? ⟨gb, ob, none⟩ = some (.int .u8 X) := by rw [← hX]; exact hc0
  have hX0 : 0 ≤ X := by omega
  have hX1 : X ≤ 255 := by omega
  rw [hX] at hV ⊢
  have HV := Lib.hid hV
  clear hB2 hV hX hcb hc0 hx8 hA
  go_enter Tryd.func39, Tryd.ntmps39
  go_wp2
  have hV := HV.out
  have v0 := fun {W : World} (q : KSt W W) => rv_any q ⟨3, X, ⟨#[]⟩⟩ (by unfold Fit; dsimp only; omega) (Nat.zero_le _)
  simp only [hV] at v0
  have hB3 : Below w.heap.size w ((w.alloc (.cells #[.int .i64 0, .int .u64 0, .string ⟨#[]⟩] 39)).alloc (.cells #[.int .i64 3, .int .u64 X, .string ⟨#[]⟩] 39)) := hB1.alloc (by simp) _
  have h3 := (h.then_ hB3).self
  have HT : Hid (Two ((w.alloc (.cells #[.int .i64 0, .int .u64 0, .string ⟨#[]⟩] 39)).alloc (.cells #[.int .i64 3, .int .u64 X, .string ⟨#[]⟩] 39)) w.heap.size zeroV ⟨3, X, ⟨#[]⟩⟩) := Two.new w zeroV ⟨3, X, ⟨#[]⟩⟩ 39
  unfold vvC at v0
  dsimp only at v0
  have HB3 := Lib.hid hB3
  clear hV hB1 hB3 hc1
  generalize (w.alloc (.cells #[.int .i64 0, .int .u64 0, .string ⟨#[]⟩] 39)).alloc (.cells #[.int .i64 3, .int .u64 X, .string ⟨#[]⟩] 39) = W3 at *
  obtain ⟨⟨z0, z1, z2⟩, ⟨b0, b1, b2⟩, f0⟩ := HT.out
  dsimp only at b0 b1 b2
  go_region_with (go_at_call 30; refine (v0 h3.drew.self).mono ?_; rintro e w' ⟨rfl, hb⟩; obtain ⟨⟨z0, z1, z2⟩, ⟨b0, b1, b2⟩, f0⟩ := HT.out.drew.below hb; dsimp only at b0 b1 b2)
  all_goals
    go_wp2
    have hBw : Below w.heap.size w w' := (Below.thenN HB3.out 1).trans (hb.mono HB3.out.size)
    exact bodyPost_ret (v := .tuple #[.agg #[.int .i64 3, .int .u64 X, .string ⟨#[]⟩], .bool V]) (by simp [results, Tryd.results39, go_sem, z0, z1, z2]) rfl ⟨rfl, ((hBw.setCell (Nat.le_refl _) _).setCell (Nat.le_refl _) _).setCell (Nat.le_refl _) _⟩

set_option maxRecDepth 100000 in
set_option maxHeartbeats 4000000 in
theorem rno_oneE {w : World} {A : Option Addr} {p : List UInt8} (c : Nat) (hA : Byt w w.heap.size A p) (hm : p.length ≤ 140737488355328) (hE : ¬ tkE p = 0) :
    Calls Tryd.prog 39 #[.int .i64 1, .slice A p.length c] w (NoVal w) := by
  have hB1 : Below w.heap.size w (w.alloc (.cells #[.int .i64 0, .int .u64 0, .string ⟨#[]⟩] 39)) := (Below.refl _ _).alloc (Nat.le_refl _) _
  have hB2 : Below w.heap.size w ((w.alloc (.cells #[.int .i64 0, .int .u64 0, .string ⟨#[]⟩] 39)).alloc (.cells #[.int .i64 1, .int .u64 0, .string ⟨#[]⟩] 39)) := hB1.alloc (by simp) _
  have ct := rtake_any c (hA.below hB2) hm
  have hE5 : tkE p ≤ 5 := by rcases tk_err (l := p) with g | g | g <;> omega
  have hEb : ((tkE p : Int) != 0) = true := by simp; omega
  obtain ⟨E, hEE⟩ : ∃ x, tkE p = x := ⟨_, rfl⟩
  rw [hEE] at ct hEb hE5
  clear hEE hE hA
  go_enter Tryd.func39, Tryd.ntmps39
  go_wp2_with (go_at_call 38; refine ct.mono ?_; rintro e w1 ⟨rfl, rfl⟩)
  exact bodyPost_ret (v := .tuple #[.agg #[.int .i64 0, .int .u64 0, .string ⟨#[]⟩], .bool false]) (by simp [results, Tryd.results39, go_sem]) rfl ⟨⟨0, 0, ⟨#[]⟩, rfl⟩, hB2⟩

set_option maxRecDepth 100000 in
set_option maxHeartbeats 4000000 in
theorem rno_oneN {w : World} {A : Option Addr} {p : List UInt8} (c : Nat) (hA : Byt w w.heap.size A p) (hm : p.length ≤ 140737488355328) (hE : tkE p = 0) (hN : ¬ tkN p = p.length) :
    Calls Tryd.prog 39 #[.int .i64 1, .slice A p.length c] w (NoVal w) := by
  have hB1 : Below w.heap.size w (w.alloc (.cells #[.int .i64 0, .int .u64 0, .string ⟨#[]⟩] 39)) := (Below.refl _ _).alloc (Nat.le_refl _) _
  have hB2 : Below w.heap.size w ((w.alloc (.cells #[.int .i64 0, .int .u64 0, .string ⟨#[]⟩] 39)).alloc (.cells #[.int .i64 1, .int .u64 0, .string ⟨#[]⟩] 39)) := hB1.alloc (by simp) _
  have ct := rtake_any c (hA.below hB2) hm
  have z0 : ((0 : Nat) : Int) = 0 := rfl
  rw [hE, z0] at ct
  have hNb : ((tkN p : Int) != (p.length : Int)) = true := by simp; omega
  have hNl := tk_le p
  obtain ⟨N, hNN⟩ : ∃ x, tkN p = x := ⟨_, rfl⟩
  rw [hNN] at ct hNb hNl
  clear hNN hE hN hA z0
  go_enter Tryd.func39, Tryd.ntmps39
  go_wp2_with (go_at_call 38; refine ct.mono ?_; rintro e w1 ⟨rfl, rfl⟩)
  exact bodyPost_ret (v := .tuple #[.agg #[.int .i64 0, .int .u64 0, .string ⟨#[]⟩], .bool false]) (by simp [results, Tryd.results39, go_sem]) rfl ⟨⟨0, 0, ⟨#[]⟩, rfl⟩, hB2⟩

set_option maxRecDepth 100000 in
set_option maxHeartbeats 4000000 in
theorem rno_twoE {w : World} {A : Option Addr} {p : List UInt8} (c : Nat) (hA : Byt w w.heap.size A p) (hm : p.length ≤ 140737488355328) (hE : ¬ tkE p = 0) :
    Calls Tryd.prog 39 #[.int .i64 2, .slice A p.length c] w (NoVal w) := by
  have hB1 : Below w.heap.size w (w.alloc (.cells #[.int .i64 0, .int .u64 0, .string ⟨#[]⟩] 39)) := (Below.refl _ _).alloc (Nat.le_refl _) _
  have hB2 : Below w.heap.size w ((w.alloc (.cells #[.int .i64 0, .int .u64 0, .string ⟨#[]⟩] 39)).alloc (.cells #[.int .i64 2, .int .u64 0, .string ⟨#[]⟩] 39)) := hB1.alloc (by simp) _
  have ct := rtake_any c (hA.below hB2) hm
  have hE5 : tkE p ≤ 5 := by rcases tk_err (l := p) with g | g | g <;> omega
  have hEb : ((tkE p : Int) != 0) = true := by simp; omega
  obtain ⟨E, hEE⟩ : ∃ x, tkE p = x := ⟨_, rfl⟩
  rw [hEE] at ct hEb hE5
  clear hEE hE hA
  go_enter Tryd.func39, Tryd.ntmps39
  go_wp2_with (go_at_call 38; refine ct.mono ?_; rintro e w1 ⟨rfl, rfl⟩)
  exact bodyPost_ret (v := .tuple #[.agg #[.int .i64 0, .int .u64 0, .string ⟨#[]⟩], .bool false]) (by simp [results, Tryd.results39, go_sem]) rfl ⟨⟨0, 0, ⟨#[]⟩, rfl⟩, hB2⟩

set_option maxRecDepth 100000 in
set_option maxHeartbeats 4000000 in
theorem rno_twoN {w : World} {A : Option Addr} {p : List UInt8} (c : Nat) (hA : Byt w w.heap.size A p) (hm : p.length ≤ 140737488355328) (hE : tkE p = 0) (hN : ¬ tkN p = p.length) :
    Calls Tryd.prog 39 #[.int .i64 2, .slice A p.length c] w (NoVal w) := by
  have hB1 : Below w.heap.size w (w.alloc (.cells #[.int .i64 0, .int .u64 0, .string ⟨#[]⟩] 39)) := (Below.refl _ _).alloc (Nat.le_refl _) _
  have hB2 : Below w.heap.size w ((w.alloc (.cells #[.int .i64 0, .int .u64 0, .string ⟨#[]⟩] 39)).alloc (.cells #[.int .i64 2, .int .u64 0, .string ⟨#[]⟩] 39)) := hB1.alloc (by simp) _
  have ct := rtake_any c (hA.below hB2) hm
  have z0 : ((0 : Nat) : Int) = 0 := rfl
  rw [hE, z0] at ct
  have hNb : ((tkN p : Int) != (p.length : Int)) = true := by simp; omega
  have hNl := tk_le p
  obtain ⟨N, hNN⟩ : ∃ x, tkN p = x := ⟨_, rfl⟩
  rw [hNN] at ct hNb hNl
  clear hNN hE hN hA z0
  go_enter Tryd.func39, Tryd.ntmps39
  go_wp2_with (go_at_call 38; refine ct.mono ?_; rintro e w1 ⟨rfl, rfl⟩)
  exact bodyPost_ret (v := .tuple #[.agg #[.int .i64 0, .int .u64 0, .string ⟨#[]⟩], .bool false]) (by simp [results, Tryd.results39, go_sem]) rfl ⟨⟨0, 0, ⟨#[]⟩, rfl⟩, hB2⟩

set_option maxRecDepth 100000 in
set_option maxHeartbeats 4000000 in
theorem rno_three {w : World} {A : Option Addr} {p : List UInt8} (c : Nat) (_hA : Byt w w.heap.size A p) (_hm : p.length ≤ 140737488355328) (h1 : ¬ p.length = 1) :
    Calls Tryd.prog 39 #[.int .i64 3, .slice A p.length c] w (NoVal w) := by
  have hB1 : Below w.heap.size w (w.alloc (.cells #[.int .i64 0, .int .u64 0, .string ⟨#[]⟩] 39)) := (Below.refl _ _).alloc (Nat.le_refl _) _
  have hB2 : Below w.heap.size w ((w.alloc (.cells #[.int .i64 0, .int .u64 0, .string ⟨#[]⟩] 39)).alloc (.cells #[.int .i64 3, .int .u64 0, .string ⟨#[]⟩] 39)) := hB1.alloc (by simp) _
  have hb : ((p.length : Int) != 1) = true := by simp; omega
  clear h1
  go_enter Tryd.func39, Tryd.ntmps39
  go_wp2
  exact bodyPost_ret (v := .tuple #[.agg #[.int .i64 0, .int .u64 0, .string ⟨#[]⟩], .bool false]) (by simp [results, Tryd.results39, go_sem]) rfl ⟨⟨0, 0, ⟨#[]⟩, rfl⟩, hB2⟩

theorem IsVal.of {w w' : World} {v : Val} {e : Ending} {k n : Int} {s : ByteArray} (hk : v.k = k) (hn : v.n = n) (hs : v.s = s) (he : e = .returned (.tuple #[.agg #[.int .i64 k, .int .u64 n, .string s], .bool true])) (hb : Below w.heap.size w w') : IsVal w v e w' := by
  subst hk hn hs; exact ⟨he, hb⟩

/-- Where there is a value, and it is valid, it is answered. -/
theorem rval_yes {w0 w : World} (h : KSt w0 w) {A : Option Addr} {p : List UInt8} (c : Nat) (hA : Byt w w.heap.size A p) (hm : p.length ≤ 140737488355328) {k : Int} {v : Val} (hv : tkVal k p = some v) (hok : okV v = true) :
    Calls Tryd.prog 39 #[.int .i64 k, .slice A p.length c] w (IsVal w v) := by
  unfold tkVal at hv
  by_cases hk : isNum k = true
  · rw [if_pos hk] at hv
    by_cases hc : tkE p = 0 ∧ tkN p = p.length
    · rw [if_pos hc] at hv
      have hv' := Option.some.inj hv
      simp only [isNum, Bool.or_eq_true, beq_iff_eq] at hk
      rcases hk with (rfl | rfl) | rfl
      · exact (rval_one h c hA hm hc.1 hc.2).mono fun _ _ ⟨he, hb⟩ => IsVal.of (by rw [← hv']) (by rw [← hv']; rfl) (by rw [← hv']) he hb
      · exact (rval_two h c hA hm hc.1 hc.2).mono fun _ _ ⟨he, hb⟩ => IsVal.of (by rw [← hv']) (by rw [← hv']; rfl) (by rw [← hv']) he hb
      · have hx : (tkX p : Int) ≤ 1 := by
          rw [← hv', if_neg (by decide), ok_three] at hok
          simpa using hok
        obtain ⟨_, _, _, k3, _⟩ := tk_ok hc.1
        rw [hc.2, List.take_length, Go.Lib.uvarint_small (by omega)] at k3
        obtain ⟨x, hxx⟩ : ∃ x, (tkX p).toUInt8 = x := ⟨_, rfl⟩
        have hxn : (x.toNat : Int) = (tkX p : Int) := by rw [← hxx, toU8 (by omega)]
        rw [hxx] at k3
        have hok2 : okV ⟨3, (x.toNat : Int), ⟨#[]⟩⟩ = true := by rw [ok_three, hxn]; simpa using hx
        have hA2 : Byt w w.heap.size A [x] := by rw [← k3]; exact hA
        have hp1 : p.length = 1 := by rw [k3]; rfl
        rw [hp1]
        refine (rval_three h c hA2 true hok2).mono ?_
        rintro e w' ⟨he, hb⟩
        exact IsVal.of (by rw [← hv']) (by rw [← hv', if_neg (by decide)]; exact hxn.symm) (by rw [← hv']) he hb
    · rw [if_neg hc] at hv; cases hv
  · rw [if_neg hk] at hv
    have hv' := Option.some.inj hv
    exact (rval_text h c hA hm k (by simpa using hk) true (by rw [← hv'] at hok; exact hok)).mono fun _ _ ⟨he, hb⟩ => IsVal.of (by rw [← hv']) (by rw [← hv']) (by rw [← hv']; rfl) he hb

/-- Where there is none, or it isn't valid, none is answered. -/
theorem rval_no {w0 w : World} (h : KSt w0 w) {A : Option Addr} {p : List UInt8} (c : Nat) (hA : Byt w w.heap.size A p) (hm : p.length ≤ 140737488355328) {k : Int} (hv : ∀ v, tkVal k p = some v → okV v = false) :
    Calls Tryd.prog 39 #[.int .i64 k, .slice A p.length c] w (NoVal w) := by
  unfold tkVal at hv
  by_cases hk : isNum k = true
  · simp only [if_pos hk] at hv
    simp only [isNum, Bool.or_eq_true, beq_iff_eq] at hk
    by_cases hE : tkE p = 0
    · by_cases hN : tkN p = p.length
      · rw [if_pos ⟨hE, hN⟩] at hv
        have h1 := hv _ rfl
        rcases hk with (rfl | rfl) | rfl
        · rw [ok_one] at h1; cases h1
        · rw [ok_two] at h1; cases h1
        · rw [if_neg (by decide), ok_three] at h1
          by_cases hp1 : p.length = 1
          · obtain ⟨x, rfl⟩ := List.length_eq_one_iff.1 hp1
            have hxx : (x.toNat : Int) = (tkX [x] : Int) := by
              have hst : stops 0 [x] = (1, 0) := Prod.ext hN hE
              unfold tkX
              rw [hst]
              have hlt : x.toNat < 128 := by
                unfold tkE at hE
                rw [stops] at hE
                split at hE
                · simp at hE
                · split at hE
                  · assumption
                  · simp [stops] at hE
              simp [val]; omega
            refine (rval_three h c hA false ?_).mono ?_
            · rw [ok_three, hxx]; exact h1
            · rintro e w' ⟨he, hb⟩
              exact ⟨⟨_, _, _, he⟩, hb⟩
          · exact rno_three c hA hm hp1
      · rcases hk with (rfl | rfl) | rfl
        · exact rno_oneN c hA hm hE hN
        · exact rno_twoN c hA hm hE hN
        · have hp1 : ¬ p.length = 1 := fun e => by
            have h1 := (tk_ok hE).1
            have h2 := (tk_ok hE).2.1
            omega
          exact rno_three c hA hm hp1
    · rcases hk with (rfl | rfl) | rfl
      · exact rno_oneE c hA hm hE
      · exact rno_twoE c hA hm hE
      · by_cases hp1 : p.length = 1
        · obtain ⟨x, rfl⟩ := List.length_eq_one_iff.1 hp1
          have hlt : ¬ x.toNat < 128 := fun g => by
            apply hE
            unfold tkE
            rw [stops, if_neg (by simp [bad]), if_pos g]
          refine (rval_three h c hA false ?_).mono ?_
          · rw [ok_three]; exact decide_eq_false (by omega)
          · rintro e w' ⟨he, hb⟩
            exact ⟨⟨_, _, _, he⟩, hb⟩
        · exact rno_three c hA hm hp1
  · simp only [if_neg hk] at hv
    have h1 := hv _ rfl
    exact (rval_text h c hA hm k (by simpa using hk) false h1).mono fun _ _ ⟨he, hb⟩ => ⟨⟨_, _, _, he⟩, hb⟩
end Go.Proofs.YthekbefbhjllnaaDoor
