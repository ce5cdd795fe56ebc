/- Cuts of a slice of one-cell elements, as run equations to lay ahead of a walk. No walk here. -/
import Derived.Test.YtnflbnchkcigiaaDoorTaGa
import Derived.Test.YtnflbnchkcigiaaDoorTaGc
import Derived.Test.YtnflbnchkcigiaaDoorTaGe
import Derived.Laws.Slices
namespace Go.Proofs.YtnflbnchkcigiaaDoor
open Go.RowKit

theorem add_zero (a : Addr) : a.add 0 = a := by simp [Addr.add]
theorem map_add_zero (A : Option Addr) : A.map (·.add 0) = A := by
  cases A with
  | none => rfl
  | some a => simp [add_zero]

theorem run_size1 {P : Program} {e : TypeId} (hs : (P.info? e).map (·.size) = some 1) (W : World) : (sizeOf e).run P W = .ok 1 W := by
  cases hq : P.info? e with
  | none => simp [hq] at hs
  | some i =>
    have : i.size = 1 := by simpa [hq] using hs
    simp [sizeOf, typeInfo, hq, this]
theorem elem_of {P : Program} {T e : TypeId} (ht : P.underlying T = some (.slice e)) : P.elem T = e := by simp [Program.elem, ht]

theorem run_cut_l {P : Program} {T e : TypeId} (ht : P.underlying T = some (.slice e)) (hs : (P.info? e).map (·.size) = some 1) (A A' : Option Addr) (n c k : Nat) (hk : k ≤ n) (hA : A' = if c = k then A else A.map (·.add k)) (W : World) :
    (Instr.sliceAt T (.slice A n c) (some (.int .i64 (k : Int))) none none).run P W = .ok (.slice A' (n - k) (c - k)) W := by
  have hE := elem_of ht
  have ht' : P.underlying T = some (.slice (P.elem T)) := by rw [hE]; exact ht
  rw [run_sliceAt_slice _ _ _ _ _ _ ht', run_slice_l _ T A n c ht' .i64 k (by omega) (by omega), hE, run_size1 hs]
  simp only [Result.andThen, sliced, Int.toNat_natCast, Nat.mul_one]
  rw [← hA]

theorem run_cut_h {P : Program} {T e : TypeId} (ht : P.underlying T = some (.slice e)) (hs : (P.info? e).map (·.size) = some 1) (A : Option Addr) (n c k : Nat) (hk : k ≤ c) (W : World) :
    (Instr.sliceAt T (.slice A n c) none (some (.int .i64 (k : Int))) none).run P W = .ok (.slice A k c) W := by
  have hE := elem_of ht
  have ht' : P.underlying T = some (.slice (P.elem T)) := by rw [hE]; exact ht
  rw [run_sliceAt_slice _ _ _ _ _ _ ht', run_slice_h _ T A n c ht' .i64 k (by omega) (by omega), hE, run_size1 hs]
  simp only [Result.andThen, sliced, Int.toNat_natCast, Nat.zero_mul, Nat.sub_zero, map_add_zero]
  simp

theorem run_cut_lh {P : Program} {T e : TypeId} (ht : P.underlying T = some (.slice e)) (hs : (P.info? e).map (·.size) = some 1) (A A' : Option Addr) (n c k m : Nat) (hk : k ≤ m) (hm : m ≤ c) (hA : A' = if c = k then A else A.map (·.add k)) (W : World) :
    (Instr.sliceAt T (.slice A n c) (some (.int .i64 (k : Int))) (some (.int .i64 (m : Int))) none).run P W = .ok (.slice A' (m - k) (c - k)) W := by
  have hE := elem_of ht
  have ht' : P.underlying T = some (.slice (P.elem T)) := by rw [hE]; exact ht
  rw [run_sliceAt_slice _ _ _ _ _ _ ht', run_slice_lh _ T A n c ht' .i64 .i64 k m (by omega) (by omega) (by omega), hE, run_size1 hs]
  simp only [Result.andThen, sliced, Int.toNat_natCast, Nat.mul_one]
  rw [← hA]
end Go.Proofs.YtnflbnchkcigiaaDoor
/- The walks of takeValue, takeField. -/
namespace Go.Proofs.YtnflbnchkcigiaaDoor
open Go.RowKit
open Go.Lib (byteCells uvarint)

/-- the zero value; what takeValue answers -/
def zeroV : Val := ⟨0, 0, ⟨#[]⟩⟩
def tvV (k : Int) (p : List UInt8) : Val := (tkVal k p).getD zeroV
def tvO (k : Int) (p : List UInt8) : Bool := (tkVal k p).isSome
theorem tv_text (k : Int) (p : List UInt8) (h : isNum k = false) : tvV k p = ⟨k, 0, str p⟩ ∧ tvO k p = true := by
  unfold tvV tvO tkVal
  rw [if_neg (by simp [h])]
  exact ⟨rfl, rfl⟩
theorem tv_num (k : Int) (p : List UInt8) (h : isNum k = true) (h1 : tkE p = 0) (h2 : tkN p = p.length) : tvV k p = ⟨k, if k = 2 then uns (zag (tkX p : Int)) else (tkX p : Int), ⟨#[]⟩⟩ ∧ tvO k p = true := by
  unfold tvV tvO tkVal
  rw [if_pos h, if_pos ⟨h1, h2⟩]
  exact ⟨rfl, rfl⟩
theorem tv_none (k : Int) (p : List UInt8) (h : isNum k = true) (h1 : ¬ (tkE p = 0 ∧ tkN p = p.length)) : tvV k p = zeroV ∧ tvO k p = false := by
  unfold tvV tvO tkVal
  rw [if_pos h, if_neg h1]
  exact ⟨rfl, rfl⟩
theorem wrap_uns {z : Int} (h0 : -9223372036854775808 ≤ z) (h1 : z ≤ 9223372036854775807) : IntKind.u64.wrap z = uns z := by
  unfold uns
  simp [IntKind.wrap, IntKind.bits, IntKind.signed]
  split <;> omega
theorem tkN_le (l : List UInt8) : tkN l ≤ l.length := tk_le l

theorem ret_v {v u : Val} {a b : Bool} (h : v = u) (g : a = b) : Ending.returned (.tuple #[.agg #[.int .i64 v.k, .int .u64 v.n, .string v.s], .bool a]) = .returned (.tuple #[.agg (vvC u), .bool b]) := by rw [h, g]; rfl

set_option maxRecDepth 100000 in
set_option maxHeartbeats 1000000 in
theorem tval_any {w : World} (h : KVars w) {A : Option Addr} {p : List UInt8} (c : Nat) (hA : Byt w w.heap.size A p) (hm : p.length ≤ 140737488355328) (k : Int) :
    Calls Tryd.prog 57 #[.int .i64 k, .slice A p.length c] w fun e w' => e = .returned (.tuple #[.agg (vvC (tvV k p)), .bool (tvO k p)]) ∧ Below w.heap.size w w' := by
  have hBw : Below w.heap.size w (w.alloc (.cells #[.int .i64 0, .int .u64 0, .string ⟨#[]⟩] 51)) := (Below.refl _ _).alloc (Nat.le_refl _) _
  have hA1 := hA.then_ hBw
  have hk1 := h.below hBw
  have ci := isnum_any hk1 k
  have ct := take_any c hA1 hm
  have htx := tv_text k p
  have htn := tv_num k p
  have hto := tv_none k p
  obtain ⟨X, hX⟩ : ∃ X, tkX p = X := ⟨_, rfl⟩
  obtain ⟨N, hN⟩ : ∃ N, tkN p = N := ⟨_, rfl⟩
  obtain ⟨E, hE⟩ : ∃ E, tkE p = E := ⟨_, rfl⟩
  have hN1 := tkN_le p
  have hX1 : E = 0 → X ≤ 18446744073709551615 := fun q => by have := (tk_ok (hE.trans q)).2.2.2.2; omega
  have hE5 : E ≤ 5 := by rcases tk_err (l := p) with g | g | g <;> omega
  have hrs := run_str (P := Tryd.prog) hA1 56 5 9 Tryd.underlying56 Tryd.underlying5 Tryd.underlying9 c
  rw [hX, hN, hE] at ct
  rw [hX, hN, hE] at htn
  rw [hN, hE] at hto
  rw [hN] at hN1
  obtain ⟨TV, hTV⟩ : ∃ v, tvV k p = v := ⟨_, rfl⟩
  obtain ⟨TO, hTO⟩ : ∃ v, tvO k p = v := ⟨_, rfl⟩
  simp only [hTV, hTO] at htx htn hto ⊢
  clear hTV hTO hX hN hE hA hA1 h
  by_cases hk : isNum k = true
  · rw [hk] at ci
    by_cases hc : E = 0 ∧ N = p.length
    · obtain ⟨hE0, hNp⟩ := hc
      have htv := htn hk hE0 hNp
      have hX2 := hX1 hE0
      subst hE0
      have hNb : ((N : Int) != (p.length : Int)) = false := by rw [hNp]; simp
      clear htx htn hto hX1 hE5 hNp hrs hN1
      by_cases h2 : k = 2
      · subst h2
        rw [if_pos rfl] at htv
        have hzr := zag_range (y := (X : Int)) (by omega) (by omega)
        have hwu := wrap_uns hzr.1 hzr.2
        have cz := fun W => zag_any X W hX2
        obtain ⟨Z, hZ⟩ : ∃ Z, zag (X : Int) = Z := ⟨_, rfl⟩
        rw [hZ] at hwu hzr
        simp only [hZ] at cz htv
        obtain ⟨U, hU⟩ : ∃ U, uns Z = U := ⟨_, rfl⟩
        rw [hU] at hwu htv
        have HT := Lib.hid htv
        clear htv hU hZ hk hzr
        go_enter Tryd.func57, Tryd.ntmps57
        go_wp2_with (first
          | (go_at_call 54; refine ci.mono ?_; rintro e w1 ⟨rfl, rfl⟩)
          | (go_at_call 56; refine ct.mono ?_; rintro e w1 ⟨rfl, rfl⟩)
          | (go_at_call 70; refine (int_any hk1).mono ?_; rintro e w1 ⟨rfl, rfl⟩)
          | (go_at_call 74; refine (cz _).mono ?_; rintro e w1 ⟨rfl, rfl⟩))
        have e := HT.out
        exact bodyPost_ret (v := .tuple #[.agg #[.int .i64 2, .int .u64 U, .string ⟨#[]⟩], .bool true]) (by simp [results, Tryd.results57, go_sem]) rfl ⟨ret_v e.1.symm e.2.symm, (Below.refl _ _).alloc (Nat.le_refl _) _⟩
      · rw [if_neg h2] at htv
        have q2 : (k == 2) = false := by simpa using h2
        have HT := Lib.hid htv
        clear htv hk h2
        go_enter Tryd.func57, Tryd.ntmps57
        go_wp2_with (first
          | (go_at_call 54; refine ci.mono ?_; rintro e w1 ⟨rfl, rfl⟩)
          | (go_at_call 56; refine ct.mono ?_; rintro e w1 ⟨rfl, rfl⟩)
          | (go_at_call 70; refine (int_any hk1).mono ?_; rintro e w1 ⟨rfl, rfl⟩))
        have e := HT.out
        exact bodyPost_ret (v := .tuple #[.agg #[.int .i64 k, .int .u64 X, .string ⟨#[]⟩], .bool true]) (by simp [results, Tryd.results57, go_sem]) rfl ⟨ret_v e.1.symm e.2.symm, (Below.refl _ _).alloc (Nat.le_refl _) _⟩
    · have HT := Lib.hid (hto hk hc)
      clear htx htn hto hrs hX1 hk
      by_cases hE0 : E = 0
      · have hNp : ((N : Int) != (p.length : Int)) = true := by simp; omega
        subst hE0
        clear hc
        go_enter Tryd.func57, Tryd.ntmps57
        go_wp2_with (first
          | (go_at_call 54; refine ci.mono ?_; rintro e w1 ⟨rfl, rfl⟩)
          | (go_at_call 56; refine ct.mono ?_; rintro e w1 ⟨rfl, rfl⟩))
        have e := HT.out
        exact bodyPost_ret (v := .tuple #[.agg #[.int .i64 0, .int .u64 0, .string ⟨#[]⟩], .bool false]) (by simp [results, Tryd.results57, go_sem]) rfl ⟨ret_v e.1.symm e.2.symm, (Below.refl _ _).alloc (Nat.le_refl _) _⟩
      · have hEb : ((E : Int) != 0) = true := by simp; omega
        clear hc hE0
        go_enter Tryd.func57, Tryd.ntmps57
        go_wp2_with (first
          | (go_at_call 54; refine ci.mono ?_; rintro e w1 ⟨rfl, rfl⟩)
          | (go_at_call 56; refine ct.mono ?_; rintro e w1 ⟨rfl, rfl⟩))
        have e := HT.out
        exact bodyPost_ret (v := .tuple #[.agg #[.int .i64 0, .int .u64 0, .string ⟨#[]⟩], .bool false]) (by simp [results, Tryd.results57, go_sem]) rfl ⟨ret_v e.1.symm e.2.symm, (Below.refl _ _).alloc (Nat.le_refl _) _⟩
  · have hk' : isNum k = false := by simpa using hk
    have HT := Lib.hid (htx hk')
    rw [hk'] at ci
    clear htx htn hto hk hk' hX1
    go_enter Tryd.func57, Tryd.ntmps57
    go_wp2_with (go_at_call 54; refine ci.mono ?_; rintro e w1 ⟨rfl, rfl⟩)
    have e := HT.out
    exact bodyPost_ret (v := .tuple #[.agg #[.int .i64 k, .int .u64 0, .string (str p)], .bool true]) (by simp [results, Tryd.results57, go_sem]) rfl ⟨ret_v e.1.symm e.2.symm, (Below.refl _ _).alloc (Nat.le_refl _) _⟩

/-- what takeField answers where there is none -/
def NoFld (w : World) (e : Ending) (w' : World) : Prop := (∃ (t k n m : Int) (s : ByteArray), e = .returned (.tuple #[.agg #[.int .i64 t, .int .i64 k, .int .u64 n, .string s], .int .i64 m, .bool false])) ∧ Below w.heap.size w w'

theorem ret_f {t u n m : Int} {x y z : Value} {o : Bool} (h : t = u) (k : n = m) : Ending.returned (.tuple #[.agg #[.int .i64 t, x, y, z], .int .i64 n, .bool o]) = .returned (.tuple #[.agg #[.int .i64 u, x, y, z], .int .i64 m, .bool o]) := by
  subst h k; rfl

/-- the field is there -/
theorem tkFld_parts {b : List UInt8} {f : Fd} {n : Nat} (h : tkFld b = some (f, n)) : tkE b = 0 ∧ tkX b / 8 ≤ 65535 ∧ tkE (r1 b) = 0 ∧ tkX (r1 b) ≤ (r2 b).length ∧
    tvO ((tkX b : Int) % 8) ((r2 b).take (tkX (r1 b))) = true ∧ f.v = tvV ((tkX b : Int) % 8) ((r2 b).take (tkX (r1 b))) ∧ f.t = (tkX b : Int) / 8 ∧ n = tkN b + tkN (r1 b) + tkX (r1 b) := by
  unfold tkFld at h
  by_cases hc : tkE b = 0 ∧ tkX b / 8 ≤ 65535 ∧ tkE (r1 b) = 0 ∧ tkX (r1 b) ≤ (r2 b).length
  · rw [if_pos hc] at h
    obtain ⟨v, hv, he⟩ := Option.map_eq_some_iff.1 h
    simp only [Prod.mk.injEq] at he
    obtain ⟨hf, hn⟩ := he
    have e : ((tkX b : Nat) : Int) % 8 = ((tkX b % 8 : Nat) : Int) := by omega
    refine ⟨hc.1, hc.2.1, hc.2.2.1, hc.2.2.2, ?_, ?_, ?_, hn.symm⟩
    · unfold tvO; rw [e, hv]; rfl
    · unfold tvV; rw [e, hv, ← hf]; rfl
    · rw [← hf]; dsimp only; omega
  · rw [if_neg hc] at h; simp at h
theorem tkFld_no {b : List UInt8} (h : tkFld b = none) : ¬ (tkE b = 0) ∨ ¬ (tkX b / 8 ≤ 65535) ∨ ¬ (tkE (r1 b) = 0) ∨ ¬ (tkX (r1 b) ≤ (r2 b).length) ∨ tvO ((tkX b : Int) % 8) ((r2 b).take (tkX (r1 b))) = false := by
  unfold tkFld at h
  by_cases hc : tkE b = 0 ∧ tkX b / 8 ≤ 65535 ∧ tkE (r1 b) = 0 ∧ tkX (r1 b) ≤ (r2 b).length
  · rw [if_pos hc, Option.map_eq_none_iff] at h
    have e : ((tkX b : Nat) : Int) % 8 = ((tkX b % 8 : Nat) : Int) := by omega
    right; right; right; right
    unfold tvO; rw [e, h]; rfl
  · by_cases h1 : tkE b = 0
    · by_cases h2 : tkX b / 8 ≤ 65535
      · by_cases h3 : tkE (r1 b) = 0
        · by_cases h4 : tkX (r1 b) ≤ (r2 b).length
          · exact absurd ⟨h1, h2, h3, h4⟩ hc
          · exact .inr (.inr (.inr (.inl h4)))
        · exact .inr (.inr (.inl h3))
      · exact .inr (.inl h2)
    · exact .inl h1

set_option maxRecDepth 100000 in
set_option maxHeartbeats 2000000 in
theorem tfld_core {w : World} (h : KVars w) {A : Option Addr} {b : List UInt8} (c : Nat) (hA : Byt w w.heap.size A b) (hm : b.length ≤ 140737488355328) (hc : b.length ≤ c)
    (g1 : tkE b = 0) (g2 : tkX b / 8 ≤ 65535) (g3 : tkE (r1 b) = 0) (g4 : tkX (r1 b) ≤ (r2 b).length) (V : Val) (hV : tvV ((tkX b : Int) % 8) ((r2 b).take (tkX (r1 b))) = V) (O : Bool) (hO : tvO ((tkX b : Int) % 8) ((r2 b).take (tkX (r1 b))) = O)
    (n : Nat) (hn : n = tkN b + tkN (r1 b) + tkX (r1 b)) (t : Int) (htg : t = (tkX b : Int) / 8) :
    Calls Tryd.prog 41 #[.slice A b.length c] w fun e w' => e = .returned (.tuple #[.agg #[.int .i64 t, .int .i64 V.k, .int .u64 V.n, .string V.s], .int .i64 n, .bool O]) ∧ Below w.heap.size w w' := by
  have hBw : Below w.heap.size w (w.alloc (.cells #[.int .i64 0, .int .i64 0, .int .u64 0, .string ⟨#[]⟩] 53)) := (Below.refl _ _).alloc (Nat.le_refl _) _
  have hA1 := hA.then_ hBw
  have hk1 := h.below hBw
  have ct1 := take_any c hA1 hm
  have q1 := (tk_ok g1).1
  have q5 := (tk_ok g1).2.2.2.2
  have p1 := (tk_ok g3).1
  have p5 := (tk_ok g3).2.2.2.2
  have hA2 := hA1.drop (k := tkN b) (cap := c) hc q1
  obtain ⟨A2, hA2e⟩ : ∃ A2, (if c = tkN b then A else A.map (·.add (tkN b))) = A2 := ⟨_, rfl⟩
  have hcut1 := run_cut_l (P := Tryd.prog) Tryd.underlying56 (by kernel_rfl) A A2 b.length c (tkN b) q1 hA2e.symm
  rw [hA2e, show b.drop (tkN b) = r1 b from rfl] at hA2
  have l1 : (r1 b).length = b.length - tkN b := by unfold r1; rw [List.length_drop]
  have l2 : (r2 b).length = b.length - tkN b - tkN (r1 b) := by unfold r2; rw [List.length_drop, l1]
  rw [← l1] at hcut1
  have ct2 := take_any (c - tkN b) hA2 (by omega)
  have hA3 := hA1.drop (k := tkN b + tkN (r1 b)) (cap := c) hc (by omega)
  obtain ⟨A3, hA3e⟩ : ∃ A3, (if c = tkN b + tkN (r1 b) then A else A.map (·.add (tkN b + tkN (r1 b)))) = A3 := ⟨_, rfl⟩
  have e3 : b.drop (tkN b + tkN (r1 b)) = r2 b := by unfold r2 r1; rw [List.drop_drop]
  rw [hA3e, e3] at hA3
  have hA4 := hA3.take (tkX (r1 b))
  have hcut2 := run_cut_lh (P := Tryd.prog) Tryd.underlying56 (by kernel_rfl) A A3 b.length c (tkN b + tkN (r1 b)) (tkN b + tkN (r1 b) + tkX (r1 b)) (by omega) (by omega) hA3e.symm
  have l3 : ((r2 b).take (tkX (r1 b))).length = tkN b + tkN (r1 b) + tkX (r1 b) - (tkN b + tkN (r1 b)) := by rw [List.length_take]; omega
  rw [← l3] at hcut2
  obtain ⟨p, hp⟩ : ∃ p, (r2 b).take (tkX (r1 b)) = p := ⟨_, rfl⟩
  rw [hp] at hcut2 hA4 hV hO l3
  have hpm : p.length ≤ 140737488355328 := by rw [l3]; omega
  obtain ⟨X1, hX1⟩ : ∃ x, tkX b = x := ⟨_, rfl⟩
  obtain ⟨N1, hN1⟩ : ∃ x, tkN b = x := ⟨_, rfl⟩
  obtain ⟨R, hR⟩ : ∃ x, r1 b = x := ⟨_, rfl⟩
  have z0 : ((0 : Nat) : Int) = 0 := rfl
  rw [g1, z0] at ct1
  rw [g3, z0] at ct2
  clear z0
  rw [hX1, hN1] at ct1
  rw [hR] at ct2 hcut1 hcut2 g4 hn l1 l2 p1 p5 l3
  rw [hN1] at hcut1 hcut2 ct2 hn l1 l2 q1 l3
  obtain ⟨X2, hX2⟩ : ∃ x, tkX R = x := ⟨_, rfl⟩
  obtain ⟨N2, hN2⟩ : ∃ x, tkN R = x := ⟨_, rfl⟩
  rw [hX2] at ct2 hcut2 g4 hn p5 l3
  rw [hN2] at ct2 hcut2 l2 hn p1 l3
  rw [hX1] at g2 hV hO htg q5
  have hcut2' : ∀ W : World, (Instr.sliceAt 56 (.slice A b.length c) (some (.int .i64 ((N1 : Int) + (N2 : Int)))) (some (.int .i64 ((N1 : Int) + (N2 : Int) + (X2 : Int)))) none).run Tryd.prog W = .ok (.slice A3 p.length (c - (N1 + N2))) W := fun W => by
    have := hcut2 W
    simpa using this
  have hN12 : N1 + N2 + X2 ≤ b.length := by omega
  have ctv := fun {W : World} (hk : KVars W) (hb : Byt W W.heap.size A3 p) => tval_any hk (c - (N1 + N2)) hb hpm ((X1 : Int) % 8)
  simp only [hV, hO] at ctv
  have HA4 := Lib.hid hA4
  have HF := Lib.hid (And.intro htg hn)
  clear hcut2 l1 l2 l3 g1 g3 g4 hV hO htg hn hA hA1 hA2 hA3 hA4 hX1 hN1 hR hX2 hN2 hp e3 hA2e hA3e h q1 p1 hpm hc
  obtain ⟨k, vn, vs⟩ := V
  unfold vvC at ctv
  dsimp only at ctv
  go_enter Tryd.func41, Tryd.ntmps41
  go_wp2_with (first
    | (go_at_call 56; with_reducible refine ct1.mono ?_; rintro e w1 ⟨rfl, rfl⟩)
    | (go_at_call 56; with_reducible refine ct2.mono ?_; rintro e w1 ⟨rfl, rfl⟩)
    | (go_at_call 57; refine (ctv hk1 HA4.out).mono ?_; rintro e w1 ⟨rfl, hb1⟩; obtain ⟨hc1, hf1⟩ := Below.cells hb1; have hz1 : w.heap.size < w1.heap.size := (by have := hb1.size; simp at this; omega)))
  have e := HF.out
  refine bodyPost_ret (v := .tuple #[.agg #[.int .i64 ((X1 : Int) / 8), .int .i64 k, .int .u64 vn, .string vs], .int .i64 ((N1 : Int) + (N2 : Int) + (X2 : Int)), .bool O]) (by simp [results, Tryd.results41, go_sem, hc1, hz1]) rfl ⟨ret_f e.1.symm (by omega), ?_⟩
  have hB1 : Below w.heap.size w w1 := hBw.trans (hb1.mono (by simp))
  exact ((((hB1.setCell (Nat.le_refl _) _).setCell (Nat.le_refl _) _).setCell (Nat.le_refl _) _).setCell (Nat.le_refl _) _).alloc (by simp; omega) _

theorem tfld_any {w : World} (h : KVars w) {A : Option Addr} {b : List UInt8} (c : Nat) (hA : Byt w w.heap.size A b) (hm : b.length ≤ 140737488355328) (hc : b.length ≤ c) {f : Fd} {n : Nat} (ht : tkFld b = some (f, n)) :
    Calls Tryd.prog 41 #[.slice A b.length c] w fun e w' => e = .returned (.tuple #[.agg (ffC f), .int .i64 n, .bool true]) ∧ Below w.heap.size w w' := by
  obtain ⟨g1, g2, g3, g4, g5, g6, g7, g8⟩ := tkFld_parts ht
  exact tfld_core h c hA hm hc g1 g2 g3 g4 f.v g6.symm true g5 n g8 f.t g7

set_option maxRecDepth 100000 in
set_option maxHeartbeats 2000000 in
theorem tfld_bad {w : World} (h : KVars w) {A : Option Addr} {b : List UInt8} (c : Nat) (hA : Byt w w.heap.size A b) (hm : b.length ≤ 140737488355328) (hc : b.length ≤ c) (ht : tkFld b = none) :
    Calls Tryd.prog 41 #[.slice A b.length c] w (NoFld w) := by
  have hno := tkFld_no ht
  by_cases g1 : tkE b = 0
  rotate_left
  · have hBw : Below w.heap.size w (w.alloc (.cells #[.int .i64 0, .int .i64 0, .int .u64 0, .string ⟨#[]⟩] 53)) := (Below.refl _ _).alloc (Nat.le_refl _) _
    have ct1 := take_any c (hA.then_ hBw) hm
    have hE5 : tkE b ≤ 5 := by rcases tk_err (l := b) with g | g | g <;> omega
    have hEb : ((tkE b : Int) != 0) = true := by simp; omega
    obtain ⟨E1, hE1⟩ : ∃ x, tkE b = x := ⟨_, rfl⟩
    rw [hE1] at ct1 hEb hE5
    clear hE1 g1 hno ht hA h
    go_enter Tryd.func41, Tryd.ntmps41
    go_wp2_with (go_at_call 56; with_reducible refine ct1.mono ?_; rintro e w1 ⟨rfl, rfl⟩)
    exact bodyPost_ret (v := .tuple #[.agg #[.int .i64 0, .int .i64 0, .int .u64 0, .string ⟨#[]⟩], .int .i64 0, .bool false]) (by simp [results, Tryd.results41, go_sem]) rfl ⟨⟨0, 0, 0, 0, ⟨#[]⟩, rfl⟩, (Below.refl _ _).alloc (Nat.le_refl _) _⟩
  by_cases g2 : tkX b / 8 ≤ 65535
  rotate_left
  · have hBw : Below w.heap.size w (w.alloc (.cells #[.int .i64 0, .int .i64 0, .int .u64 0, .string ⟨#[]⟩] 53)) := (Below.refl _ _).alloc (Nat.le_refl _) _
    have ct1 := take_any c (hA.then_ hBw) hm
    have z0 : ((0 : Nat) : Int) = 0 := rfl
    rw [g1, z0] at ct1
    have hx := (tk_ok g1).2.2.2.2
    obtain ⟨X1, hX1⟩ : ∃ x, tkX b = x := ⟨_, rfl⟩
    rw [hX1] at ct1 g2 hx
    have g2' : 65535 < X1 / 8 := by omega
    have g2z : (65535 : Int) < (X1 : Int) / 8 := by omega
    clear hX1 g1 hno ht hA h z0 g2
    go_enter Tryd.func41, Tryd.ntmps41
    go_wp2_with (go_at_call 56; with_reducible refine ct1.mono ?_; rintro e w1 ⟨rfl, rfl⟩)
    exact bodyPost_ret (v := .tuple #[.agg #[.int .i64 0, .int .i64 0, .int .u64 0, .string ⟨#[]⟩], .int .i64 0, .bool false]) (by simp [results, Tryd.results41, go_sem]) rfl ⟨⟨0, 0, 0, 0, ⟨#[]⟩, rfl⟩, (Below.refl _ _).alloc (Nat.le_refl _) _⟩
  have hBw : Below w.heap.size w (w.alloc (.cells #[.int .i64 0, .int .i64 0, .int .u64 0, .string ⟨#[]⟩] 53)) := (Below.refl _ _).alloc (Nat.le_refl _) _
  have ct1 := take_any c (hA.then_ hBw) hm
  have z0 : ((0 : Nat) : Int) = 0 := rfl
  rw [g1, z0] at ct1
  have q1 := (tk_ok g1).1
  have hx := (tk_ok g1).2.2.2.2
  have hA2 := (hA.then_ hBw).drop (k := tkN b) (cap := c) hc q1
  obtain ⟨A2, hA2e⟩ : ∃ A2, (if c = tkN b then A else A.map (·.add (tkN b))) = A2 := ⟨_, rfl⟩
  have hcut1 := run_cut_l (P := Tryd.prog) Tryd.underlying56 (by kernel_rfl) A A2 b.length c (tkN b) q1 hA2e.symm
  rw [hA2e, show b.drop (tkN b) = r1 b from rfl] at hA2
  have l1 : (r1 b).length = b.length - tkN b := by unfold r1; rw [List.length_drop]
  have l2 : (r2 b).length = b.length - tkN b - tkN (r1 b) := by unfold r2; rw [List.length_drop, l1]
  rw [← l1] at hcut1
  have ct2 := take_any (c - tkN b) hA2 (by omega)
  have p1 := tk_le (r1 b)
  by_cases g3 : tkE (r1 b) = 0
  rotate_left
  · have hE5 : tkE (r1 b) ≤ 5 := by rcases tk_err (l := r1 b) with g | g | g <;> omega
    have hEb : ((tkE (r1 b) : Int) != 0) = true := by simp; omega
    obtain ⟨X1, hX1⟩ : ∃ x, tkX b = x := ⟨_, rfl⟩
    obtain ⟨N1, hN1⟩ : ∃ x, tkN b = x := ⟨_, rfl⟩
    obtain ⟨R, hR⟩ : ∃ x, r1 b = x := ⟨_, rfl⟩
    rw [hX1, hN1] at ct1
    rw [hX1] at g2 hx
    rw [hR] at ct2 hcut1 hE5 hEb p1 l1
    rw [hN1] at hcut1 ct2 q1 l1
    obtain ⟨X2, hX2⟩ : ∃ x, tkX R = x := ⟨_, rfl⟩
    obtain ⟨N2, hN2⟩ : ∃ x, tkN R = x := ⟨_, rfl⟩
    obtain ⟨E2, hE2⟩ : ∃ x, tkE R = x := ⟨_, rfl⟩
    rw [hX2, hN2, hE2] at ct2
    rw [hN2] at p1
    rw [hE2] at hE5 hEb
    have hN12 : N1 + N2 ≤ b.length := by omega
    clear hX1 hN1 hR hX2 hN2 hE2 g1 g3 hno ht hA h z0 l1 l2 hA2 hA2e q1 p1
    go_enter Tryd.func41, Tryd.ntmps41
    go_wp2_with (first
      | (go_at_call 56; with_reducible refine ct1.mono ?_; rintro e w1 ⟨rfl, rfl⟩)
      | (go_at_call 56; with_reducible refine ct2.mono ?_; rintro e w1 ⟨rfl, rfl⟩))
    exact bodyPost_ret (v := .tuple #[.agg #[.int .i64 0, .int .i64 0, .int .u64 0, .string ⟨#[]⟩], .int .i64 0, .bool false]) (by simp [results, Tryd.results41, go_sem]) rfl ⟨⟨0, 0, 0, 0, ⟨#[]⟩, rfl⟩, (Below.refl _ _).alloc (Nat.le_refl _) _⟩
  by_cases g4 : tkX (r1 b) ≤ (r2 b).length
  rotate_left
  · have p5 := (tk_ok g3).2.2.2.2
    rw [g3, z0] at ct2
    obtain ⟨X1, hX1⟩ : ∃ x, tkX b = x := ⟨_, rfl⟩
    obtain ⟨N1, hN1⟩ : ∃ x, tkN b = x := ⟨_, rfl⟩
    obtain ⟨R, hR⟩ : ∃ x, r1 b = x := ⟨_, rfl⟩
    rw [hX1, hN1] at ct1
    rw [hX1] at g2 hx
    rw [hR] at ct2 hcut1 g4 p1 l1 l2 p5
    rw [hN1] at hcut1 ct2 q1 l1 l2
    obtain ⟨X2, hX2⟩ : ∃ x, tkX R = x := ⟨_, rfl⟩
    obtain ⟨N2, hN2⟩ : ∃ x, tkN R = x := ⟨_, rfl⟩
    rw [hX2, hN2] at ct2
    rw [hN2] at p1 l2
    rw [hX2] at g4 p5
    have hN12 : N1 + N2 ≤ b.length := by omega
    have hgt : b.length - (N1 + N2) < X2 := by omega
    have hgtz : (b.length : Int) - ((N1 : Int) + (N2 : Int)) < (X2 : Int) := by omega
    clear hX1 hN1 hR hX2 hN2 g1 g3 g4 hno ht hA h z0 l1 l2 hA2 hA2e q1 p1
    go_enter Tryd.func41, Tryd.ntmps41
    go_wp2_with (first
      | (go_at_call 56; with_reducible refine ct1.mono ?_; rintro e w1 ⟨rfl, rfl⟩)
      | (go_at_call 56; with_reducible refine ct2.mono ?_; rintro e w1 ⟨rfl, rfl⟩))
    exact bodyPost_ret (v := .tuple #[.agg #[.int .i64 0, .int .i64 0, .int .u64 0, .string ⟨#[]⟩], .int .i64 0, .bool false]) (by simp [results, Tryd.results41, go_sem]) rfl ⟨⟨0, 0, 0, 0, ⟨#[]⟩, rfl⟩, (Below.refl _ _).alloc (Nat.le_refl _) _⟩
  have hO : tvO ((tkX b : Int) % 8) ((r2 b).take (tkX (r1 b))) = false := by
    rcases hno with g | g | g | g | g
    · exact absurd g1 g
    · exact absurd g2 g
    · exact absurd g3 g
    · exact absurd g4 g
    · exact g
  exact (tfld_core h c hA hm hc g1 g2 g3 g4 _ rfl false hO _ rfl _ rfl).mono fun _ _ ⟨he, hb⟩ => ⟨⟨_, _, _, _, _, he⟩, hb⟩
end Go.Proofs.YtnflbnchkcigiaaDoor
/- The walk of Decode; lists of fields in memory of the call's own. -/
namespace Go.Proofs.YtnflbnchkcigiaaDoor
open Go.RowKit
open Go.Lib (byteCells uvarint)

/-- the cells of a list of fields -/
def fcs (l : List Fd) : List Value := l.flatMap fun f => (ffC f).toList
theorem fcs_snoc (l : List Fd) (f : Fd) : fcs (l ++ [f]) = fcs l ++ (ffC f).toList := by unfold fcs; rw [List.flatMap_append]; simp
theorem fcs_len (l : List Fd) : (fcs l).length = l.length * 4 := by
  induction l with
  | nil => rfl
  | cons f r ih =>
    have : fcs (f :: r) = (ffC f).toList ++ fcs r := rfl
    rw [this, List.length_append, ih, List.length_cons]
    show 4 + r.length * 4 = _
    omega
theorem fcs_get : ∀ (l : List Fd) (i : Nat) (f : Fd) (k : Nat), l[i]? = some f → k < 4 → (fcs l)[i * 4 + k]? = (ffC f)[k]?
  | [], i, f, k, h, _ => by simp at h
  | x :: r, 0, f, k, h, hk => by
    simp at h
    subst h
    have : fcs (x :: r) = (ffC x).toList ++ fcs r := rfl
    rw [this, Nat.zero_mul, Nat.zero_add, List.getElem?_append_left (by simpa [ffC] using hk), Array.getElem?_toList]
  | x :: r, i + 1, f, k, h, hk => by
    have e : fcs (x :: r) = (ffC x).toList ++ fcs r := rfl
    have e4 : (ffC x).toList.length = 4 := rfl
    rw [e, List.getElem?_append_right (by rw [e4]; omega), e4, show (i + 1) * 4 + k - 4 = i * 4 + k by omega]
    exact fcs_get r i f k (by simpa using h) hk

/-- the slice is a row of the call's own: the fields l -/
def OwnF (w : World) (base : Nat) (A : Option Addr) (c : Nat) (l : List Fd) : Prop := w.ownsRow base 53 4 (.slice A l.length c) l.length (fcs l)
theorem OwnF.nil (w : World) (base : Nat) : OwnF w base none 0 [] := World.ownsRow_nil w base _ 4
theorem OwnF.then_ {w w' : World} {base : Nat} {A : Option Addr} {c : Nat} {l : List Fd} (h : OwnF w base A c l) (hb : Below w.heap.size w w') : OwnF w' base A c l := own_then h hb
theorem OwnF.lt {w : World} {base : Nat} {A : Option Addr} {c : Nat} {l : List Fd} (h : OwnF w base A c l) : ∀ k, (Value.slice A l.length c).ownBlock = some k → base ≤ k ∧ k < w.heap.size := World.ownsRow.lt h
theorem OwnF.reads {w : World} {base : Nat} {A : Option Addr} {c : Nat} {l : List Fd} (h : OwnF w base A c l) : FRow w w.heap.size A l := by
  rcases h.2 with ⟨hv, h0⟩ | ⟨g, cap, cur, hv, hb, hg, rest⟩
  · exact .inl (List.eq_nil_of_length_eq_zero h0)
  · injection hv with h1 h2 h3
    subst h1
    refine .inr ⟨g, 0, rfl, (Array.getElem?_eq_some_iff.1 hg).1, fun i f hf => ?_⟩
    have hc := World.ownsRow.cells h (g := g) rfl
    have q : ∀ k, k < 4 → ∀ v, (ffC f)[k]? = some v → w.cell? ⟨g, i * 4 + k, none⟩ = some v := fun k hk v hv => by
      have := hc (i * 4 + k) v ((fcs_get l i f k hf hk).trans hv)
      rwa [Addr.add_lit, Nat.zero_add] at this
    rw [Nat.zero_add]
    exact ⟨q 0 (by omega) _ rfl, q 1 (by omega) _ rfl, q 2 (by omega) _ rfl, q 3 (by omega) _ rfl⟩
theorem OwnF.room {w : World} {base : Nat} {A : Option Addr} {c : Nat} {l : List Fd} (h : OwnF w base A c l) : l.length ≤ c := by
  rcases h.2 with ⟨hv, h0⟩ | ⟨g, cap, cur, hv, hb, hg, hn, rest⟩
  · omega
  · injection hv with h1 h2 h3
    omega

theorem infoF : (Tryd.prog.info? 53).map (fun i => (i.zero, i.size, i.bytes)) = some (some (.agg #[.int .i64 0, .int .i64 0, .int .u64 0, .string ⟨#[]⟩]), 4, 40) := by kernel_rfl
theorem info_f : ∃ i, Tryd.prog.info? 53 = some i ∧ i.zero = some (.agg #[.int .i64 0, .int .i64 0, .int .u64 0, .string ⟨#[]⟩]) ∧ i.size = 4 ∧ i.bytes = 40 := by
  have h := infoF
  cases hq : Tryd.prog.info? 53 with
  | none => simp [hq] at h
  | some i =>
    simp [hq] at h
    exact ⟨i, rfl, h.1, h.2.1, h.2.2⟩

/-- one field more, out of a list that was just laid -/
theorem run_app_fld {w : World} {base : Nat} {A : Option Addr} {c : Nat} {l : List Fd} (ho : OwnF w base A c l) (f : Fd) (r : List Fd) (hr : r = l ++ [f]) (hm : r.length ≤ 1000000000) (hbase : base ≤ w.heap.size) :
    ∃ A' c' w', (Builtin.append_ #[39, 39] 39 #[.slice A l.length c, .slice (some ⟨w.heap.size, 0, none⟩) 1 1]).run Tryd.prog (w.alloc (.cells (ffC f) 53)) = .ok (.slice A' r.length c') w' ∧ OwnF w' base A' c' r ∧ Below base w w' ∧
      ∀ k o, k < w.heap.size → (∀ g, (Value.slice A l.length c).ownBlock = some g → g ≠ k) → w'.cell? ⟨k, o, none⟩ = w.cell? ⟨k, o, none⟩ := by
  obtain ⟨i0, hi, hz0, hz1, hz2⟩ := info_f
  have hl : r.length = l.length + 1 := by rw [hr, List.length_append]; rfl
  have hBa : Below w.heap.size w (w.alloc (.cells (ffC f) 53)) := (Below.refl _ _).alloc (Nat.le_refl _) _
  have hs : (w.alloc (.cells (ffC f) 53)).heap.size = w.heap.size + 1 := by simp
  obtain ⟨v', w', hr', hown, hg, _, _⟩ := run_append_own_at (P := Tryd.prog) (w.alloc (.cells (ffC f) 53)) base 39 39 53 i0 _ 4 40 Tryd.underlying39 hi hz0 hz1 hz2 rfl (by decide) _ l.length (fcs l) (ho.then_ hBa) ⟨w.heap.size, 0, none⟩ 1 1 (ffC f).toList
    rfl (fun j u hu => by rw [Addr.add_lit, Nat.zero_add, cell_of_row _ w.heap.size _ (ffC f) 53 (0, 0) (heap_alloc_new w _), ← Array.getElem?_toList]; exact hu)
    (by intro u hu; simp [ffC] at hu; rcases hu with rfl | rfl | rfl | rfl <;> rfl) (by simp only [maxLen]; omega) (by omega) (by omega)
  rw [← fcs_snoc, ← hr, ← hl] at hown
  have hB : Below base w w' := ((Below.refl base w).alloc hbase _).grown hg (by omega) fun k hk => (ho.lt k hk).1
  rcases hown.2 with ⟨rfl, h0⟩ | ⟨g, cap, cur, rfl, rest⟩
  · omega
  · refine ⟨some ⟨g, 0, none⟩, cap, w', hr', hown, hB, fun k o hk hne => World.cell?_of_block (a := ⟨k, o, none⟩) ?_⟩
    exact (hg.block k (by omega) fun e => hne k e.symm rfl).trans (heap_alloc_old w _ hk)

theorem tkFld_size {b : List UInt8} {f : Fd} {n : Nat} (h : tkFld b = some (f, n)) : f.v.s.size ≤ b.length := by
  unfold tkFld at h
  by_cases hc : tkE b = 0 ∧ tkX b / 8 ≤ 65535 ∧ tkE (r1 b) = 0 ∧ tkX (r1 b) ≤ (r2 b).length
  · rw [if_pos hc] at h
    obtain ⟨v, hv, he⟩ := Option.map_eq_some_iff.1 h
    simp only [Prod.mk.injEq] at he
    rw [← he.1]
    show v.s.size ≤ _
    have hr : (r2 b).length ≤ b.length := by unfold r2 r1; rw [List.length_drop, List.length_drop]; omega
    unfold tkVal at hv
    split at hv
    · split at hv
      · rw [← Option.some.inj hv]; exact Nat.zero_le _
      · cases hv
    · rw [← Option.some.inj hv]
      show (List.take (tkX (r1 b)) (r2 b)).length ≤ _
      rw [List.length_take]; omega
  · rw [if_neg hc] at h; cases h

/-- what Decode answers -/
def NewDec (w : World) (b : List UInt8) (e : Ending) (w' : World) : Prop :=
  ∃ A' c', e = .returned (.tuple #[.slice A' (dre b).length c', .int .i64 (der b)]) ∧ OwnF w' w.heap.size A' c' (dre b) ∧ Below w.heap.size w w'
theorem new_dec_bad {w w' : World} {b : List UInt8} {a : Int} (h : der b = a ∧ dre b = []) (hb : Below w.heap.size w w') : NewDec w b (.returned (.tuple #[.slice none 0 0, .int .i64 a])) w' := by
  unfold NewDec; rw [h.1, h.2]; exact ⟨none, 0, rfl, OwnF.nil _ _, hb⟩
theorem new_dec_ok {w w' : World} {b : List UInt8} {r : List Fd} {A : Option Addr} {c : Nat} (h : der b = 0 ∧ dre b = r) (ho : OwnF w' w.heap.size A c r) (hb : Below w.heap.size w w') : NewDec w b (.returned (.tuple #[.slice A r.length c, .int .i64 0])) w' := by
  unfold NewDec; rw [h.1, h.2]; exact ⟨A, c, rfl, ho, hb⟩

/-- how long a slice is -/
def slen : Value → Nat
  | .slice _ n _ => n
  | _ => 0

set_option maxRecDepth 100000 in
set_option maxHeartbeats 4000000 in
theorem decode_any {w0 w : World} (h : KSt w0 w) {A : Option Addr} {b : List UInt8} (c : Nat) (hA : Byt w w.heap.size A b) (hc : b.length ≤ c) (hm : b.length ≤ 140737488355328) :
    Calls Tryd.prog 23 #[.slice A b.length c] w (NewDec w b) := by
  by_cases hlong : 16777215 < b.length
  · have hd := Lib.hid (der_long hlong)
    go_enter Tryd.func23, Tryd.ntmps23
    go_wp2
    go_ret2
    exact new_dec_bad hd.out (Below.refl _ _)
  have H0 := Lib.hid h.self
  have HA := Lib.hid hA
  clear h hA
  go_enter Tryd.func23, Tryd.ntmps23
  go_wp2
  go_loopw [0, 4, 5] (fun bs rs la wr => ∃ (cur : List UInt8) (A1 A2 : Option Addr) (c1 c2 : Nat) (rec : List Fd) (m : Int), bs = .slice A1 cur.length c1 ∧ rs = .slice A2 rec.length c2 ∧ la = .int .i64 m ∧ Below w.heap.size w wr ∧ cur.length ≤ c1 ∧ cur.length ≤ b.length ∧
    Hid (Byt w w.heap.size A1 cur) ∧ Hid (b = enc rec ++ cur) ∧ Hid (Is 0 rec) ∧ Hid (m = lastOf 0 rec) ∧ Hid (OwnF wr w.heap.size A2 c2 rec)) (fun bs _ _ _ => slen bs)
  case atStart => exact ⟨b, A, none, c, 0, [], 0, rfl, rfl, rfl, Below.refl _ _, hc, Nat.le_refl _, HA.out, rfl, trivial, rfl, OwnF.nil _ _⟩
  case round =>
    obtain ⟨cur, A1, A2, c1, c2, rec, m, rfl, rfl, rfl, hB, hc1, hcb, HC, HE, HI, HM, HO⟩ := hrel
    clear HA hc
    by_cases h0 : 0 < cur.length
    · have hne : cur ≠ [] := fun e => by rw [e] at h0; simp at h0
      have hK : KSt w wr := H0.out.then_ hB
      have hcw : Byt wr wr.heap.size A1 cur := (HC.out.below hB).more hB.size
      have hcm : cur.length ≤ 140737488355328 := by omega
      cases ht : tkFld cur with
      | none =>
        have ct := tfld_bad hK.k c1 hcw hcm hc1 ht
        have hd := Lib.hid (der_bad (by omega) (dec_stop HI.out HE.out (by omega) hne (fun f n q => by rw [ht] at q; cases q)))
        clear ht hne hcw hK
        go_wp2_with (go_at_call 41; refine ct.mono ?_; rintro e w1 ⟨⟨t, k, n, y, s, rfl⟩, hb1⟩)
        go_ret2
        exact new_dec_bad hd.out ((hB.trans (hb1.mono hB.size)).alloc (by have := hB.size; have := hb1.size; omega) _)
      | some fn =>
        obtain ⟨f, n⟩ := fn
        obtain ⟨hfit, hnf, hsplit, hn1, hnl⟩ := tkFld_ok ht
        clear hnf
        have hsz := tkFld_size ht
        have ct := tfld_any hK.k c1 hcw hcm hc1 ht
        have cc := fun {W : World} (q : KSt w W) => can_any q f m hfit (by omega)
        by_cases hcan : canF f m = true
        · obtain ⟨s1, s2⟩ := dec_step HI.out HE.out ht (by rw [← HM.out]; exact hcan)
          obtain ⟨A3, hA3⟩ : ∃ A3, (if c1 = n then A1 else A1.map (·.add n)) = A3 := ⟨_, rfl⟩
          have hcut := run_cut_l (P := Tryd.prog) Tryd.underlying56 (by kernel_rfl) A1 A3 cur.length c1 n hnl hA3.symm
          have hC3 := HC.out.drop (k := n) (cap := c1) hc1 hnl
          rw [hA3] at hC3
          obtain ⟨d, hd⟩ : ∃ d, d = cur.drop n := ⟨_, rfl⟩
          have hdl : d.length = cur.length - n := by rw [hd, List.length_drop]
          rw [← hdl] at hcut
          have HDL := Lib.hid hdl
          rw [← hd] at hC3 s2
          obtain ⟨r, hr⟩ : ∃ r, r = rec ++ [f] := ⟨_, rfl⟩
          have hrl : r.length ≤ 65535 := by rw [hr]; exact is_few s1
          have hlast : f.t = lastOf 0 r := by rw [hr, last_snoc]
          rw [← hr] at s1 s2
          have hwf := fun (W : World) (ho : OwnF W w.heap.size A2 c2 rec) (hb : w.heap.size ≤ W.heap.size) => run_app_fld ho f r hr (by omega) hb
          simp only [hcan] at cc
          have HS := Lib.hid (And.intro s1 (And.intro s2 (And.intro hlast hC3)))
          have HWF := Lib.hid hwf
          clear s1 s2 hlast hC3 hsplit hd hA3 hdl hcan ht hfit hsz hcw hne hr hwf
          obtain ⟨t, v⟩ := f
          obtain ⟨k, nn, s⟩ := v
          unfold ffC at ct cc
          dsimp only at ct cc
          go_wp2_with (go_at_call 41; refine ct.mono ?_; rintro e w1 ⟨rfl, hb1⟩)
          have hB1 : Below w.heap.size w w1 := hB.trans (hb1.mono hB.size)
          have hbs := hB.size
          have hbs1 := hb1.size
          refine (cc ((hK.then_ hb1).new _)).mono ?_
          rintro e w3 ⟨rfl, hb3⟩
          obtain ⟨hc3, _⟩ := Below.cells hb3
          have hz3 : w1.heap.size < w3.heap.size := by have := hb3.size; simp at this; omega
          have ho3 : OwnF w3 w.heap.size A2 c2 rec := ((HO.out.then_ hb1).then_ ((Below.refl _ _).alloc (Nat.le_refl _) _)).then_ hb3
          obtain ⟨A4, c4, w4, hr4, ho4, hb4, hk4⟩ := HWF.out w3 ho3 (by omega)
          have hbx : w4.cell? ⟨w1.heap.size, 0, none⟩ = some (.int .i64 t) := by
            rw [hk4 _ 0 hz3 (fun g hg => by have := HO.out.lt g hg; omega), (Below.cells hb3).1 _ 0 (by simp)]
            exact cell_of_row (w1.alloc (.cells #[.int .i64 t, .int .i64 k, .int .u64 nn, .string s] 53)) w1.heap.size 0 _ _ (0, 0) (heap_alloc_new w1 _)
          have hB3 : Below w.heap.size w w3 := (hB1.alloc hB1.size _).trans (hb3.mono (by simp; omega))
          have HR4 := Lib.hid hr4
          have HO4 := Lib.hid ho4
          have HB4 := Lib.hid (hB3.trans hb4)
          clear hr4 ho4 hb4 hk4 ho3
          go_wp2_with (at_builtin; refine wpList_append_run rfl (.tmp 29) (.tmp 31) _ rfl rfl rfl HR4.out ?_)
          go_roundw
          case rel => exact ⟨d, A3, A4, c1 - n, c4, r, t, rfl, rfl, rfl, HB4.out, by have := HDL.out; omega, by have := HDL.out; omega, HS.out.2.2.2, HS.out.2.1, HS.out.1, HS.out.2.2.1, HO4.out⟩
          case measure => have := HDL.out; simp [slen]; omega
        · have hd := Lib.hid (der_bad (by omega) (dec_stop HI.out HE.out (by omega) hne (fun f' n' q => by
            rw [ht] at q
            obtain ⟨rfl, rfl⟩ := Prod.mk.inj (Option.some.inj q)
            rw [← HM.out]; simpa using hcan)))
          have hcan' : canF f m = false := by simpa using hcan
          simp only [hcan'] at cc
          clear hsplit hcan hcan' ht hfit hsz hcw hne
          obtain ⟨t, v⟩ := f
          obtain ⟨k, nn, s⟩ := v
          unfold ffC at ct cc
          dsimp only at ct cc
          go_wp2_with (first
            | (go_at_call 41; refine ct.mono ?_; rintro e w1 ⟨rfl, hb1⟩)
            | (go_at_call 42; refine (cc ((hK.then_ hb1).new _)).mono ?_; rintro e w3 ⟨rfl, hb3⟩))
          go_ret2
          exact new_dec_bad hd.out ((hB.trans (hb1.mono hB.size)).trans (((Below.refl _ _).alloc (Nat.le_refl _) _).trans (hb3.mono (by simp)) |>.mono (by have := hB.size; have := hb1.size; omega)))
    · obtain rfl : cur = [] := List.eq_nil_of_length_eq_zero (by omega)
      have hd := Lib.hid (der_ok (b := b) (by omega) HI.out (by have := HE.out; rw [List.append_nil] at this; exact this.symm))
      go_wp2
      go_ret2
      exact new_dec_ok hd.out HO.out hB
end Go.Proofs.YtnflbnchkcigiaaDoor
