/- The walks of takeValue, takeField. -/
import Derived.Test.YthekbefbhjllnaaDoorTlvCheck
import Derived.Test.YthekbefbhjllnaaDoorVarTake
import Derived.Test.YthekbefbhjllnaaDoorBytCut
namespace Go.Proofs.YthekbefbhjllnaaDoor
open Go.RowKit
open Go.Lib (byteCells uvarint)

/-- the zero value; what takeValue answers -/
def zeroV : Val := ⟨0, 0, ⟨#[]⟩⟩
def tvV (k : Int) (p : List UInt8) : Val := (tkVal k p).getD zeroV
def tvO (k : Int) (p : List UInt8) : Bool := (tkVal k p).isSome
theorem tv_text (k : Int) (p : List UInt8) (h : isNum k = false) : tvV k p = ⟨k, 0, str p⟩ ∧ tvO k p = true := by
  unfold tvV tvO tkVal
  rw [if_neg (by simp [h])]
  exact ⟨rfl, rfl⟩
theorem tv_num (k : Int) (p : List UInt8) (h : isNum k = true) (h1 : tkE p = 0) (h2 : tkN p = p.length) : tvV k p = ⟨k, if k = 2 then uns (zag (tkX p : Int)) else (tkX p : Int), ⟨#[]⟩⟩ ∧ tvO k p = true := by
  unfold tvV tvO tkVal
  rw [if_pos h, if_pos ⟨h1, h2⟩]
  exact ⟨rfl, rfl⟩
theorem tv_none (k : Int) (p : List UInt8) (h : isNum k = true) (h1 : ¬ (tkE p = 0 ∧ tkN p = p.length)) : tvV k p = zeroV ∧ tvO k p = false := by
  unfold tvV tvO tkVal
  rw [if_pos h, if_neg h1]
  exact ⟨rfl, rfl⟩
theorem wrap_uns {z : Int} (h0 : -9223372036854775808 ≤ z) (h1 : z ≤ 9223372036854775807) : IntKind.u64.wrap z = uns z := by
  unfold uns
  simp [IntKind.wrap, IntKind.bits, IntKind.signed]
  split <;> omega
theorem tkN_le (l : List UInt8) : tkN l ≤ l.length := tk_le l

theorem ret_v {v u : Val} {a b : Bool} (h : v = u) (g : a = b) : Ending.returned (.tuple #[.agg #[.int .i64 v.k, .int .u64 v.n, .string v.s], .bool a]) = .returned (.tuple #[.agg (vvC u), .bool b]) := by rw [h, g]; rfl

set_option maxRecDepth 100000 in
set_option maxHeartbeats 1000000 in
theorem tval_any {w : World} (h : KVars w) {A : Option Addr} {p : List UInt8} (c : Nat) (hA : Byt w w.heap.size A p) (hm : p.length ≤ 140737488355328) (k : Int) :
    Calls Tryd.prog 55 #[.int .i64 k, .slice A p.length c] w fun e w' => e = .returned (.tuple #[.agg (vvC (tvV k p)), .bool (tvO k p)]) ∧ Below w.heap.size w w' := by
  have hBw : Below w.heap.size w (w.alloc (.cells #[.int .i64 0, .int .u64 0, .string ⟨#[]⟩] 39)) := (Below.refl _ _).alloc (Nat.le_refl _) _
  have hA1 := hA.then_ hBw
  have hk1 := h.below hBw
  have ci := isnum_any hk1 k
  have ct := take_any c hA1 hm
  have htx := tv_text k p
  have htn := tv_num k p
  have hto := tv_none k p
  obtain ⟨X, hX⟩ : ∃ X, tkX p = X := ⟨_, rfl⟩
  obtain ⟨N, hN⟩ : ∃ N, tkN p = N := ⟨_, rfl⟩
  obtain ⟨E, hE⟩ : ∃ E, tkE p = E := ⟨_, rfl⟩
  have hN1 := tkN_le p
  have hX1 : E = 0 → X ≤ 18446744073709551615 := fun q => by have := (tk_ok (hE.trans q)).2.2.2.2; omega
  have hE5 : E ≤ 5 := by rcases tk_err (l := p) with g | g | g <;> omega
  have hrs := run_str (P := Tryd.prog) hA1 28 5 9 Tryd.underlying28 Tryd.underlying5 Tryd.underlying9 c
  rw [hX, hN, hE] at ct
  rw [hX, hN, hE] at htn
  rw [hN, hE] at hto
  rw [hN] at hN1
  obtain ⟨TV, hTV⟩ : ∃ v, tvV k p = v := ⟨_, rfl⟩
  obtain ⟨TO, hTO⟩ : ∃ v, tvO k p = v := ⟨_, rfl⟩
  simp only [hTV, hTO] at htx htn hto ⊢
  clear hTV hTO hX hN hE hA hA1 h
  by_cases hk : isNum k = true
  · rw [hk] at ci
    by_cases hc : E = 0 ∧ N = p.length
    · obtain ⟨hE0, hNp⟩ := hc
      have htv := htn hk hE0 hNp
      have hX2 := hX1 hE0
      subst hE0
      have hNb : ((N : Int) != (p.length : Int)) = false := by rw [hNp]; simp
      clear htx htn hto hX1 hE5 hNp hrs hN1
      by_cases h2 : k = 2
      · subst h2
        rw [if_pos rfl] at htv
        have hzr := zag_range (y := (X : Int)) (by omega) (by omega)
        have hwu := wrap_uns hzr.1 hzr.2
        have cz := fun W => zag_any X W hX2
        obtain ⟨Z, hZ⟩ : ∃ Z, zag (X : Int) = Z := ⟨_, rfl⟩
        rw [hZ] at hwu hzr
        simp only [hZ] at cz htv
        obtain ⟨U, hU⟩ : ∃ U, uns Z = U := ⟨_, rfl⟩
        rw [hU] at hwu htv
        have HT := Lib.hid htv
        clear htv hU hZ hk hzr
        go_enter Tryd.func55, Tryd.ntmps55
        go_wp2_with (first
          | (go_at_call 51; refine ci.mono ?_; rintro e w1 ⟨rfl, rfl⟩)
          | (go_at_call 54; refine ct.mono ?_; rintro e w1 ⟨rfl, rfl⟩)
          | (go_at_call 26; refine (int_any hk1).mono ?_; rintro e w1 ⟨rfl, rfl⟩)
          | (go_at_call 60; refine (cz _).mono ?_; rintro e w1 ⟨rfl, rfl⟩))
        have e := HT.out
        exact bodyPost_ret (v := .tuple #[.agg #[.int .i64 2, .int .u64 U, .string ⟨#[]⟩], .bool true]) (by simp [results, Tryd.results55, go_sem]) rfl ⟨ret_v e.1.symm e.2.symm, (Below.refl _ _).alloc (Nat.le_refl _) _⟩
      · rw [if_neg h2] at htv
        have q2 : (k == 2) = false := by simpa using h2
        have HT := Lib.hid htv
        clear htv hk h2
        go_enter Tryd.func55, Tryd.ntmps55
        go_wp2_with (first
          | (go_at_call 51; refine ci.mono ?_; rintro e w1 ⟨rfl, rfl⟩)
          | (go_at_call 54; refine ct.mono ?_; rintro e w1 ⟨rfl, rfl⟩)
          | (go_at_call 26; refine (int_any hk1).mono ?_; rintro e w1 ⟨rfl, rfl⟩))
        have e := HT.out
        exact bodyPost_ret (v := .tuple #[.agg #[.int .i64 k, .int .u64 X, .string ⟨#[]⟩], .bool true]) (by simp [results, Tryd.results55, go_sem]) rfl ⟨ret_v e.1.symm e.2.symm, (Below.refl _ _).alloc (Nat.le_refl _) _⟩
    · have HT := Lib.hid (hto hk hc)
      clear htx htn hto hrs hX1 hk
      by_cases hE0 : E = 0
      · have hNp : ((N : Int) != (p.length : Int)) = true := by simp; omega
        subst hE0
        clear hc
        go_enter Tryd.func55, Tryd.ntmps55
        go_wp2_with (first
          | (go_at_call 51; refine ci.mono ?_; rintro e w1 ⟨rfl, rfl⟩)
          | (go_at_call 54; refine ct.mono ?_; rintro e w1 ⟨rfl, rfl⟩))
        have e := HT.out
        exact bodyPost_ret (v := .tuple #[.agg #[.int .i64 0, .int .u64 0, .string ⟨#[]⟩], .bool false]) (by simp [results, Tryd.results55, go_sem]) rfl ⟨ret_v e.1.symm e.2.symm, (Below.refl _ _).alloc (Nat.le_refl _) _⟩
      · have hEb : ((E : Int) != 0) = true := by simp; omega
        clear hc hE0
        go_enter Tryd.func55, Tryd.ntmps55
        go_wp2_with (first
          | (go_at_call 51; refine ci.mono ?_; rintro e w1 ⟨rfl, rfl⟩)
          | (go_at_call 54; refine ct.mono ?_; rintro e w1 ⟨rfl, rfl⟩))
        have e := HT.out
        exact bodyPost_ret (v := .tuple #[.agg #[.int .i64 0, .int .u64 0, .string ⟨#[]⟩], .bool false]) (by simp [results, Tryd.results55, go_sem]) rfl ⟨ret_v e.1.symm e.2.symm, (Below.refl _ _).alloc (Nat.le_refl _) _⟩
  · have hk' : isNum k = false := by simpa using hk
    have HT := Lib.hid (htx hk')
    rw [hk'] at ci
    clear htx htn hto hk hk' hX1
    go_enter Tryd.func55, Tryd.ntmps55
    go_wp2_with (go_at_call 51; refine ci.mono ?_; rintro e w1 ⟨rfl, rfl⟩)
    have e := HT.out
    exact bodyPost_ret (v := .tuple #[.agg #[.int .i64 k, .int .u64 0, .string (str p)], .bool true]) (by simp [results, Tryd.results55, go_sem]) rfl ⟨ret_v e.1.symm e.2.symm, (Below.refl _ _).alloc (Nat.le_refl _) _⟩

/-- what takeField answers where there is none -/
def NoFld (w : World) (e : Ending) (w' : World) : Prop := (∃ (t k n m : Int) (s : ByteArray), e = .returned (.tuple #[.agg #[.int .i64 t, .int .i64 k, .int .u64 n, .string s], .int .i64 m, .bool false])) ∧ Below w.heap.size w w'

theorem ret_f {t u n m : Int} {x y z : Value} {o : Bool} (h : t = u) (k : n = m) : Ending.returned (.tuple #[.agg #[.int .i64 t, x, y, z], .int .i64 n, .bool o]) = .returned (.tuple #[.agg #[.int .i64 u, x, y, z], .int .i64 m, .bool o]) := by
  subst h k; rfl

/-- the field is there -/
theorem tkFld_parts {b : List UInt8} {f : Fd} {n : Nat} (h : tkFld b = some (f, n)) : tkE b = 0 ∧ tkX b / 8 ≤ 65535 ∧ tkE (r1 b) = 0 ∧ tkX (r1 b) ≤ (r2 b).length ∧
    tvO ((tkX b : Int) % 8) ((r2 b).take (tkX (r1 b))) = true ∧ f.v = tvV ((tkX b : Int) % 8) ((r2 b).take (tkX (r1 b))) ∧ f.t = (tkX b : Int) / 8 ∧ n = tkN b + tkN (r1 b) + tkX (r1 b) := by
  unfold tkFld at h
  by_cases hc : tkE b = 0 ∧ tkX b / 8 ≤ 65535 ∧ tkE (r1 b) = 0 ∧ tkX (r1 b) ≤ (r2 b).length
  · rw [if_pos hc] at h
    obtain ⟨v, hv, he⟩ := Option.map_eq_some_iff.1 h
    simp only [Prod.mk.injEq] at he
    obtain ⟨hf, hn⟩ := he
    have e : ((tkX b : Nat) : Int) % 8 = ((tkX b % 8 : Nat) : Int) := by omega
    refine ⟨hc.1, hc.2.1, hc.2.2.1, hc.2.2.2, ?_, ?_, ?_, hn.symm⟩
    · unfold tvO; rw [e, hv]; rfl
    · unfold tvV; rw [e, hv, ← hf]; rfl
    · rw [← hf]; dsimp only; omega
  · rw [if_neg hc] at h; simp at h
theorem tkFld_no {b : List UInt8} (h : tkFld b = none) : ¬ (tkE b = 0) ∨ ¬ (tkX b / 8 ≤ 65535) ∨ ¬ (tkE (r1 b) = 0) ∨ ¬ (tkX (r1 b) ≤ (r2 b).length) ∨ tvO ((tkX b : Int) % 8) ((r2 b).take (tkX (r1 b))) = false := by
  unfold tkFld at h
  by_cases hc : tkE b = 0 ∧ tkX b / 8 ≤ 65535 ∧ tkE (r1 b) = 0 ∧ tkX (r1 b) ≤ (r2 b).length
  · rw [if_pos hc, Option.map_eq_none_iff] at h
    have e : ((tkX b : Nat) : Int) % 8 = ((tkX b % 8 : Nat) : Int) := by omega
    right; right; right; right
    unfold tvO; rw [e, h]; rfl
  · by_cases h1 : tkE b = 0
    · by_cases h2 : tkX b / 8 ≤ 65535
      · by_cases h3 : tkE (r1 b) = 0
        · by_cases h4 : tkX (r1 b) ≤ (r2 b).length
          · exact absurd ⟨h1, h2, h3, h4⟩ hc
          · exact .inr (.inr (.inr (.inl h4)))
        · exact .inr (.inr (.inl h3))
      · exact .inr (.inl h2)
    · exact .inl h1

set_option maxRecDepth 100000 in
set_option maxHeartbeats 2000000 in
theorem tfld_core {w : World} (h : KVars w) {A : Option Addr} {b : List UInt8} (c : Nat) (hA : Byt w w.heap.size A b) (hm : b.length ≤ 140737488355328) (hc : b.length ≤ c)
    (g1 : tkE b = 0) (g2 : tkX b / 8 ≤ 65535) (g3 : tkE (r1 b) = 0) (g4 : tkX (r1 b) ≤ (r2 b).length) (V : Val) (hV : tvV ((tkX b : Int) % 8) ((r2 b).take (tkX (r1 b))) = V) (O : Bool) (hO : tvO ((tkX b : Int) % 8) ((r2 b).take (tkX (r1 b))) = O)
    (n : Nat) (hn : n = tkN b + tkN (r1 b) + tkX (r1 b)) (t : Int) (htg : t = (tkX b : Int) / 8) :
    Calls Tryd.prog 40 #[.slice A b.length c] w fun e w' => e = .returned (.tuple #[.agg #[.int .i64 t, .int .i64 V.k, .int .u64 V.n, .string V.s], .int .i64 n, .bool O]) ∧ Below w.heap.size w w' := by
  have hBw : Below w.heap.size w (w.alloc (.cells #[.int .i64 0, .int .i64 0, .int .u64 0, .string ⟨#[]⟩] 41)) := (Below.refl _ _).alloc (Nat.le_refl _) _
  have hA1 := hA.then_ hBw
  have hk1 := h.below hBw
  have ct1 := take_any c hA1 hm
  have q1 := (tk_ok g1).1
  have q5 := (tk_ok g1).2.2.2.2
  have p1 := (tk_ok g3).1
  have p5 := (tk_ok g3).2.2.2.2
  have hA2 := hA1.drop (k := tkN b) (cap := c) hc q1
  obtain ⟨A2, hA2e⟩ : ∃ A2, (if c = tkN b then A else A.map (·.add (tkN b))) = A2 := ⟨_, rfl⟩
  have hcut1 := run_cut_l (P := Tryd.prog) Tryd.underlying28 (by kernel_rfl) A A2 b.length c (tkN b) q1 hA2e.symm
  rw [hA2e, show b.drop (tkN b) = r1 b from rfl] at hA2
  have l1 : (r1 b).length = b.length - tkN b := by unfold r1; rw [List.length_drop]
  have l2 : (r2 b).length = b.length - tkN b - tkN (r1 b) := by unfold r2; rw [List.length_drop, l1]
  rw [← l1] at hcut1
  have ct2 := take_any (c - tkN b) hA2 (by omega)
  have hA3 := hA1.drop (k := tkN b + tkN (r1 b)) (cap := c) hc (by omega)
  obtain ⟨A3, hA3e⟩ : ∃ A3, (if c = tkN b + tkN (r1 b) then A else A.map (·.add (tkN b + tkN (r1 b)))) = A3 := ⟨_, rfl⟩
  have e3 : b.drop (tkN b + tkN (r1 b)) = r2 b := by unfold r2 r1; rw [List.drop_drop]
  rw [hA3e, e3] at hA3
  have hA4 := hA3.take (tkX (r1 b))
  have hcut2 := run_cut_lh (P := Tryd.prog) Tryd.underlying28 (by kernel_rfl) A A3 b.length c (tkN b + tkN (r1 b)) (tkN b + tkN (r1 b) + tkX (r1 b)) (by omega) (by omega) hA3e.symm
  have l3 : ((r2 b).take (tkX (r1 b))).length = tkN b + tkN (r1 b) + tkX (r1 b) - (tkN b + tkN (r1 b)) := by rw [List.length_take]; omega
  rw [← l3] at hcut2
  obtain ⟨p, hp⟩ : ∃ p, (r2 b).take (tkX (r1 b)) = p := ⟨_, rfl⟩
  rw [hp] at hcut2 hA4 hV hO l3
  have hpm : p.length ≤ 140737488355328 := by rw [l3]; omega
  obtain ⟨X1, hX1⟩ : ∃ x, tkX b = x := ⟨_, rfl⟩
  obtain ⟨N1, hN1⟩ : ∃ x, tkN b = x := ⟨_, rfl⟩
  obtain ⟨R, hR⟩ : ∃ x, r1 b = x := ⟨_, rfl⟩
  have z0 : ((0 : Nat) : Int) = 0 := rfl
  rw [g1, z0] at ct1
  rw [g3, z0] at ct2
  clear z0
  rw [hX1, hN1] at ct1
  rw [hR] at ct2 hcut1 hcut2 g4 hn l1 l2 p1 p5 l3
  rw [hN1] at hcut1 hcut2 ct2 hn l1 l2 q1 l3
  obtain ⟨X2, hX2⟩ : ∃ x, tkX R = x := ⟨_, rfl⟩
  obtain ⟨N2, hN2⟩ : ∃ x, tkN R = x := ⟨_, rfl⟩
  rw [hX2] at ct2 hcut2 g4 hn p5 l3
  rw [hN2] at ct2 hcut2 l2 hn p1 l3
  rw [hX1] at g2 hV hO htg q5
  have hcut2' : ∀ W : World, (Instr.sliceAt 28 (.slice A b.length c) (some (.int .i64 ((N1 : Int) + (N2 : Int)))) (some (.int .i64 ((N1 : Int) + (N2 : Int) + (X2 : Int)))) none).run Tryd.prog W = .ok (.slice A3 p.length (c - (N1 + N2))) W := fun W => by
    have := hcut2 W
    simpa using this
  have hN12 : N1 + N2 + X2 ≤ b.length := by omega
  have ctv := fun {W : World} (hk : KVars W) (hb : Byt W W.heap.size A3 p) => tval_any hk (c - (N1 + N2)) hb hpm ((X1 : Int) % 8)
  simp only [hV, hO] at ctv
  have HA4 := Lib.hid hA4
  have HF := Lib.hid (And.intro htg hn)
  clear hcut2 l1 l2 l3 g1 g3 g4 hV hO htg hn hA hA1 hA2 hA3 hA4 hX1 hN1 hR hX2 hN2 hp e3 hA2e hA3e h q1 p1 hpm hc
  obtain ⟨k, vn, vs⟩ := V
  unfold vvC at ctv
  dsimp only at ctv
  go_enter Tryd.func40, Tryd.ntmps40
  go_wp2_with (first
    | (go_at_call 54; with_reducible refine ct1.mono ?_; rintro e w1 ⟨rfl, rfl⟩)
    | (go_at_call 54; with_reducible refine ct2.mono ?_; rintro e w1 ⟨rfl, rfl⟩)
    | (go_at_call 55; refine (ctv hk1 HA4.out).mono ?_; rintro e w1 ⟨rfl, hb1⟩; obtain ⟨hc1, hf1⟩ := Below.cells hb1; have hz1 : w.heap.size < w1.heap.size := (by have := hb1.size; simp at this; omega)))
  have e := HF.out
  refine bodyPost_ret (v := .tuple #[.agg #[.int .i64 ((X1 : Int) / 8), .int .i64 k, .int .u64 vn, .string vs], .int .i64 ((N1 : Int) + (N2 : Int) + (X2 : Int)), .bool O]) (by simp [results, Tryd.results40, go_sem, hc1, hz1]) rfl ⟨ret_f e.1.symm (by omega), ?_⟩
  have hB1 : Below w.heap.size w w1 := hBw.trans (hb1.mono (by simp))
  exact ((((hB1.setCell (Nat.le_refl _) _).setCell (Nat.le_refl _) _).setCell (Nat.le_refl _) _).setCell (Nat.le_refl _) _).alloc (by simp; omega) _

theorem tfld_any {w : World} (h : KVars w) {A : Option Addr} {b : List UInt8} (c : Nat) (hA : Byt w w.heap.size A b) (hm : b.length ≤ 140737488355328) (hc : b.length ≤ c) {f : Fd} {n : Nat} (ht : tkFld b = some (f, n)) :
    Calls Tryd.prog 40 #[.slice A b.length c] w fun e w' => e = .returned (.tuple #[.agg (ffC f), .int .i64 n, .bool true]) ∧ Below w.heap.size w w' := by
  obtain ⟨g1, g2, g3, g4, g5, g6, g7, g8⟩ := tkFld_parts ht
  exact tfld_core h c hA hm hc g1 g2 g3 g4 f.v g6.symm true g5 n g8 f.t g7

set_option maxRecDepth 100000 in
set_option maxHeartbeats 2000000 in
theorem tfld_bad {w : World} (h : KVars w) {A : Option Addr} {b : List UInt8} (c : Nat) (hA : Byt w w.heap.size A b) (hm : b.length ≤ 140737488355328) (hc : b.length ≤ c) (ht : tkFld b = none) :
    Calls Tryd.prog 40 #[.slice A b.length c] w (NoFld w) := by
  have hno := tkFld_no ht
  by_cases g1 : tkE b = 0
  rotate_left
  · have hBw : Below w.heap.size w (w.alloc (.cells #[.int .i64 0, .int .i64 0, .int .u64 0, .string ⟨#[]⟩] 41)) := (Below.refl _ _).alloc (Nat.le_refl _) _
    have ct1 := take_any c (hA.then_ hBw) hm
    have hE5 : tkE b ≤ 5 := by rcases tk_err (l := b) with g | g | g <;> omega
    have hEb : ((tkE b : Int) != 0) = true := by simp; omega
    obtain ⟨E1, hE1⟩ : ∃ x, tkE b = x := ⟨_, rfl⟩
    rw [hE1] at ct1 hEb hE5
    clear hE1 g1 hno ht hA h
    go_enter Tryd.func40, Tryd.ntmps40
    go_wp2_with (go_at_call 54; with_reducible refine ct1.mono ?_; rintro e w1 ⟨rfl, rfl⟩)
    exact bodyPost_ret (v := .tuple #[.agg #[.int .i64 0, .int .i64 0, .int .u64 0, .string ⟨#[]⟩], .int .i64 0, .bool false]) (by simp [results, Tryd.results40, go_sem]) rfl ⟨⟨0, 0, 0, 0, ⟨#[]⟩, rfl⟩, (Below.refl _ _).alloc (Nat.le_refl _) _⟩
  by_cases g2 : tkX b / 8 ≤ 65535
  rotate_left
  · have hBw : Below w.heap.size w (w.alloc (.cells #[.int .i64 0, .int .i64 0, .int .u64 0, .string ⟨#[]⟩] 41)) := (Below.refl _ _).alloc (Nat.le_refl _) _
    have ct1 := take_any c (hA.then_ hBw) hm
    have z0 : ((0 : Nat) : Int) = 0 := rfl
    rw [g1, z0] at ct1
    have hx := (tk_ok g1).2.2.2.2
    obtain ⟨X1, hX1⟩ : ∃ x, tkX b = x := ⟨_, rfl⟩
    rw [hX1] at ct1 g2 hx
    have g2' : 65535 < X1 / 8 := by omega
    have g2z : (65535 : Int) < (X1 : Int) / 8 := by omega
    clear hX1 g1 hno ht hA h z0 g2
    go_enter Tryd.func40, Tryd.ntmps40
    go_wp2_with (go_at_call 54; with_reducible refine ct1.mono ?_; rintro e w1 ⟨rfl, rfl⟩)
    exact bodyPost_ret (v := .tuple #[.agg #[.int .i64 0, .int .i64 0, .int .u64 0, .string ⟨#[]⟩], .int .i64 0, .bool false]) (by simp [results, Tryd.results40, go_sem]) rfl ⟨⟨0, 0, 0, 0, ⟨#[]⟩, rfl⟩, (Below.refl _ _).alloc (Nat.le_refl _) _⟩
  have hBw : Below w.heap.size w (w.alloc (.cells #[.int .i64 0, .int .i64 0, .int .u64 0, .string ⟨#[]⟩] 41)) := (Below.refl _ _).alloc (Nat.le_refl _) _
  have ct1 := take_any c (hA.then_ hBw) hm
  have z0 : ((0 : Nat) : Int) = 0 := rfl
  rw [g1, z0] at ct1
  have q1 := (tk_ok g1).1
  have hx := (tk_ok g1).2.2.2.2
  have hA2 := (hA.then_ hBw).drop (k := tkN b) (cap := c) hc q1
  obtain ⟨A2, hA2e⟩ : ∃ A2, (if c = tkN b then A else A.map (·.add (tkN b))) = A2 := ⟨_, rfl⟩
  have hcut1 := run_cut_l (P := Tryd.prog) Tryd.underlying28 (by kernel_rfl) A A2 b.length c (tkN b) q1 hA2e.symm
  rw [hA2e, show b.drop (tkN b) = r1 b from rfl] at hA2
  have l1 : (r1 b).length = b.length - tkN b := by unfold r1; rw [List.length_drop]
  have l2 : (r2 b).length = b.length - tkN b - tkN (r1 b) := by unfold r2; rw [List.length_drop, l1]
  rw [← l1] at hcut1
  have ct2 := take_any (c - tkN b) hA2 (by omega)
  have p1 := tk_le (r1 b)
  by_cases g3 : tkE (r1 b) = 0
  rotate_left
  · have hE5 : tkE (r1 b) ≤ 5 := by rcases tk_err (l := r1 b) with g | g | g <;> omega
    have hEb : ((tkE (r1 b) : Int) != 0) = true := by simp; omega
    obtain ⟨X1, hX1⟩ : ∃ x, tkX b = x := ⟨_, rfl⟩
    obtain ⟨N1, hN1⟩ : ∃ x, tkN b = x := ⟨_, rfl⟩
    obtain ⟨R, hR⟩ : ∃ x, r1 b = x := ⟨_, rfl⟩
    rw [hX1, hN1] at ct1
    rw [hX1] at g2 hx
    rw [hR] at ct2 hcut1 hE5 hEb p1 l1
    rw [hN1] at hcut1 ct2 q1 l1
    obtain ⟨X2, hX2⟩ : ∃ x, tkX R = x := ⟨_, rfl⟩
    obtain ⟨N2, hN2⟩ : ∃ x, tkN R = x := ⟨_, rfl⟩
    obtain ⟨E2, hE2⟩ : ∃ x, tkE R = x := ⟨_, rfl⟩
    rw [hX2, hN2, hE2] at ct2
    rw [hN2] at p1
    rw [hE2] at hE5 hEb
    have hN12 : N1 + N2 ≤ b.length := by omega
    clear hX1 hN1 hR hX2 hN2 hE2 g1 g3 hno ht hA h z0 l1 l2 hA2 hA2e q1 p1
    go_enter Tryd.func40, Tryd.ntmps40
    go_wp2_with (first
      | (go_at_call 54; with_reducible refine ct1.mono ?_; rintro e w1 ⟨rfl, rfl⟩)
      | (go_at_call 54; with_reducible refine ct2.mono ?_; rintro e w1 ⟨rfl, rfl⟩))
    exact bodyPost_ret (v := .tuple #[.agg #[.int .i64 0, .int .i64 0, .int .u64 0, .string ⟨#[]⟩], .int .i64 0, .bool false]) (by simp [results, Tryd.results40, go_sem]) rfl ⟨⟨0, 0, 0, 0, ⟨#[]⟩, rfl⟩, (Below.refl _ _).alloc (Nat.le_refl _) _⟩
  by_cases g4 : tkX (r1 b) ≤ (r2 b).length
  rotate_left
  · have p5 := (tk_ok g3).2.2.2.2
    rw [g3, z0] at ct2
    obtain ⟨X1, hX1⟩ : ∃ x, tkX b = x := ⟨_, rfl⟩
    obtain ⟨N1, hN1⟩ : ∃ x, tkN b = x := ⟨_, rfl⟩
    obtain ⟨R, hR⟩ : ∃ x, r1 b = x := ⟨_, rfl⟩
    rw [hX1, hN1] at ct1
    rw [hX1] at g2 hx
    rw [hR] at ct2 hcut1 g4 p1 l1 l2 p5
    rw [hN1] at hcut1 ct2 q1 l1 l2
    obtain ⟨X2, hX2⟩ : ∃ x, tkX R = x := ⟨_, rfl⟩
    obtain ⟨N2, hN2⟩ : ∃ x, tkN R = x := ⟨_, rfl⟩
    rw [hX2, hN2] at ct2
    rw [hN2] at p1 l2
    rw [hX2] at g4 p5
    have hN12 : N1 + N2 ≤ b.length := by omega
    have hgt : b.length - (N1 + N2) < X2 := by omega
    have hgtz : (b.length : Int) - ((N1 : Int) + (N2 : Int)) < (X2 : Int) := by omega
    clear hX1 hN1 hR hX2 hN2 g1 g3 g4 hno ht hA h z0 l1 l2 hA2 hA2e q1 p1
    go_enter Tryd.func40, Tryd.ntmps40
    go_wp2_with (first
      | (go_at_call 54; with_reducible refine ct1.mono ?_; rintro e w1 ⟨rfl, rfl⟩)
      | (go_at_call 54; with_reducible refine ct2.mono ?_; rintro e w1 ⟨rfl, rfl⟩))
    exact bodyPost_ret (v := .tuple #[.agg #[.int .i64 0, .int .i64 0, .int .u64 0, .string ⟨#[]⟩], .int .i64 0, .bool false]) (by simp [results, Tryd.results40, go_sem]) rfl ⟨⟨0, 0, 0, 0, ⟨#[]⟩, rfl⟩, (Below.refl _ _).alloc (Nat.le_refl _) _⟩
  have hO : tvO ((tkX b : Int) % 8) ((r2 b).take (tkX (r1 b))) = false := by
    rcases hno with g | g | g | g | g
    · exact absurd g1 g
    · exact absurd g2 g
    · exact absurd g3 g
    · exact absurd g4 g
    · exact g
  exact (tfld_core h c hA hm hc g1 g2 g3 g4 _ rfl false hO _ rfl _ rfl).mono fun _ _ ⟨he, hb⟩ => ⟨⟨_, _, _, _, _, he⟩, hb⟩
end Go.Proofs.YthekbefbhjllnaaDoor
