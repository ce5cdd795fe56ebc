/- The walk of the reference: a factor behind a minus, within brackets; the whole factor. -/
import Derived.Test.YtbngelinfpaefaaGreatDoorParRFab
namespace Go.Proofs.YtbngelinfpaefaaGreatDoor
open Go.RowKit

set_option maxRecDepth 100000 in
set_option maxHeartbeats 8000000 in
theorem rfac_minus {T : List Tk} {f : Nat} {w : World} {g B : Nat} {A : Option Addr} {c : Nat} {p : PS} {gn gd : Nat} (F : RF T f) (h : PSe w g B A c T p gn gd) (hf : Fit p) (hc : T.length < p.i + 1 + f) (q0 : p.flt = 0) {t : Tk} (ht : p.tok T = t) (hk2 : t.k ≠ 2) (hk3 : t.k ≠ 3) (b0 : p.is T 1 [116, 114, 117, 101] = false) (b1 : p.is T 1 [102, 97, 108, 115, 101] = false) (b2 : p.is T 4 [45] = true) :
    Calls Tryz.prog 123 #[.pointer (some ⟨g, 0, none⟩)] w (XAt_ w g B A c T gn gd (factorF T (f + 1) p)) := by
  obtain ⟨Z, hZ⟩ : ∃ Z, factorF T (f + 1) p = Z := ⟨_, rfl⟩
  have z0 : ((p.flt : Int) != 0) = false := by rw [q0]; rfl
  have z2 : ((t.k : Int) == 2) = false := beq_eq_false_iff_ne.2 (by omega)
  have z3 : ((t.k : Int) == 3) = false := beq_eq_false_iff_ne.2 (by omega)
  obtain ⟨_, c3, _, _, _⟩ := h.cells
  have ct := xtok_any h ht
  have hil := h.i_lt
  have C0 : Hid (∀ v1 W, Mt_ t w v1 W → Calls Tryz.prog 24 #[.pointer (some ⟨g, 0, none⟩), .int .i64 1, .string ⟨#[116, 114, 117, 101]⟩] W fun r w' => r = .returned (.bool false) ∧ Mt_ t w v1 w') := fun v1 W m => m.is h (k := 1) (s := [116, 114, 117, 101]) b0
  have C1 : Hid (∀ v1 W, Mt_ t w v1 W → Calls Tryz.prog 24 #[.pointer (some ⟨g, 0, none⟩), .int .i64 1, .string ⟨#[102, 97, 108, 115, 101]⟩] W fun r w' => r = .returned (.bool false) ∧ Mt_ t w v1 w') := fun v1 W m => m.is h (k := 1) (s := [102, 97, 108, 115, 101]) b1
  have C2 : Hid (∀ v1 W, Mt_ t w v1 W → Calls Tryz.prog 24 #[.pointer (some ⟨g, 0, none⟩), .int .i64 4, .string ⟨#[45]⟩] W fun r w' => r = .returned (.bool true) ∧ Mt_ t w v1 w') := fun v1 W m => m.is h (k := 4) (s := [45]) b2
  have hok := is_ok p b2
  have hk0 : (p.tok T).k ≠ 0 := by rw [hok.2.1]; decide
  have hcl : (p.level T).flt ≠ 0 ∨ T.length < (p.level T).i + f := by
    by_cases z : (p.level T).flt = 0
    · have := cn_level (T := T) (m := T.length + 1 - f) (p := p) (by omega) z
      rcases this with y | y
      · exact .inl y
      · exact .inr (by omega)
    · exact .inl z
  have hfl : Fit (p.level T) := hf.level
  have LV : Hid (∀ v1 W, Mt_ t w v1 W → Calls Tryz.prog 142 #[.pointer (some ⟨g, 0, none⟩)] W fun r w' => r = .returned (.tuple #[]) ∧ PSe w' g B A c T (p.level T) gn gd ∧ Xr g gn gd gn gd w w' ∧ CB w' v1.heap.size 78 #[.int .i64 (t.k : Nat), .string (str t.t), .int .u64 (t.n : Nat), .int .i64 (t.a : Nat), .int .i64 (t.e : Nat)] ∧ (v1.heap.size ≠ g ∧ v1.heap.size ≠ gn ∧ v1.heap.size ≠ gd)) := fun v1 W m => by
    refine (xlevel_any (h.below m.below) hf fun _ => hk0).mono ?_
    rintro r w' ⟨rfl, hP, hX⟩
    have ap := m.apart h
    exact ⟨rfl, hP, (Xr.of m.below).trans hX, m.tok.keep (hX.block v1.heap.size m.tok.len ap.1 ap.2.1 ap.2.2), ap⟩
  obtain ⟨q1, hq1⟩ : ∃ q1, factorF T f (p.level T) = q1 := ⟨_, rfl⟩
  have hz : (q1.emit ⟨5, 0, 0, [], t.a⟩ 1).shut = Z := by
    rw [← hq1]
    rw [← hZ]
    show _ = factorW T (factorF T f) p
    unfold factorW
    dsimp only
    rw [if_neg (fun z => z q0), if_neg (by rw [ht]; exact hk2), if_neg (by rw [ht]; exact hk3), ls_true, if_neg (by rw [b0]; decide), ls_false, if_neg (by rw [b1]; decide), if_pos b2]
    rw [ht]
  have EX : Ex1 T (p.level T) q1 := by rw [← hq1]; exact ex_factorF f (p.level T) hcl
  have hf1 : Fit q1 := hfl.ex EX
  have IF : Hid (∀ W v, PSe W g B A c T (p.level T) gn gd ∧ Xr g gn gd gn gd w W ∧ CB W v 78 #[.int .i64 (t.k : Nat), .string (str t.t), .int .u64 (t.n : Nat), .int .i64 (t.a : Nat), .int .i64 (t.e : Nat)] ∧ (v ≠ g ∧ v ≠ gn ∧ v ≠ gd) → Calls Tryz.prog 123 #[.pointer (some ⟨g, 0, none⟩)] W fun r w' => r = .returned (.tuple #[]) ∧ ∃ n d, PSe w' g B A c T q1 n d ∧ Xr g gn gd n d w w' ∧ w'.cell? ⟨v, 3, none⟩ = some (.int .i64 (t.a : Nat))) := fun W v m => by
    refine (F m.1 hfl hcl).mono ?_
    rintro r w' ⟨rfl, n, d, h1, x1⟩
    rw [hq1] at h1
    exact ⟨rfl, n, d, h1, m.2.1.trans x1, (m.2.2.1.keep (x1.block v m.2.2.1.len m.2.2.2.1 m.2.2.2.2.1 m.2.2.2.2.2)).at_ 3⟩
  have EM : Hid (∀ W n d, PSe W g B A c T q1 n d ∧ Xr g gn gd n d w W → Calls Tryz.prog 91 #[.pointer (some ⟨g, 0, none⟩), .agg #[.int .i64 5, .int .i64 0, .int .u64 0, .string ⟨#[]⟩, .int .i64 (t.a : Nat)], .int .i64 1] W fun r w' => r = .returned (.tuple #[]) ∧ ∃ (x : Int), -1 ≤ x ∧ x ≤ 100 ∧ w'.cell? ⟨g, 6, none⟩ = some (.int .i64 x) ∧ w'.frozen? ⟨g, 6, none⟩ = false ∧ Hid (∃ n9 d9, PSe (w'.setCell ⟨g, 6, none⟩ (.int .i64 (x - 1))) g B A c T Z n9 d9 ∧ Xr g gn gd n9 d9 w (w'.setCell ⟨g, 6, none⟩ (.int .i64 (x - 1))))) := fun W n d m => by
    have h8 := m.1
    have x8 := m.2
    have hi := h8.i_lt
    have hn := hf1.n
    have hd := hf1.d
    refine (remit_any h8 ⟨5, 0, 0, [], t.a⟩ 1 (fun z => by have := EX.one z (by omega); omega) (by omega) (by omega)).mono ?_
    rintro r w' ⟨rfl, n9, d9, h9, x9⟩
    have eo := emit_opn q1 ⟨5, 0, 0, [], t.a⟩ 1
    obtain ⟨_, _, c6, _, f6⟩ := h9.cells
    obtain ⟨s1, s2⟩ := h9.shut
    refine ⟨rfl, _, by rw [eo]; exact hf1.lo, by rw [eo]; exact hf1.hi, c6, f6, n9, d9, ?_, (x8.trans x9).trans s2⟩
    rw [← hz]
    exact s1
  rw [hZ]
  unfold XAt_
  clear h hf hz hZ ht q0 hk2 hk3 hc F b0 b1 b2 hok hk0 hcl hfl EX hf1 hq1
  go_enter Tryz.func123, Tryz.ntmps123
  go_wp2_with (first
    | (go_at_call 46; go_loud (refine ct.mono ?_; rintro e v1 ⟨rfl, hb1⟩; have M0 := Lib.hid (Mt_.first (t := t) hb1); clear hb1))
    | (go_at_call 24; (with_reducible refine (C0.out v1 _ M0.out).mono ?_); rintro e u0 ⟨rfl, m0⟩; have M1 := Lib.hid m0; clear m0)
    | (go_at_call 24; (with_reducible refine (C1.out v1 _ M1.out).mono ?_); rintro e u1 ⟨rfl, m1⟩; have M2 := Lib.hid m1; clear m1)
    | (go_at_call 24; (with_reducible refine (C2.out v1 _ M2.out).mono ?_); rintro e u2 ⟨rfl, m2⟩; have M3 := Lib.hid m2; clear m2)
    | (go_at_call 142; go_loud (refine (LV.out v1 _ M3.out).mono ?_; rintro e w3 ⟨rfl, hP⟩; have S3 := Lib.hid hP; clear hP))
    | (go_at_call 123; go_loud (refine (IF.out _ _ S3.out).mono ?_; rintro e w4 ⟨rfl, n4, d4, hP, hX, c43⟩; have S4 := Lib.hid (And.intro hP hX); clear hP hX))
    | (go_at_call 91; go_loud (refine (EM.out _ _ _ S4.out).mono ?_; rintro e w9 ⟨rfl, x, xlo, xhi, c9, f9, FI⟩)))
  go_end0
  obtain ⟨n9, d9, h9, x9⟩ := FI.out
  exact ⟨rfl, n9, d9, h9, x9⟩

set_option maxRecDepth 100000 in
set_option maxHeartbeats 8000000 in
theorem rfac_brack {T : List Tk} {f : Nat} {w : World} {g B : Nat} {A : Option Addr} {c : Nat} {p : PS} {gn gd : Nat} (F : RF T f) (h : PSe w g B A c T p gn gd) (hf : Fit p) (hc : T.length < p.i + 1 + f) (q0 : p.flt = 0) {t : Tk} (ht : p.tok T = t) (hk2 : t.k ≠ 2) (hk3 : t.k ≠ 3) (b0 : p.is T 1 [116, 114, 117, 101] = false) (b1 : p.is T 1 [102, 97, 108, 115, 101] = false) (b2 : p.is T 4 [45] = false) (b3 : p.is T 4 [40] = true) :
    Calls Tryz.prog 123 #[.pointer (some ⟨g, 0, none⟩)] w (XAt_ w g B A c T gn gd (factorF T (f + 1) p)) := by
  obtain ⟨Z, hZ⟩ : ∃ Z, factorF T (f + 1) p = Z := ⟨_, rfl⟩
  have z0 : ((p.flt : Int) != 0) = false := by rw [q0]; rfl
  have z2 : ((t.k : Int) == 2) = false := beq_eq_false_iff_ne.2 (by omega)
  have z3 : ((t.k : Int) == 3) = false := beq_eq_false_iff_ne.2 (by omega)
  obtain ⟨_, c3, _, _, _⟩ := h.cells
  have ct := xtok_any h ht
  have hil := h.i_lt
  have C0 : Hid (∀ v1 W, Mt_ t w v1 W → Calls Tryz.prog 24 #[.pointer (some ⟨g, 0, none⟩), .int .i64 1, .string ⟨#[116, 114, 117, 101]⟩] W fun r w' => r = .returned (.bool false) ∧ Mt_ t w v1 w') := fun v1 W m => m.is h (k := 1) (s := [116, 114, 117, 101]) b0
  have C1 : Hid (∀ v1 W, Mt_ t w v1 W → Calls Tryz.prog 24 #[.pointer (some ⟨g, 0, none⟩), .int .i64 1, .string ⟨#[102, 97, 108, 115, 101]⟩] W fun r w' => r = .returned (.bool false) ∧ Mt_ t w v1 w') := fun v1 W m => m.is h (k := 1) (s := [102, 97, 108, 115, 101]) b1
  have C2 : Hid (∀ v1 W, Mt_ t w v1 W → Calls Tryz.prog 24 #[.pointer (some ⟨g, 0, none⟩), .int .i64 4, .string ⟨#[45]⟩] W fun r w' => r = .returned (.bool false) ∧ Mt_ t w v1 w') := fun v1 W m => m.is h (k := 4) (s := [45]) b2
  have C3 : Hid (∀ v1 W, Mt_ t w v1 W → Calls Tryz.prog 24 #[.pointer (some ⟨g, 0, none⟩), .int .i64 4, .string ⟨#[40]⟩] W fun r w' => r = .returned (.bool true) ∧ Mt_ t w v1 w') := fun v1 W m => m.is h (k := 4) (s := [40]) b3
  have hok := is_ok p b3
  have hk0 : (p.tok T).k ≠ 0 := by rw [hok.2.1]; decide
  have hcl : (p.level T).flt ≠ 0 ∨ T.length < (p.level T).i + f := by
    by_cases z : (p.level T).flt = 0
    · have := cn_level (T := T) (m := T.length + 1 - f) (p := p) (by omega) z
      rcases this with y | y
      · exact .inl y
      · exact .inr (by omega)
    · exact .inl z
  have hfl : Fit (p.level T) := hf.level
  have LV : Hid (∀ v1 W, Mt_ t w v1 W → Calls Tryz.prog 142 #[.pointer (some ⟨g, 0, none⟩)] W fun r w' => r = .returned (.tuple #[]) ∧ PSe w' g B A c T (p.level T) gn gd ∧ Xr g gn gd gn gd w w' ∧ CB w' v1.heap.size 78 #[.int .i64 (t.k : Nat), .string (str t.t), .int .u64 (t.n : Nat), .int .i64 (t.a : Nat), .int .i64 (t.e : Nat)] ∧ (v1.heap.size ≠ g ∧ v1.heap.size ≠ gn ∧ v1.heap.size ≠ gd)) := fun v1 W m => by
    refine (xlevel_any (h.below m.below) hf fun _ => hk0).mono ?_
    rintro r w' ⟨rfl, hP, hX⟩
    have ap := m.apart h
    exact ⟨rfl, hP, (Xr.of m.below).trans hX, m.tok.keep (hX.block v1.heap.size m.tok.len ap.1 ap.2.1 ap.2.2), ap⟩
  obtain ⟨q1, hq1⟩ : ∃ q1, exprW T (factorF T f) (p.level T) = q1 := ⟨_, rfl⟩
  have hz : (q1.mark T 41).shut = Z := by
    rw [← hq1]
    rw [← hZ]
    show _ = factorW T (factorF T f) p
    unfold factorW
    dsimp only
    rw [if_neg (fun z => z q0), if_neg (by rw [ht]; exact hk2), if_neg (by rw [ht]; exact hk3), ls_true, if_neg (by rw [b0]; decide), ls_false, if_neg (by rw [b1]; decide), if_neg (by rw [b2]; decide), if_pos b3]
  have EX : Ex1 T (p.level T) q1 := by rw [← hq1]; exact ex_expr_ (T := T) (f := f) (p.level T) hcl
  have hf1 : Fit (q1.mark T 41) := (hfl.ex EX).mark 41
  have IF : Hid (∀ W v, PSe W g B A c T (p.level T) gn gd ∧ Xr g gn gd gn gd w W ∧ CB W v 78 #[.int .i64 (t.k : Nat), .string (str t.t), .int .u64 (t.n : Nat), .int .i64 (t.a : Nat), .int .i64 (t.e : Nat)] ∧ (v ≠ g ∧ v ≠ gn ∧ v ≠ gd) → Calls Tryz.prog 53 #[.pointer (some ⟨g, 0, none⟩)] W fun r w' => r = .returned (.tuple #[]) ∧ ∃ n d, PSe w' g B A c T q1 n d ∧ Xr g gn gd n d w w') := fun W v m => by
    refine (rexpr_any F m.1 hfl hcl).mono ?_
    rintro r w' ⟨rfl, n, d, h1, x1⟩
    rw [hq1] at h1
    exact ⟨rfl, n, d, h1, m.2.1.trans x1⟩
  have EM : Hid (∀ W n d, PSe W g B A c T q1 n d ∧ Xr g gn gd n d w W → Calls Tryz.prog 49 #[.pointer (some ⟨g, 0, none⟩), .string ⟨#[41]⟩] W fun r w' => r = .returned (.tuple #[]) ∧ ∃ (x : Int), -1 ≤ x ∧ x ≤ 100 ∧ w'.cell? ⟨g, 6, none⟩ = some (.int .i64 x) ∧ w'.frozen? ⟨g, 6, none⟩ = false ∧ Hid (∃ n9 d9, PSe (w'.setCell ⟨g, 6, none⟩ (.int .i64 (x - 1))) g B A c T Z n9 d9 ∧ Xr g gn gd n9 d9 w (w'.setCell ⟨g, 6, none⟩ (.int .i64 (x - 1))))) := fun W n9 d9 m => by
    have x8 := m.2
    refine (xmark_any m.1 41).mono ?_
    rintro r w' ⟨rfl, h9, x9⟩
    obtain ⟨_, _, c6, _, f6⟩ := h9.cells
    obtain ⟨s1, s2⟩ := h9.shut
    refine ⟨rfl, _, hf1.lo, hf1.hi, c6, f6, n9, d9, ?_, (x8.trans x9).trans s2⟩
    rw [← hz]
    exact s1
  rw [hZ]
  unfold XAt_
  clear h hf hz hZ ht q0 hk2 hk3 hc F b0 b1 b2 b3 hok hk0 hcl hfl EX hf1 hq1
  go_enter Tryz.func123, Tryz.ntmps123
  go_wp2_with (first
    | (go_at_call 46; go_loud (refine ct.mono ?_; rintro e v1 ⟨rfl, hb1⟩; have M0 := Lib.hid (Mt_.first (t := t) hb1); clear hb1))
    | (go_at_call 24; (with_reducible refine (C0.out v1 _ M0.out).mono ?_); rintro e u0 ⟨rfl, m0⟩; have M1 := Lib.hid m0; clear m0)
    | (go_at_call 24; (with_reducible refine (C1.out v1 _ M1.out).mono ?_); rintro e u1 ⟨rfl, m1⟩; have M2 := Lib.hid m1; clear m1)
    | (go_at_call 24; (with_reducible refine (C2.out v1 _ M2.out).mono ?_); rintro e u2 ⟨rfl, m2⟩; have M3 := Lib.hid m2; clear m2)
    | (go_at_call 24; (with_reducible refine (C3.out v1 _ M3.out).mono ?_); rintro e u3 ⟨rfl, m3⟩; have M4 := Lib.hid m3; clear m3)
    | (go_at_call 142; go_loud (refine (LV.out v1 _ M4.out).mono ?_; rintro e w3 ⟨rfl, hP⟩; have S3 := Lib.hid hP; clear hP))
    | (go_at_call 53; go_loud (refine (IF.out _ _ S3.out).mono ?_; rintro e w4 ⟨rfl, n4, d4, hP, hX⟩; have S4 := Lib.hid (And.intro hP hX); clear hP hX))
    | (go_at_call 49; go_loud (refine (EM.out _ _ _ S4.out).mono ?_; rintro e w9 ⟨rfl, x, xlo, xhi, c9, f9, FI⟩)))
  go_end0
  obtain ⟨n9, d9, h9, x9⟩ := FI.out
  exact ⟨rfl, n9, d9, h9, x9⟩

theorem rf_next {T : List Tk} {f : Nat} (F : RF T f) : RF T (f + 1) := by
  intro w g B A c p gn gd h hf hc0
  by_cases q0 : p.flt = 0
  · have hc : T.length < p.i + 1 + f := by
      rcases hc0 with e | e
      · exact absurd q0 e
      · omega
    obtain ⟨t, ht⟩ : ∃ t, p.tok T = t := ⟨_, rfl⟩
    by_cases k2 : t.k = 2
    · exact rfac_num h hf q0 ht k2
    · by_cases k3 : t.k = 3
      · exact rfac_text h hf q0 ht k3
      · cases b0 : p.is T 1 [116, 114, 117, 101] with
        | true => exact rfac_true h hf q0 ht k2 k3 b0
        | false =>
          cases b1 : p.is T 1 [102, 97, 108, 115, 101] with
          | true => exact rfac_false h hf q0 ht k2 k3 b0 b1
          | false =>
            cases b2 : p.is T 4 [45] with
            | true => exact rfac_minus F h hf hc q0 ht k2 k3 b0 b1 b2
            | false =>
              cases b3 : p.is T 4 [40] with
              | true => exact rfac_brack F h hf hc q0 ht k2 k3 b0 b1 b2 b3
              | false => exact rfac_rest F h hf hc q0 ht k2 k3 b0 b1 b2 b3
  · exact rfac_stuck h q0
theorem rf_zero {T : List Tk} : RF T 0 := by
  intro w g B A c p gn gd h hf hc0
  have hi := h.i_lt
  have q0 : p.flt ≠ 0 := by
    rcases hc0 with e | e
    · exact e
    · omega
  have e : factorF T (0 + 1) p = factorF T 0 p := by
    show factorW T (factorF T 0) p = _
    unfold factorW
    exact if_pos q0
  rw [← e]
  exact rfac_stuck h q0
theorem rf_all {T : List Tk} : ∀ f, RF T f
  | 0 => rf_zero
  | f + 1 => rf_next (rf_all f)
end Go.Proofs.YtbngelinfpaefaaGreatDoor
