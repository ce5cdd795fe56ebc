/- The walk of the reference: a factor behind the tests of its kind. -/
import Derived.Test.YtbngelinfpaefaaGreatDoorParRFac
namespace Go.Proofs.YtbngelinfpaefaaGreatDoor
open Go.RowKit

/-- between the worlds: the token's copy made in v1, and what only reads behind it -/
def Mt_ (t : Tk) (w v1 W : World) : Prop := Below w.heap.size w v1 ∧ Below (v1.alloc (.cells #[.int .i64 (t.k : Nat), .string (str t.t), .int .u64 (t.n : Nat), .int .i64 (t.a : Nat), .int .i64 (t.e : Nat)] 78)).heap.size (v1.alloc (.cells #[.int .i64 (t.k : Nat), .string (str t.t), .int .u64 (t.n : Nat), .int .i64 (t.a : Nat), .int .i64 (t.e : Nat)] 78)) W
theorem Mt_.first {t : Tk} {w v1 : World} (h : Below w.heap.size w v1) : Mt_ t w v1 (v1.alloc (.cells #[.int .i64 (t.k : Nat), .string (str t.t), .int .u64 (t.n : Nat), .int .i64 (t.a : Nat), .int .i64 (t.e : Nat)] 78)) := ⟨h, Below.refl _ _⟩
theorem Mt_.below {t : Tk} {w v1 W : World} (m : Mt_ t w v1 W) : Below w.heap.size w W := Below.both m.1 (Below.both ((Below.refl _ v1).alloc (Nat.le_refl _) _) m.2)
theorem Mt_.tok {t : Tk} {w v1 W : World} (m : Mt_ t w v1 W) : CB W v1.heap.size 78 #[.int .i64 (t.k : Nat), .string (str t.t), .int .u64 (t.n : Nat), .int .i64 (t.a : Nat), .int .i64 (t.e : Nat)] :=
  have K0 : CB (v1.alloc (.cells #[.int .i64 (t.k : Nat), .string (str t.t), .int .u64 (t.n : Nat), .int .i64 (t.a : Nat), .int .i64 (t.e : Nat)] 78)) v1.heap.size 78 #[.int .i64 (t.k : Nat), .string (str t.t), .int .u64 (t.n : Nat), .int .i64 (t.a : Nat), .int .i64 (t.e : Nat)] := CB.new _ _ _
  K0.keep (m.2.block v1.heap.size K0.len)
theorem Mt_.is {T : List Tk} {t : Tk} {w v1 W : World} {g B : Nat} {A : Option Addr} {c : Nat} {p : PS} {gn gd : Nat} (m : Mt_ t w v1 W) (h : PSe w g B A c T p gn gd) {k : Nat} {s : List UInt8} {b : Bool} (hb : p.is T k s = b) :
    Calls Tryz.prog 24 #[.pointer (some ⟨g, 0, none⟩), .int .i64 (k : Nat), .string (str s)] W fun r w' => r = .returned (.bool b) ∧ Mt_ t w v1 w' := by
  have ci := xis_any (h.below m.below) k s
  rw [hb] at ci
  refine ci.mono ?_
  rintro r w' ⟨rfl, h2⟩
  exact ⟨rfl, m.1, Below.both m.2 h2⟩
theorem Mt_.apart {t : Tk} {w v1 W : World} {T : List Tk} {g B : Nat} {A : Option Addr} {c : Nat} {p : PS} {gn gd : Nat} (m : Mt_ t w v1 W) (h : PSe w g B A c T p gn gd) : v1.heap.size ≠ g ∧ v1.heap.size ≠ gn ∧ v1.heap.size ≠ gd := by
  have h1 := h.below m.1
  have := h1.len
  have := h1.rows
  omega

set_option maxRecDepth 100000 in
set_option maxHeartbeats 8000000 in
theorem rfac_true {T : List Tk} {f : Nat} {w : World} {g B : Nat} {A : Option Addr} {c : Nat} {p : PS} {gn gd : Nat} (h : PSe w g B A c T p gn gd) (hf : Fit p) (q0 : p.flt = 0) {t : Tk} (ht : p.tok T = t) (hk2 : t.k ≠ 2) (hk3 : t.k ≠ 3) (b0 : p.is T 1 [116, 114, 117, 101] = true) :
    Calls Tryz.prog 123 #[.pointer (some ⟨g, 0, none⟩)] w (XAt_ w g B A c T gn gd (factorF T (f + 1) p)) := by
  obtain ⟨Z, hZ⟩ : ∃ Z, factorF T (f + 1) p = Z := ⟨_, rfl⟩
  have z0 : ((p.flt : Int) != 0) = false := by rw [q0]; rfl
  have z2 : ((t.k : Int) == 2) = false := beq_eq_false_iff_ne.2 (by omega)
  have z3 : ((t.k : Int) == 3) = false := beq_eq_false_iff_ne.2 (by omega)
  obtain ⟨_, c3, _, _, _⟩ := h.cells
  have ct := xtok_any h ht
  have hil := h.i_lt
  have C0 : Hid (∀ v1 W, Mt_ t w v1 W → Calls Tryz.prog 24 #[.pointer (some ⟨g, 0, none⟩), .int .i64 1, .string ⟨#[116, 114, 117, 101]⟩] W fun r w' => r = .returned (.bool true) ∧ Mt_ t w v1 w') := fun v1 W m => m.is h (k := 1) (s := [116, 114, 117, 101]) b0
  have hz : p.next.emit ⟨3, 0, 0, [], t.a⟩ 0 = Z := by
    rw [← hZ]
    show _ = factorW T (factorF T f) p
    unfold factorW
    dsimp only
    rw [if_neg (fun z => z q0), if_neg (by rw [ht]; exact hk2), if_neg (by rw [ht]; exact hk3), ls_true, if_pos b0]
    rw [ht]
  have hok := is_ok p b0
  have hk0 : (p.tok T).k ≠ 0 := by rw [hok.2.1]; decide
  have NX : Hid (∀ v1 W, Mt_ t w v1 W → W.cell? ⟨g, 1, none⟩ = some (.int .i64 (p.i : Nat)) ∧ W.frozen? ⟨g, 1, none⟩ = false ∧ W.cell? ⟨v1.heap.size, 3, none⟩ = some (.int .i64 (t.a : Nat)) ∧ (W.setCell ⟨g, 1, none⟩ (.int .i64 ((p.i : Int) + 1))).cell? ⟨v1.heap.size, 3, none⟩ = some (.int .i64 (t.a : Nat)) ∧ Hid (PSe (W.setCell ⟨g, 1, none⟩ (.int .i64 ((p.i : Int) + 1))) g B A c T p.next gn gd ∧ Xr g gn gd gn gd w (W.setCell ⟨g, 1, none⟩ (.int .i64 ((p.i : Int) + 1))))) := fun v1 W m => by
    have h1 := h.below m.below
    obtain ⟨a1, _, _, a2, _⟩ := h1.cells
    obtain ⟨s1, s2⟩ := h1.next hk0
    have ap := m.apart h
    have kt := m.tok
    exact ⟨a1, a2, kt.at_ 3, (kt.keep (s2.block v1.heap.size kt.len ap.1 ap.2.1 ap.2.2)).at_ 3, s1, (Xr.of m.below).trans s2⟩
  have EM : Hid (∀ W, PSe W g B A c T p.next gn gd → Calls Tryz.prog 91 #[.pointer (some ⟨g, 0, none⟩), .agg #[.int .i64 3, .int .i64 0, .int .u64 0, .string ⟨#[]⟩, .int .i64 (t.a : Nat)], .int .i64 0] W (XAt_ W g B A c T gn gd Z)) := fun W hW => by
    rw [← hz]
    exact remit0 hW hf.next ⟨3, 0, 0, [], t.a⟩
  rw [hZ]
  unfold XAt_ at EM ⊢
  clear h hf hz hZ hk0 ht q0 hok hk2 hk3 b0
  go_enter Tryz.func123, Tryz.ntmps123
  go_wp2_with (first
    | (go_at_call 46; go_loud (refine ct.mono ?_; rintro e v1 ⟨rfl, hb1⟩; have M0 := Lib.hid (Mt_.first (t := t) hb1); clear hb1))
    | (go_at_call 24; (with_reducible refine (C0.out v1 _ M0.out).mono ?_); rintro e u0 ⟨rfl, m0⟩; have M1 := Lib.hid m0; clear m0; obtain ⟨k1, k2, k3, k4, K6⟩ := NX.out v1 u0 M1.out)
    | (go_at_call 91; go_loud (refine (EM.out _ K6.out.1).mono ?_; rintro e w9 ⟨rfl, n9, d9, h9, x9⟩; have S9 := Lib.hid (And.intro h9 (K6.out.2.trans x9)); clear h9 x9)))
  go_end0
  exact ⟨rfl, n9, d9, S9.out.1, S9.out.2⟩

set_option maxRecDepth 100000 in
set_option maxHeartbeats 8000000 in
theorem rfac_false {T : List Tk} {f : Nat} {w : World} {g B : Nat} {A : Option Addr} {c : Nat} {p : PS} {gn gd : Nat} (h : PSe w g B A c T p gn gd) (hf : Fit p) (q0 : p.flt = 0) {t : Tk} (ht : p.tok T = t) (hk2 : t.k ≠ 2) (hk3 : t.k ≠ 3) (b0 : p.is T 1 [116, 114, 117, 101] = false) (b1 : p.is T 1 [102, 97, 108, 115, 101] = true) :
    Calls Tryz.prog 123 #[.pointer (some ⟨g, 0, none⟩)] w (XAt_ w g B A c T gn gd (factorF T (f + 1) p)) := by
  obtain ⟨Z, hZ⟩ : ∃ Z, factorF T (f + 1) p = Z := ⟨_, rfl⟩
  have z0 : ((p.flt : Int) != 0) = false := by rw [q0]; rfl
  have z2 : ((t.k : Int) == 2) = false := beq_eq_false_iff_ne.2 (by omega)
  have z3 : ((t.k : Int) == 3) = false := beq_eq_false_iff_ne.2 (by omega)
  obtain ⟨_, c3, _, _, _⟩ := h.cells
  have ct := xtok_any h ht
  have hil := h.i_lt
  have C0 : Hid (∀ v1 W, Mt_ t w v1 W → Calls Tryz.prog 24 #[.pointer (some ⟨g, 0, none⟩), .int .i64 1, .string ⟨#[116, 114, 117, 101]⟩] W fun r w' => r = .returned (.bool false) ∧ Mt_ t w v1 w') := fun v1 W m => m.is h (k := 1) (s := [116, 114, 117, 101]) b0
  have C1 : Hid (∀ v1 W, Mt_ t w v1 W → Calls Tryz.prog 24 #[.pointer (some ⟨g, 0, none⟩), .int .i64 1, .string ⟨#[102, 97, 108, 115, 101]⟩] W fun r w' => r = .returned (.bool true) ∧ Mt_ t w v1 w') := fun v1 W m => m.is h (k := 1) (s := [102, 97, 108, 115, 101]) b1
  have hz : p.next.emit ⟨4, 0, 0, [], t.a⟩ 0 = Z := by
    rw [← hZ]
    show _ = factorW T (factorF T f) p
    unfold factorW
    dsimp only
    rw [if_neg (fun z => z q0), if_neg (by rw [ht]; exact hk2), if_neg (by rw [ht]; exact hk3), ls_true, if_neg (by rw [b0]; decide), ls_false, if_pos b1]
    rw [ht]
  have hok := is_ok p b1
  have hk0 : (p.tok T).k ≠ 0 := by rw [hok.2.1]; decide
  have NX : Hid (∀ v1 W, Mt_ t w v1 W → W.cell? ⟨g, 1, none⟩ = some (.int .i64 (p.i : Nat)) ∧ W.frozen? ⟨g, 1, none⟩ = false ∧ W.cell? ⟨v1.heap.size, 3, none⟩ = some (.int .i64 (t.a : Nat)) ∧ (W.setCell ⟨g, 1, none⟩ (.int .i64 ((p.i : Int) + 1))).cell? ⟨v1.heap.size, 3, none⟩ = some (.int .i64 (t.a : Nat)) ∧ Hid (PSe (W.setCell ⟨g, 1, none⟩ (.int .i64 ((p.i : Int) + 1))) g B A c T p.next gn gd ∧ Xr g gn gd gn gd w (W.setCell ⟨g, 1, none⟩ (.int .i64 ((p.i : Int) + 1))))) := fun v1 W m => by
    have h1 := h.below m.below
    obtain ⟨a1, _, _, a2, _⟩ := h1.cells
    obtain ⟨s1, s2⟩ := h1.next hk0
    have ap := m.apart h
    have kt := m.tok
    exact ⟨a1, a2, kt.at_ 3, (kt.keep (s2.block v1.heap.size kt.len ap.1 ap.2.1 ap.2.2)).at_ 3, s1, (Xr.of m.below).trans s2⟩
  have EM : Hid (∀ W, PSe W g B A c T p.next gn gd → Calls Tryz.prog 91 #[.pointer (some ⟨g, 0, none⟩), .agg #[.int .i64 4, .int .i64 0, .int .u64 0, .string ⟨#[]⟩, .int .i64 (t.a : Nat)], .int .i64 0] W (XAt_ W g B A c T gn gd Z)) := fun W hW => by
    rw [← hz]
    exact remit0 hW hf.next ⟨4, 0, 0, [], t.a⟩
  rw [hZ]
  unfold XAt_ at EM ⊢
  clear h hf hz hZ hk0 ht q0 hok hk2 hk3 b0 b1
  go_enter Tryz.func123, Tryz.ntmps123
  go_wp2_with (first
    | (go_at_call 46; go_loud (refine ct.mono ?_; rintro e v1 ⟨rfl, hb1⟩; have M0 := Lib.hid (Mt_.first (t := t) hb1); clear hb1))
    | (go_at_call 24; (with_reducible refine (C0.out v1 _ M0.out).mono ?_); rintro e u0 ⟨rfl, m0⟩; have M1 := Lib.hid m0; clear m0)
    | (go_at_call 24; (with_reducible refine (C1.out v1 _ M1.out).mono ?_); rintro e u1 ⟨rfl, m1⟩; have M2 := Lib.hid m1; clear m1; obtain ⟨k1, k2, k3, k4, K6⟩ := NX.out v1 u1 M2.out)
    | (go_at_call 91; go_loud (refine (EM.out _ K6.out.1).mono ?_; rintro e w9 ⟨rfl, n9, d9, h9, x9⟩; have S9 := Lib.hid (And.intro h9 (K6.out.2.trans x9)); clear h9 x9)))
  go_end0
  exact ⟨rfl, n9, d9, S9.out.1, S9.out.2⟩

set_option maxRecDepth 100000 in
set_option maxHeartbeats 8000000 in
theorem rfac_rest {T : List Tk} {f : Nat} {w : World} {g B : Nat} {A : Option Addr} {c : Nat} {p : PS} {gn gd : Nat} (F : RF T f) (h : PSe w g B A c T p gn gd) (hf : Fit p) (hc : T.length < p.i + 1 + f) (q0 : p.flt = 0) {t : Tk} (ht : p.tok T = t) (hk2 : t.k ≠ 2) (hk3 : t.k ≠ 3) (b0 : p.is T 1 [116, 114, 117, 101] = false) (b1 : p.is T 1 [102, 97, 108, 115, 101] = false) (b2 : p.is T 4 [45] = false) (b3 : p.is T 4 [40] = false) :
    Calls Tryz.prog 123 #[.pointer (some ⟨g, 0, none⟩)] w (XAt_ w g B A c T gn gd (factorF T (f + 1) p)) := by
  obtain ⟨Z, hZ⟩ : ∃ Z, factorF T (f + 1) p = Z := ⟨_, rfl⟩
  have z0 : ((p.flt : Int) != 0) = false := by rw [q0]; rfl
  have z2 : ((t.k : Int) == 2) = false := beq_eq_false_iff_ne.2 (by omega)
  have z3 : ((t.k : Int) == 3) = false := beq_eq_false_iff_ne.2 (by omega)
  obtain ⟨_, c3, _, _, _⟩ := h.cells
  have ct := xtok_any h ht
  have hil := h.i_lt
  have C0 : Hid (∀ v1 W, Mt_ t w v1 W → Calls Tryz.prog 24 #[.pointer (some ⟨g, 0, none⟩), .int .i64 1, .string ⟨#[116, 114, 117, 101]⟩] W fun r w' => r = .returned (.bool false) ∧ Mt_ t w v1 w') := fun v1 W m => m.is h (k := 1) (s := [116, 114, 117, 101]) b0
  have C1 : Hid (∀ v1 W, Mt_ t w v1 W → Calls Tryz.prog 24 #[.pointer (some ⟨g, 0, none⟩), .int .i64 1, .string ⟨#[102, 97, 108, 115, 101]⟩] W fun r w' => r = .returned (.bool false) ∧ Mt_ t w v1 w') := fun v1 W m => m.is h (k := 1) (s := [102, 97, 108, 115, 101]) b1
  have C2 : Hid (∀ v1 W, Mt_ t w v1 W → Calls Tryz.prog 24 #[.pointer (some ⟨g, 0, none⟩), .int .i64 4, .string ⟨#[45]⟩] W fun r w' => r = .returned (.bool false) ∧ Mt_ t w v1 w') := fun v1 W m => m.is h (k := 4) (s := [45]) b2
  have C3 : Hid (∀ v1 W, Mt_ t w v1 W → Calls Tryz.prog 24 #[.pointer (some ⟨g, 0, none⟩), .int .i64 4, .string ⟨#[40]⟩] W fun r w' => r = .returned (.bool false) ∧ Mt_ t w v1 w') := fun v1 W m => m.is h (k := 4) (s := [40]) b3
  have hz : callsW_ T (factorF T f) p = Z := by
    rw [← hZ]
    show _ = factorW T (factorF T f) p
    unfold factorW
    dsimp only
    rw [if_neg (fun z => z q0), if_neg (by rw [ht]; exact hk2), if_neg (by rw [ht]; exact hk3), ls_true, if_neg (by rw [b0]; decide), ls_false, if_neg (by rw [b1]; decide), if_neg (by rw [b2]; decide), if_neg (by rw [b3]; decide), ls_cat, ls_rep, ls_len, ls_hex]
    rfl
  have TK : Hid (∀ v1 W, Mt_ t w v1 W → W.cell? ⟨v1.heap.size, 0, none⟩ = some (.int .i64 (t.k : Nat)) ∧ W.cell? ⟨v1.heap.size, 1, none⟩ = some (.string (str t.t)) ∧ W.cell? ⟨v1.heap.size, 2, none⟩ = some (.int .u64 (t.n : Nat)) ∧ W.cell? ⟨v1.heap.size, 3, none⟩ = some (.int .i64 (t.a : Nat)) ∧ W.cell? ⟨v1.heap.size, 4, none⟩ = some (.int .i64 (t.e : Nat))) := fun v1 W m =>
    ⟨m.tok.at_ 0, m.tok.at_ 1, m.tok.at_ 2, m.tok.at_ 3, m.tok.at_ 4⟩
  have CC : Hid (∀ v1 W, Mt_ t w v1 W → Calls Tryz.prog 143 #[.pointer (some ⟨g, 0, none⟩), .agg #[.int .i64 (t.k : Nat), .string (str t.t), .int .u64 (t.n : Nat), .int .i64 (t.a : Nat), .int .i64 (t.e : Nat)]] W (XAt_ w g B A c T gn gd Z)) := fun v1 W m => by
    refine (rcalls_any F (h.below m.below) hf hc ht).mono ?_
    rintro r w' ⟨rfl, n', d', h1, h2⟩
    rw [hz] at h1
    exact ⟨rfl, n', d', h1, (Xr.of m.below).trans h2⟩
  rw [hZ]
  unfold XAt_ at CC ⊢
  clear h hf hz hZ ht q0 hk2 hk3 hc F b0 b1 b2 b3
  go_enter Tryz.func123, Tryz.ntmps123
  go_wp2_with (first
    | (go_at_call 46; go_loud (refine ct.mono ?_; rintro e v1 ⟨rfl, hb1⟩; have M0 := Lib.hid (Mt_.first (t := t) hb1); clear hb1))
    | (go_at_call 24; (with_reducible refine (C0.out v1 _ M0.out).mono ?_); rintro e u0 ⟨rfl, m0⟩; have M1 := Lib.hid m0; clear m0)
    | (go_at_call 24; (with_reducible refine (C1.out v1 _ M1.out).mono ?_); rintro e u1 ⟨rfl, m1⟩; have M2 := Lib.hid m1; clear m1)
    | (go_at_call 24; (with_reducible refine (C2.out v1 _ M2.out).mono ?_); rintro e u2 ⟨rfl, m2⟩; have M3 := Lib.hid m2; clear m2)
    | (go_at_call 24; (with_reducible refine (C3.out v1 _ M3.out).mono ?_); rintro e u3 ⟨rfl, m3⟩; have M4 := Lib.hid m3; clear m3; obtain ⟨e0, e1, e2, e3, e4⟩ := TK.out v1 u3 M4.out)
    | (go_at_call 143; go_loud (refine (CC.out v1 _ M4.out).mono ?_; rintro e w9 ⟨rfl, n9, d9, h9, x9⟩; have S9 := Lib.hid (And.intro h9 x9); clear h9 x9)))
  go_end0
  exact ⟨rfl, n9, d9, S9.out.1, S9.out.2⟩

end Go.Proofs.YtbngelinfpaefaaGreatDoor
