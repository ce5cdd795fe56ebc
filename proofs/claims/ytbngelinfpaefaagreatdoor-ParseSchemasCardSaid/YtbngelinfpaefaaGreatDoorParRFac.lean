/- The walk of the reference: a factor, case by case. -/
import Derived.Test.YtbngelinfpaefaaGreatDoorParRCalls
namespace Go.Proofs.YtbngelinfpaefaaGreatDoor
open Go.RowKit

/-- a leaf's node -/
theorem remit0 {w : World} {g B : Nat} {A : Option Addr} {c : Nat} {T : List Tk} {p : PS} {gn gd : Nat} (h : PSe w g B A c T p gn gd) (hf : Fit p) (x : Nd) :
    Calls Tryz.prog 91 #[.pointer (some ⟨g, 0, none⟩), .agg #[.int .i64 (x.op : Nat), .int .i64 (x.n : Nat), .int .u64 (x.num : Nat), .string (str x.t), .int .i64 (x.a : Nat)], .int .i64 0] w (XAt_ w g B A c T gn gd (p.emit x 0)) := by
  have hi := h.i_lt
  have hn := hf.n
  have hd := hf.d
  exact remit_any h x 0 (fun _ => Nat.zero_le _) (by omega) (by omega)

set_option maxRecDepth 100000 in
set_option maxHeartbeats 8000000 in
theorem rfac_stuck {T : List Tk} {f : Nat} {w : World} {g B : Nat} {A : Option Addr} {c : Nat} {p : PS} {gn gd : Nat} (h : PSe w g B A c T p gn gd) (q0 : p.flt ≠ 0) :
    Calls Tryz.prog 123 #[.pointer (some ⟨g, 0, none⟩)] w (XAt_ w g B A c T gn gd (factorF T (f + 1) p)) := by
  have hz : factorF T (f + 1) p = p := by
    show factorW T (factorF T f) p = p
    unfold factorW
    exact if_pos q0
  have z0 : ((p.flt : Int) != 0) = true := by simp; omega
  obtain ⟨_, c3, _, _, _⟩ := h.cells
  have END : Hid (PSe w g B A c T (factorF T (f + 1) p) gn gd) := by rw [hz]; exact h
  unfold XAt_
  clear h q0 hz
  go_enter Tryz.func123, Tryz.ntmps123
  go_wp2
  refine bodyPost_ret (results_none rfl _ _ _) rfl ?_
  exact ⟨rfl, gn, gd, END.out, Xr.of (Below.refl _ _)⟩


set_option maxRecDepth 100000 in
set_option maxHeartbeats 8000000 in
theorem rfac_num {T : List Tk} {f : Nat} {w : World} {g B : Nat} {A : Option Addr} {c : Nat} {p : PS} {gn gd : Nat} (h : PSe w g B A c T p gn gd) (hf : Fit p) (q0 : p.flt = 0) {t : Tk} (ht : p.tok T = t) (hk : t.k = 2) :
    Calls Tryz.prog 123 #[.pointer (some ⟨g, 0, none⟩)] w (XAt_ w g B A c T gn gd (factorF T (f + 1) p)) := by
  obtain ⟨Z, hZ⟩ : ∃ Z, factorF T (f + 1) p = Z := ⟨_, rfl⟩
  have hz : p.next.emit ⟨1, 0, t.n, [], t.a⟩ 0 = Z := by
    rw [← hZ]
    show _ = factorW T (factorF T f) p
    unfold factorW
    dsimp only
    rw [if_neg (fun z => z q0), if_pos (by rw [ht]; exact hk)]
    rw [ht]
  have z0 : ((p.flt : Int) != 0) = false := by rw [q0]; rfl
  have z2 : ((t.k : Int) == 2) = true := by rw [hk]; rfl
  obtain ⟨_, c3, _, _, _⟩ := h.cells
  have ct := xtok_any h ht
  have hk0 : (p.tok T).k ≠ 0 := by rw [ht, hk]; decide
  have hil := h.i_lt
  have NX : Hid (∀ v1, Below w.heap.size w v1 → (∃ v, (v1.alloc (.cells #[.int .i64 (t.k : Nat), .string (str t.t), .int .u64 (t.n : Nat), .int .i64 (t.a : Nat), .int .i64 (t.e : Nat)] 78)).cell? ⟨g, 1, none⟩ = some v) ∧ (v1.alloc (.cells #[.int .i64 (t.k : Nat), .string (str t.t), .int .u64 (t.n : Nat), .int .i64 (t.a : Nat), .int .i64 (t.e : Nat)] 78)).cell? ⟨g, 1, none⟩ = some (.int .i64 (p.i : Nat)) ∧ (v1.alloc (.cells #[.int .i64 (t.k : Nat), .string (str t.t), .int .u64 (t.n : Nat), .int .i64 (t.a : Nat), .int .i64 (t.e : Nat)] 78)).frozen? ⟨g, 1, none⟩ = false ∧ v1.cell? ⟨g, 1, none⟩ = some (.int .i64 (p.i : Nat)) ∧ v1.frozen? ⟨g, 1, none⟩ = false ∧ g < v1.heap.size ∧ Hid (PSe ((v1.setCell ⟨g, 1, none⟩ (.int .i64 ((p.i : Int) + 1))).alloc (.cells #[.int .i64 (t.k : Nat), .string (str t.t), .int .u64 (t.n : Nat), .int .i64 (t.a : Nat), .int .i64 (t.e : Nat)] 78)) g B A c T p.next gn gd ∧ Xr g gn gd gn gd w ((v1.setCell ⟨g, 1, none⟩ (.int .i64 ((p.i : Int) + 1))).alloc (.cells #[.int .i64 (t.k : Nat), .string (str t.t), .int .u64 (t.n : Nat), .int .i64 (t.a : Nat), .int .i64 (t.e : Nat)] 78)))) := fun v1 hb1 => by
    have h1 := h.below hb1
    have hba : Below v1.heap.size v1 (v1.alloc (.cells #[.int .i64 (t.k : Nat), .string (str t.t), .int .u64 (t.n : Nat), .int .i64 (t.a : Nat), .int .i64 (t.e : Nat)] 78)) := (Below.refl _ v1).alloc (Nat.le_refl _) _
    obtain ⟨a1, _, _, a2, _⟩ := h1.cells
    obtain ⟨b1, _, _, b2, _⟩ := (h1.below hba).cells
    obtain ⟨s1, s2⟩ := h1.next hk0
    have hbb : Below (v1.setCell ⟨g, 1, none⟩ (.int .i64 ((p.i : Int) + 1))).heap.size (v1.setCell ⟨g, 1, none⟩ (.int .i64 ((p.i : Int) + 1))) ((v1.setCell ⟨g, 1, none⟩ (.int .i64 ((p.i : Int) + 1))).alloc (.cells #[.int .i64 (t.k : Nat), .string (str t.t), .int .u64 (t.n : Nat), .int .i64 (t.a : Nat), .int .i64 (t.e : Nat)] 78)) := (Below.refl _ _).alloc (Nat.le_refl _) _
    exact ⟨⟨_, b1⟩, b1, b2, a1, a2, h1.len, s1.below hbb, ((Xr.of hb1).trans s2).trans (Xr.of hbb)⟩
  have EM : Hid (∀ W, PSe W g B A c T p.next gn gd → Calls Tryz.prog 91 #[.pointer (some ⟨g, 0, none⟩), .agg #[.int .i64 1, .int .i64 0, .int .u64 (t.n : Nat), .string ⟨#[]⟩, .int .i64 (t.a : Nat)], .int .i64 0] W (XAt_ W g B A c T gn gd Z)) := fun W hW => by
    rw [← hz]
    exact remit0 hW hf.next ⟨1, 0, t.n, [], t.a⟩
  rw [hZ]
  unfold XAt_ at EM ⊢
  clear h hf hz hZ hk0 ht q0 hk
  go_enter Tryz.func123, Tryz.ntmps123
  go_wp2_with (first
    | (go_at_call 46; go_loud (refine ct.mono ?_; rintro e v1 ⟨rfl, hb1⟩; obtain ⟨k0, k1, k2, k3, k4, k5, K6⟩ := NX.out v1 hb1; clear hb1))
    | (go_at_call 91; go_loud (refine (EM.out _ K6.out.1).mono ?_; rintro e w9 ⟨rfl, n9, d9, h9, x9⟩; have S9 := Lib.hid (And.intro h9 (K6.out.2.trans x9)); clear h9 x9)))
  go_end0
  exact ⟨rfl, n9, d9, S9.out.1, S9.out.2⟩

set_option maxRecDepth 100000 in
set_option maxHeartbeats 8000000 in
theorem rfac_text {T : List Tk} {f : Nat} {w : World} {g B : Nat} {A : Option Addr} {c : Nat} {p : PS} {gn gd : Nat} (h : PSe w g B A c T p gn gd) (hf : Fit p) (q0 : p.flt = 0) {t : Tk} (ht : p.tok T = t) (hk : t.k = 3) :
    Calls Tryz.prog 123 #[.pointer (some ⟨g, 0, none⟩)] w (XAt_ w g B A c T gn gd (factorF T (f + 1) p)) := by
  obtain ⟨Z, hZ⟩ : ∃ Z, factorF T (f + 1) p = Z := ⟨_, rfl⟩
  have hz : p.next.emit ⟨2, 0, 0, t.t, t.a⟩ 0 = Z := by
    rw [← hZ]
    show _ = factorW T (factorF T f) p
    unfold factorW
    dsimp only
    rw [if_neg (fun z => z q0), if_neg (by rw [ht, hk]; decide), if_pos (by rw [ht]; exact hk)]
    rw [ht]
  have z0 : ((p.flt : Int) != 0) = false := by rw [q0]; rfl
  have z2 : ((t.k : Int) == 2) = false := by rw [hk]; rfl
  have z3 : ((t.k : Int) == 3) = true := by rw [hk]; rfl
  obtain ⟨_, c3, _, _, _⟩ := h.cells
  have ct := xtok_any h ht
  have hk0 : (p.tok T).k ≠ 0 := by rw [ht, hk]; decide
  have hil := h.i_lt
  have NX : Hid (∀ v1, Below w.heap.size w v1 → (∃ v, (v1.alloc (.cells #[.int .i64 (t.k : Nat), .string (str t.t), .int .u64 (t.n : Nat), .int .i64 (t.a : Nat), .int .i64 (t.e : Nat)] 78)).cell? ⟨g, 1, none⟩ = some v) ∧ (v1.alloc (.cells #[.int .i64 (t.k : Nat), .string (str t.t), .int .u64 (t.n : Nat), .int .i64 (t.a : Nat), .int .i64 (t.e : Nat)] 78)).cell? ⟨g, 1, none⟩ = some (.int .i64 (p.i : Nat)) ∧ (v1.alloc (.cells #[.int .i64 (t.k : Nat), .string (str t.t), .int .u64 (t.n : Nat), .int .i64 (t.a : Nat), .int .i64 (t.e : Nat)] 78)).frozen? ⟨g, 1, none⟩ = false ∧ v1.cell? ⟨g, 1, none⟩ = some (.int .i64 (p.i : Nat)) ∧ v1.frozen? ⟨g, 1, none⟩ = false ∧ g < v1.heap.size ∧ Hid (PSe ((v1.setCell ⟨g, 1, none⟩ (.int .i64 ((p.i : Int) + 1))).alloc (.cells #[.int .i64 (t.k : Nat), .string (str t.t), .int .u64 (t.n : Nat), .int .i64 (t.a : Nat), .int .i64 (t.e : Nat)] 78)) g B A c T p.next gn gd ∧ Xr g gn gd gn gd w ((v1.setCell ⟨g, 1, none⟩ (.int .i64 ((p.i : Int) + 1))).alloc (.cells #[.int .i64 (t.k : Nat), .string (str t.t), .int .u64 (t.n : Nat), .int .i64 (t.a : Nat), .int .i64 (t.e : Nat)] 78)))) := fun v1 hb1 => by
    have h1 := h.below hb1
    have hba : Below v1.heap.size v1 (v1.alloc (.cells #[.int .i64 (t.k : Nat), .string (str t.t), .int .u64 (t.n : Nat), .int .i64 (t.a : Nat), .int .i64 (t.e : Nat)] 78)) := (Below.refl _ v1).alloc (Nat.le_refl _) _
    obtain ⟨a1, _, _, a2, _⟩ := h1.cells
    obtain ⟨b1, _, _, b2, _⟩ := (h1.below hba).cells
    obtain ⟨s1, s2⟩ := h1.next hk0
    have hbb : Below (v1.setCell ⟨g, 1, none⟩ (.int .i64 ((p.i : Int) + 1))).heap.size (v1.setCell ⟨g, 1, none⟩ (.int .i64 ((p.i : Int) + 1))) ((v1.setCell ⟨g, 1, none⟩ (.int .i64 ((p.i : Int) + 1))).alloc (.cells #[.int .i64 (t.k : Nat), .string (str t.t), .int .u64 (t.n : Nat), .int .i64 (t.a : Nat), .int .i64 (t.e : Nat)] 78)) := (Below.refl _ _).alloc (Nat.le_refl _) _
    exact ⟨⟨_, b1⟩, b1, b2, a1, a2, h1.len, s1.below hbb, ((Xr.of hb1).trans s2).trans (Xr.of hbb)⟩
  have EM : Hid (∀ W, PSe W g B A c T p.next gn gd → Calls Tryz.prog 91 #[.pointer (some ⟨g, 0, none⟩), .agg #[.int .i64 2, .int .i64 0, .int .u64 0, .string (str t.t), .int .i64 (t.a : Nat)], .int .i64 0] W (XAt_ W g B A c T gn gd Z)) := fun W hW => by
    rw [← hz]
    exact remit0 hW hf.next ⟨2, 0, 0, t.t, t.a⟩
  rw [hZ]
  unfold XAt_ at EM ⊢
  clear h hf hz hZ hk0 ht q0 hk
  go_enter Tryz.func123, Tryz.ntmps123
  go_wp2_with (first
    | (go_at_call 46; go_loud (refine ct.mono ?_; rintro e v1 ⟨rfl, hb1⟩; obtain ⟨k0, k1, k2, k3, k4, k5, K6⟩ := NX.out v1 hb1; clear hb1))
    | (go_at_call 91; go_loud (refine (EM.out _ K6.out.1).mono ?_; rintro e w9 ⟨rfl, n9, d9, h9, x9⟩; have S9 := Lib.hid (And.intro h9 (K6.out.2.trans x9)); clear h9 x9)))
  go_end0
  exact ⟨rfl, n9, d9, S9.out.1, S9.out.2⟩
end Go.Proofs.YtbngelinfpaefaaGreatDoor
