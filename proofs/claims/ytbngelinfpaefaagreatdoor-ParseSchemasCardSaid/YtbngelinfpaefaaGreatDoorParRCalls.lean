/- The walk of the reference: a word that may be a call's. -/
import Derived.Test.YtbngelinfpaefaaGreatDoorParRCall
namespace Go.Proofs.YtbngelinfpaefaaGreatDoor
open Go.RowKit

/-- what a word (or a mark that no factor begins with) comes to -/
def callsW_ (T : List Tk) (fac : PS → PS) (p : PS) : PS :=
  if p.is T 1 [99, 97, 116] then callW T fac 9 0 p
  else if p.is T 1 [114, 101, 112] then callW T fac 10 2 p
  else if p.is T 1 [108, 101, 110] then callW T fac 11 1 p
  else if p.is T 1 [104, 101, 120] then callW T fac 12 1 p
  else p.fail (p.tok T).a 90

set_option maxRecDepth 100000 in
set_option maxHeartbeats 8000000 in
theorem rcalls_any {T : List Tk} {f : Nat} (F : RF T f) {w : World} {g B : Nat} {A : Option Addr} {c : Nat} {p : PS} {gn gd : Nat} (h : PSe w g B A c T p gn gd) (hf : Fit p) (hc : T.length < p.i + 1 + f) {t : Tk} (ht : p.tok T = t) :
    Calls Tryz.prog 143 #[.pointer (some ⟨g, 0, none⟩), .agg #[.int .i64 (t.k : Nat), .string (str t.t), .int .u64 (t.n : Nat), .int .i64 (t.a : Nat), .int .i64 (t.e : Nat)]] w (XAt_ w g B A c T gn gd (callsW_ T (factorF T f) p)) := by
  obtain ⟨Z, hZ⟩ : ∃ Z, callsW_ T (factorF T f) p = Z := ⟨_, rfl⟩
  have B0 : Below w.heap.size w (w.alloc (.cells #[.int .i64 (t.k : Nat), .string (str t.t), .int .u64 (t.n : Nat), .int .i64 (t.a : Nat), .int .i64 (t.e : Nat)] 78)) := (Below.refl _ w).alloc (Nat.le_refl _) _
  have K0 : CB (w.alloc (.cells #[.int .i64 (t.k : Nat), .string (str t.t), .int .u64 (t.n : Nat), .int .i64 (t.a : Nat), .int .i64 (t.e : Nat)] 78)) w.heap.size 78 #[.int .i64 (t.k : Nat), .string (str t.t), .int .u64 (t.n : Nat), .int .i64 (t.a : Nat), .int .i64 (t.e : Nat)] := CB.new _ _ _
  obtain ⟨b0, hb0⟩ : ∃ b, p.is T 1 [99, 97, 116] = b := ⟨_, rfl⟩
  have C0 : Hid (∀ W, Below (w.alloc (.cells #[.int .i64 (t.k : Nat), .string (str t.t), .int .u64 (t.n : Nat), .int .i64 (t.a : Nat), .int .i64 (t.e : Nat)] 78)).heap.size (w.alloc (.cells #[.int .i64 (t.k : Nat), .string (str t.t), .int .u64 (t.n : Nat), .int .i64 (t.a : Nat), .int .i64 (t.e : Nat)] 78)) W → Calls Tryz.prog 24 #[.pointer (some ⟨g, 0, none⟩), .int .i64 1, .string ⟨#[99, 97, 116]⟩] W fun r w' => r = .returned (.bool b0) ∧ Below (w.alloc (.cells #[.int .i64 (t.k : Nat), .string (str t.t), .int .u64 (t.n : Nat), .int .i64 (t.a : Nat), .int .i64 (t.e : Nat)] 78)).heap.size (w.alloc (.cells #[.int .i64 (t.k : Nat), .string (str t.t), .int .u64 (t.n : Nat), .int .i64 (t.a : Nat), .int .i64 (t.e : Nat)] 78)) w') := fun W hW => by
    have ci := xis_any (h.below (Below.both B0 hW)) 1 [99, 97, 116]
    rw [hb0] at ci
    change Calls _ _ #[_, .int .i64 1, .string ⟨#[99, 97, 116]⟩] _ _ at ci
    refine ci.mono ?_
    rintro r w' ⟨rfl, h2⟩
    exact ⟨rfl, Below.both hW h2⟩
  have D0 : Hid (∀ W, Below (w.alloc (.cells #[.int .i64 (t.k : Nat), .string (str t.t), .int .u64 (t.n : Nat), .int .i64 (t.a : Nat), .int .i64 (t.e : Nat)] 78)).heap.size (w.alloc (.cells #[.int .i64 (t.k : Nat), .string (str t.t), .int .u64 (t.n : Nat), .int .i64 (t.a : Nat), .int .i64 (t.e : Nat)] 78)) W → b0 = true → callW T (factorF T f) 9 0 p = Z → Calls Tryz.prog 160 #[.pointer (some ⟨g, 0, none⟩), .int .i64 9, .int .i64 0] W (XAt_ w g B A c T gn gd Z)) := fun W hW hb hz => by
    have hok := is_ok p (hb0.trans hb)
    refine (rcall_any F (h.below (Below.both B0 hW)) hf (by rw [hok.2.1]; decide) hc 9 0 (by decide) (by decide)).mono ?_
    rintro r w' ⟨rfl, n', d', h1, h2⟩
    rw [hz] at h1
    exact ⟨rfl, n', d', h1, (Xr.of (Below.both B0 hW)).trans h2⟩
  obtain ⟨b1, hb1⟩ : ∃ b, p.is T 1 [114, 101, 112] = b := ⟨_, rfl⟩
  have C1 : Hid (∀ W, Below (w.alloc (.cells #[.int .i64 (t.k : Nat), .string (str t.t), .int .u64 (t.n : Nat), .int .i64 (t.a : Nat), .int .i64 (t.e : Nat)] 78)).heap.size (w.alloc (.cells #[.int .i64 (t.k : Nat), .string (str t.t), .int .u64 (t.n : Nat), .int .i64 (t.a : Nat), .int .i64 (t.e : Nat)] 78)) W → Calls Tryz.prog 24 #[.pointer (some ⟨g, 0, none⟩), .int .i64 1, .string ⟨#[114, 101, 112]⟩] W fun r w' => r = .returned (.bool b1) ∧ Below (w.alloc (.cells #[.int .i64 (t.k : Nat), .string (str t.t), .int .u64 (t.n : Nat), .int .i64 (t.a : Nat), .int .i64 (t.e : Nat)] 78)).heap.size (w.alloc (.cells #[.int .i64 (t.k : Nat), .string (str t.t), .int .u64 (t.n : Nat), .int .i64 (t.a : Nat), .int .i64 (t.e : Nat)] 78)) w') := fun W hW => by
    have ci := xis_any (h.below (Below.both B0 hW)) 1 [114, 101, 112]
    rw [hb1] at ci
    change Calls _ _ #[_, .int .i64 1, .string ⟨#[114, 101, 112]⟩] _ _ at ci
    refine ci.mono ?_
    rintro r w' ⟨rfl, h2⟩
    exact ⟨rfl, Below.both hW h2⟩
  have D1 : Hid (∀ W, Below (w.alloc (.cells #[.int .i64 (t.k : Nat), .string (str t.t), .int .u64 (t.n : Nat), .int .i64 (t.a : Nat), .int .i64 (t.e : Nat)] 78)).heap.size (w.alloc (.cells #[.int .i64 (t.k : Nat), .string (str t.t), .int .u64 (t.n : Nat), .int .i64 (t.a : Nat), .int .i64 (t.e : Nat)] 78)) W → b1 = true → callW T (factorF T f) 10 2 p = Z → Calls Tryz.prog 160 #[.pointer (some ⟨g, 0, none⟩), .int .i64 10, .int .i64 2] W (XAt_ w g B A c T gn gd Z)) := fun W hW hb hz => by
    have hok := is_ok p (hb1.trans hb)
    refine (rcall_any F (h.below (Below.both B0 hW)) hf (by rw [hok.2.1]; decide) hc 10 2 (by decide) (by decide)).mono ?_
    rintro r w' ⟨rfl, n', d', h1, h2⟩
    rw [hz] at h1
    exact ⟨rfl, n', d', h1, (Xr.of (Below.both B0 hW)).trans h2⟩
  obtain ⟨b2, hb2⟩ : ∃ b, p.is T 1 [108, 101, 110] = b := ⟨_, rfl⟩
  have C2 : Hid (∀ W, Below (w.alloc (.cells #[.int .i64 (t.k : Nat), .string (str t.t), .int .u64 (t.n : Nat), .int .i64 (t.a : Nat), .int .i64 (t.e : Nat)] 78)).heap.size (w.alloc (.cells #[.int .i64 (t.k : Nat), .string (str t.t), .int .u64 (t.n : Nat), .int .i64 (t.a : Nat), .int .i64 (t.e : Nat)] 78)) W → Calls Tryz.prog 24 #[.pointer (some ⟨g, 0, none⟩), .int .i64 1, .string ⟨#[108, 101, 110]⟩] W fun r w' => r = .returned (.bool b2) ∧ Below (w.alloc (.cells #[.int .i64 (t.k : Nat), .string (str t.t), .int .u64 (t.n : Nat), .int .i64 (t.a : Nat), .int .i64 (t.e : Nat)] 78)).heap.size (w.alloc (.cells #[.int .i64 (t.k : Nat), .string (str t.t), .int .u64 (t.n : Nat), .int .i64 (t.a : Nat), .int .i64 (t.e : Nat)] 78)) w') := fun W hW => by
    have ci := xis_any (h.below (Below.both B0 hW)) 1 [108, 101, 110]
    rw [hb2] at ci
    change Calls _ _ #[_, .int .i64 1, .string ⟨#[108, 101, 110]⟩] _ _ at ci
    refine ci.mono ?_
    rintro r w' ⟨rfl, h2⟩
    exact ⟨rfl, Below.both hW h2⟩
  have D2 : Hid (∀ W, Below (w.alloc (.cells #[.int .i64 (t.k : Nat), .string (str t.t), .int .u64 (t.n : Nat), .int .i64 (t.a : Nat), .int .i64 (t.e : Nat)] 78)).heap.size (w.alloc (.cells #[.int .i64 (t.k : Nat), .string (str t.t), .int .u64 (t.n : Nat), .int .i64 (t.a : Nat), .int .i64 (t.e : Nat)] 78)) W → b2 = true → callW T (factorF T f) 11 1 p = Z → Calls Tryz.prog 160 #[.pointer (some ⟨g, 0, none⟩), .int .i64 11, .int .i64 1] W (XAt_ w g B A c T gn gd Z)) := fun W hW hb hz => by
    have hok := is_ok p (hb2.trans hb)
    refine (rcall_any F (h.below (Below.both B0 hW)) hf (by rw [hok.2.1]; decide) hc 11 1 (by decide) (by decide)).mono ?_
    rintro r w' ⟨rfl, n', d', h1, h2⟩
    rw [hz] at h1
    exact ⟨rfl, n', d', h1, (Xr.of (Below.both B0 hW)).trans h2⟩
  obtain ⟨b3, hb3⟩ : ∃ b, p.is T 1 [104, 101, 120] = b := ⟨_, rfl⟩
  have C3 : Hid (∀ W, Below (w.alloc (.cells #[.int .i64 (t.k : Nat), .string (str t.t), .int .u64 (t.n : Nat), .int .i64 (t.a : Nat), .int .i64 (t.e : Nat)] 78)).heap.size (w.alloc (.cells #[.int .i64 (t.k : Nat), .string (str t.t), .int .u64 (t.n : Nat), .int .i64 (t.a : Nat), .int .i64 (t.e : Nat)] 78)) W → Calls Tryz.prog 24 #[.pointer (some ⟨g, 0, none⟩), .int .i64 1, .string ⟨#[104, 101, 120]⟩] W fun r w' => r = .returned (.bool b3) ∧ Below (w.alloc (.cells #[.int .i64 (t.k : Nat), .string (str t.t), .int .u64 (t.n : Nat), .int .i64 (t.a : Nat), .int .i64 (t.e : Nat)] 78)).heap.size (w.alloc (.cells #[.int .i64 (t.k : Nat), .string (str t.t), .int .u64 (t.n : Nat), .int .i64 (t.a : Nat), .int .i64 (t.e : Nat)] 78)) w') := fun W hW => by
    have ci := xis_any (h.below (Below.both B0 hW)) 1 [104, 101, 120]
    rw [hb3] at ci
    change Calls _ _ #[_, .int .i64 1, .string ⟨#[104, 101, 120]⟩] _ _ at ci
    refine ci.mono ?_
    rintro r w' ⟨rfl, h2⟩
    exact ⟨rfl, Below.both hW h2⟩
  have D3 : Hid (∀ W, Below (w.alloc (.cells #[.int .i64 (t.k : Nat), .string (str t.t), .int .u64 (t.n : Nat), .int .i64 (t.a : Nat), .int .i64 (t.e : Nat)] 78)).heap.size (w.alloc (.cells #[.int .i64 (t.k : Nat), .string (str t.t), .int .u64 (t.n : Nat), .int .i64 (t.a : Nat), .int .i64 (t.e : Nat)] 78)) W → b3 = true → callW T (factorF T f) 12 1 p = Z → Calls Tryz.prog 160 #[.pointer (some ⟨g, 0, none⟩), .int .i64 12, .int .i64 1] W (XAt_ w g B A c T gn gd Z)) := fun W hW hb hz => by
    have hok := is_ok p (hb3.trans hb)
    refine (rcall_any F (h.below (Below.both B0 hW)) hf (by rw [hok.2.1]; decide) hc 12 1 (by decide) (by decide)).mono ?_
    rintro r w' ⟨rfl, n', d', h1, h2⟩
    rw [hz] at h1
    exact ⟨rfl, n', d', h1, (Xr.of (Below.both B0 hW)).trans h2⟩
  have DF : Hid (∀ W, Below (w.alloc (.cells #[.int .i64 (t.k : Nat), .string (str t.t), .int .u64 (t.n : Nat), .int .i64 (t.a : Nat), .int .i64 (t.e : Nat)] 78)).heap.size (w.alloc (.cells #[.int .i64 (t.k : Nat), .string (str t.t), .int .u64 (t.n : Nat), .int .i64 (t.a : Nat), .int .i64 (t.e : Nat)] 78)) W → p.fail t.a 90 = Z → Calls Tryz.prog 51 #[.pointer (some ⟨g, 0, none⟩), .int .i64 (t.a : Nat), .int .i64 90] W (XAt_ w g B A c T gn gd Z)) := fun W hW hz => by
    refine (xfail_any (h.below (Below.both B0 hW)) t.a 90).mono ?_
    rintro r w' ⟨rfl, h1, h2⟩
    rw [hz] at h1
    exact ⟨rfl, gn, gd, h1, (Xr.of (Below.both B0 hW)).trans h2⟩
  have BB : Hid (Below (w.alloc (.cells #[.int .i64 (t.k : Nat), .string (str t.t), .int .u64 (t.n : Nat), .int .i64 (t.a : Nat), .int .i64 (t.e : Nat)] 78)).heap.size (w.alloc (.cells #[.int .i64 (t.k : Nat), .string (str t.t), .int .u64 (t.n : Nat), .int .i64 (t.a : Nat), .int .i64 (t.e : Nat)] 78)) (w.alloc (.cells #[.int .i64 (t.k : Nat), .string (str t.t), .int .u64 (t.n : Nat), .int .i64 (t.a : Nat), .int .i64 (t.e : Nat)] 78))) := Below.refl _ _
  have KK : Hid (∀ W, Below (w.alloc (.cells #[.int .i64 (t.k : Nat), .string (str t.t), .int .u64 (t.n : Nat), .int .i64 (t.a : Nat), .int .i64 (t.e : Nat)] 78)).heap.size (w.alloc (.cells #[.int .i64 (t.k : Nat), .string (str t.t), .int .u64 (t.n : Nat), .int .i64 (t.a : Nat), .int .i64 (t.e : Nat)] 78)) W → W.cell? ⟨w.heap.size, 3, none⟩ = some (.int .i64 (t.a : Nat))) := fun W hW => (K0.keep (hW.block w.heap.size K0.len)).at_ 3
  have hZ2 : Hid (Z = if b0 = true then callW T (factorF T f) 9 0 p else if b1 = true then callW T (factorF T f) 10 2 p else if b2 = true then callW T (factorF T f) 11 1 p else if b3 = true then callW T (factorF T f) 12 1 p else p.fail t.a 90) := by
    rw [← hZ, ← hb0, ← hb1, ← hb2, ← hb3, ← ht]
    rfl
  rw [hZ]
  unfold XAt_
  clear hZ hb0 hb1 hb2 hb3 ht h hf hc F B0 K0
  go_enter Tryz.func143, Tryz.ntmps143
  rcases Bool.eq_false_or_eq_true b0 with y0 | y0
  · subst y0
    have HZ : Hid (callW T (factorF T f) 9 0 p = Z) := by rw [hZ2.out]; rfl
    have DD := Lib.hid (fun W hW => D0.out W hW rfl HZ.out)
    clear hZ2 HZ D0 D1 D2 D3 DF
    go_wp2_with (first
      | (go_at_call 24; (with_reducible refine (C0.out _ BB.out).mono ?_); rintro e v0 ⟨rfl, hv0⟩; have V0 := Lib.hid hv0; clear hv0)
      | (go_at_call 160; refine (DD.out _ V0.out).mono ?_; rintro e w9 ⟨rfl, n9, d9, h9, x9⟩; have S9 := Lib.hid (And.intro h9 x9); clear h9 x9))
    go_end0
    exact ⟨rfl, n9, d9, S9.out.1, S9.out.2⟩
  subst y0
  rcases Bool.eq_false_or_eq_true b1 with y1 | y1
  · subst y1
    have HZ : Hid (callW T (factorF T f) 10 2 p = Z) := by rw [hZ2.out]; rfl
    have DD := Lib.hid (fun W hW => D1.out W hW rfl HZ.out)
    clear hZ2 HZ D0 D1 D2 D3 DF
    go_wp2_with (first
      | (go_at_call 24; (with_reducible refine (C0.out _ BB.out).mono ?_); rintro e v0 ⟨rfl, hv0⟩; have V0 := Lib.hid hv0; clear hv0)
      | (go_at_call 24; (with_reducible refine (C1.out _ V0.out).mono ?_); rintro e v1 ⟨rfl, hv1⟩; have V1 := Lib.hid hv1; clear hv1)
      | (go_at_call 160; refine (DD.out _ V1.out).mono ?_; rintro e w9 ⟨rfl, n9, d9, h9, x9⟩; have S9 := Lib.hid (And.intro h9 x9); clear h9 x9))
    go_end0
    exact ⟨rfl, n9, d9, S9.out.1, S9.out.2⟩
  subst y1
  rcases Bool.eq_false_or_eq_true b2 with y2 | y2
  · subst y2
    have HZ : Hid (callW T (factorF T f) 11 1 p = Z) := by rw [hZ2.out]; rfl
    have DD := Lib.hid (fun W hW => D2.out W hW rfl HZ.out)
    clear hZ2 HZ D0 D1 D2 D3 DF
    go_wp2_with (first
      | (go_at_call 24; (with_reducible refine (C0.out _ BB.out).mono ?_); rintro e v0 ⟨rfl, hv0⟩; have V0 := Lib.hid hv0; clear hv0)
      | (go_at_call 24; (with_reducible refine (C1.out _ V0.out).mono ?_); rintro e v1 ⟨rfl, hv1⟩; have V1 := Lib.hid hv1; clear hv1)
      | (go_at_call 24; (with_reducible refine (C2.out _ V1.out).mono ?_); rintro e v2 ⟨rfl, hv2⟩; have V2 := Lib.hid hv2; clear hv2)
      | (go_at_call 160; refine (DD.out _ V2.out).mono ?_; rintro e w9 ⟨rfl, n9, d9, h9, x9⟩; have S9 := Lib.hid (And.intro h9 x9); clear h9 x9))
    go_end0
    exact ⟨rfl, n9, d9, S9.out.1, S9.out.2⟩
  subst y2
  rcases Bool.eq_false_or_eq_true b3 with y3 | y3
  · subst y3
    have HZ : Hid (callW T (factorF T f) 12 1 p = Z) := by rw [hZ2.out]; rfl
    have DD := Lib.hid (fun W hW => D3.out W hW rfl HZ.out)
    clear hZ2 HZ D0 D1 D2 D3 DF
    go_wp2_with (first
      | (go_at_call 24; (with_reducible refine (C0.out _ BB.out).mono ?_); rintro e v0 ⟨rfl, hv0⟩; have V0 := Lib.hid hv0; clear hv0)
      | (go_at_call 24; (with_reducible refine (C1.out _ V0.out).mono ?_); rintro e v1 ⟨rfl, hv1⟩; have V1 := Lib.hid hv1; clear hv1)
      | (go_at_call 24; (with_reducible refine (C2.out _ V1.out).mono ?_); rintro e v2 ⟨rfl, hv2⟩; have V2 := Lib.hid hv2; clear hv2)
      | (go_at_call 24; (with_reducible refine (C3.out _ V2.out).mono ?_); rintro e v3 ⟨rfl, hv3⟩; have V3 := Lib.hid hv3; clear hv3)
      | (go_at_call 160; refine (DD.out _ V3.out).mono ?_; rintro e w9 ⟨rfl, n9, d9, h9, x9⟩; have S9 := Lib.hid (And.intro h9 x9); clear h9 x9))
    go_end0
    exact ⟨rfl, n9, d9, S9.out.1, S9.out.2⟩
  subst y3
  have HZ : Hid (p.fail t.a 90 = Z) := by rw [hZ2.out]; rfl
  have DD := Lib.hid (fun W hW => DF.out W hW HZ.out)
  clear hZ2 HZ D0 D1 D2 D3 DF
  go_wp2_with (first
    | (go_at_call 24; (with_reducible refine (C0.out _ BB.out).mono ?_); rintro e v0 ⟨rfl, hv0⟩; have V0 := Lib.hid hv0; clear hv0)
    | (go_at_call 24; (with_reducible refine (C1.out _ V0.out).mono ?_); rintro e v1 ⟨rfl, hv1⟩; have V1 := Lib.hid hv1; clear hv1)
    | (go_at_call 24; (with_reducible refine (C2.out _ V1.out).mono ?_); rintro e v2 ⟨rfl, hv2⟩; have V2 := Lib.hid hv2; clear hv2)
    | (go_at_call 24; (with_reducible refine (C3.out _ V2.out).mono ?_); rintro e v3 ⟨rfl, hv3⟩; have c3 := KK.out v3 hv3; have V3 := Lib.hid hv3; clear hv3)
    | (go_at_call 51; refine (DD.out _ V3.out).mono ?_; rintro e w9 ⟨rfl, n9, d9, h9, x9⟩; have S9 := Lib.hid (And.intro h9 x9); clear h9 x9))
  go_end0
  exact ⟨rfl, n9, d9, S9.out.1, S9.out.2⟩
end Go.Proofs.YtbngelinfpaefaaGreatDoor
