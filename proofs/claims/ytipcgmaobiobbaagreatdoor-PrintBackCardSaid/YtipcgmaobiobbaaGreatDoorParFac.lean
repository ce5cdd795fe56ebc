/- The walk of the code: a factor, whichever; an expression. -/
import Derived.Test.YtipcgmaobiobbaaGreatDoorParGg
namespace Go.Proofs.YtipcgmaobiobbaaGreatDoor
open Go.RowKit

theorem ls_true : ls "true".toUTF8 = [116, 114, 117, 101] := by decide +kernel
theorem ls_false : ls "false".toUTF8 = [102, 97, 108, 115, 101] := by decide +kernel
theorem ls_cat : ls "cat".toUTF8 = [99, 97, 116] := by decide +kernel
theorem ls_rep : ls "rep".toUTF8 = [114, 101, 112] := by decide +kernel
theorem ls_len : ls "len".toUTF8 = [108, 101, 110] := by decide +kernel
theorem ls_hex : ls "hex".toUTF8 = [104, 101, 120] := by decide +kernel
/-- what a test leaves: all that stood below -/
def Seen (w : World) (x g : Nat) (e : Ending) (b : Bool) (W w' : World) : Prop := e = .returned (.bool b) ∧ Below w.heap.size w w' ∧ w'.cell? ⟨x, 0, none⟩ = some (.pointer (some ⟨g, 0, none⟩)) ∧ Below W.heap.size W w'
section
variable {w : World} {x g : Nat} {A : Option Addr} {c : Nat} {T : List Tk} {p : PS} {B : Nat} {An : Option Addr} {cn : Nat} {l : List Nd} {o : Int} (h : XS w x g A c T p B An cn l o)
include h
theorem see_word (s : List UInt8) {b : Bool} (hb : p.is T 1 s = b) {W : World} (hW : Below w.heap.size w W) : Calls Tryz.prog 33 #[.pointer (some ⟨g, 0, none⟩), .string (str s)] W fun e w' => Seen w x g e b W w' := by
  refine (catWord_any (h.rs.below hW) s).mono ?_
  rintro e w' ⟨rfl, hb'⟩
  rw [hb]
  exact ⟨rfl, Below.both hW hb', (h.below (Below.both hW hb')).blk.cells.1, hb'⟩
theorem see_mark (s : List UInt8) {b : Bool} (hb : p.is T 4 s = b) {W : World} (hW : Below w.heap.size w W) : Calls Tryz.prog 71 #[.pointer (some ⟨g, 0, none⟩), .string (str s)] W fun e w' => Seen w x g e b W w' := by
  refine (catMark_any (h.rs.below hW) s).mono ?_
  rintro e w' ⟨rfl, hb'⟩
  rw [hb]
  exact ⟨rfl, Below.both hW hb', (h.below (Below.both hW hb')).blk.cells.1, hb'⟩
end
theorem XAt.from {w w1 : World} {x g : Nat} {A : Option Addr} {c : Nat} {T : List Tk} {p q : PS} {B : Nat} {An : Option Addr} {l : List Nd} {o : Int} {e : Ending} {w' : World} (hb : Below w.heap.size w w1) (h : XAt x g A c T p q B An l o w1 e w') : XAt x g A c T p q B An l o w e w' := by
  obtain ⟨d, e1, A', c', l', h1, h2, h3, h4⟩ := h
  exact ⟨d, e1, A', c', l', h1, (Fx.of hb).trans h2, h3, h4⟩

set_option maxRecDepth 100000 in
set_option maxHeartbeats 8000000 in
theorem cfactor_stuck {T : List Tk} {w : World} {x g : Nat} {A : Option Addr} {c : Nat} {p : PS} {B : Nat} {An : Option Addr} {cn : Nat} {l : List Nd} {o : Int} (h : XS w x g A c T p B An cn l o) (h0 : p.flt ≠ 0) :
    Calls Tryz.prog 92 #[.pointer (some ⟨x, 0, none⟩)] w (XAt x g A c T p p B An l o w) := by
  obtain ⟨e0, _, _⟩ := h.blk.cells
  obtain ⟨t, hx⟩ : ∃ t, p.ct T = t := ⟨_, rfl⟩
  have cp := peek_then h.rs hx (Below.refl _ _)
  have HB : Hid (∀ W, Below w.heap.size w W → EB W x g An l.length cn o) := fun W hW => (h.below hW).blk
  have hq : t.k = 0 := by rw [← hx]; exact ct_bad h.rs.ends h.rs.inn h0
  have hk2 : ((t.k : Int) == 2) = false := by rw [hq]; rfl
  have hk3 : ((t.k : Int) == 3) = false := by rw [hq]; rfl
  suffices H : Calls Tryz.prog 92 #[.pointer (some ⟨x, 0, none⟩)] w (XAt x g A c T p (p.fail t.a 90) B An l o w) by rwa [fail_stuck h0] at H
  have hq0 : p.is T 1 [116, 114, 117, 101] = false := is_stuck h0 _ _
  have hq1 : p.is T 1 [102, 97, 108, 115, 101] = false := is_stuck h0 _ _
  have hq2 : p.is T 4 [45] = false := is_stuck h0 _ _
  have hq3 : p.is T 4 [40] = false := is_stuck h0 _ _
  have hq4 : p.is T 1 [99, 97, 116] = false := is_stuck h0 _ _
  have hq5 : p.is T 1 [114, 101, 112] = false := is_stuck h0 _ _
  have hq6 : p.is T 1 [108, 101, 110] = false := is_stuck h0 _ _
  have hq7 : p.is T 1 [104, 101, 120] = false := is_stuck h0 _ _
  have C0 : Hid (∀ W, Below w.heap.size w W → Calls Tryz.prog 33 #[.pointer (some ⟨g, 0, none⟩), .string ⟨#[116, 114, 117, 101]⟩] W fun e w' => Seen w x g e false W w') := fun W hW => see_word h [116, 114, 117, 101] hq0 hW
  have C1 : Hid (∀ W, Below w.heap.size w W → Calls Tryz.prog 33 #[.pointer (some ⟨g, 0, none⟩), .string ⟨#[102, 97, 108, 115, 101]⟩] W fun e w' => Seen w x g e false W w') := fun W hW => see_word h [102, 97, 108, 115, 101] hq1 hW
  have C2 : Hid (∀ W, Below w.heap.size w W → Calls Tryz.prog 71 #[.pointer (some ⟨g, 0, none⟩), .string ⟨#[45]⟩] W fun e w' => Seen w x g e false W w') := fun W hW => see_mark h [45] hq2 hW
  have C3 : Hid (∀ W, Below w.heap.size w W → Calls Tryz.prog 71 #[.pointer (some ⟨g, 0, none⟩), .string ⟨#[40]⟩] W fun e w' => Seen w x g e false W w') := fun W hW => see_mark h [40] hq3 hW
  have C4 : Hid (∀ W, Below w.heap.size w W → Calls Tryz.prog 33 #[.pointer (some ⟨g, 0, none⟩), .string ⟨#[99, 97, 116]⟩] W fun e w' => Seen w x g e false W w') := fun W hW => see_word h [99, 97, 116] hq4 hW
  have C5 : Hid (∀ W, Below w.heap.size w W → Calls Tryz.prog 33 #[.pointer (some ⟨g, 0, none⟩), .string ⟨#[114, 101, 112]⟩] W fun e w' => Seen w x g e false W w') := fun W hW => see_word h [114, 101, 112] hq5 hW
  have C6 : Hid (∀ W, Below w.heap.size w W → Calls Tryz.prog 33 #[.pointer (some ⟨g, 0, none⟩), .string ⟨#[108, 101, 110]⟩] W fun e w' => Seen w x g e false W w') := fun W hW => see_word h [108, 101, 110] hq6 hW
  have C7 : Hid (∀ W, Below w.heap.size w W → Calls Tryz.prog 33 #[.pointer (some ⟨g, 0, none⟩), .string ⟨#[104, 101, 120]⟩] W fun e w' => Seen w x g e false W w') := fun W hW => see_word h [104, 101, 120] hq7 hW
  have CF : Hid (∀ W, Below w.heap.size w W → Calls Tryz.prog 36 #[.pointer (some ⟨g, 0, none⟩), .int .i64 (t.a : Nat), .int .i64 90] W.drew fun e w' => e = .returned (.tuple #[]) ∧ XAt x g A c T p (p.fail t.a 90) B An l o w (.returned (.int .i64 0)) w') := by
    intro W hW
    have hW2 : Below w.heap.size w W.drew := Below.thenN hW 1
    refine (cfault_any (h.rs.below hW2) t.a 90 (by decide)).mono ?_
    rintro e w' ⟨rfl, hr, hg⟩
    have hnf := fail_flt (p := p) (a := t.a) (e := 90) (by decide)
    exact ⟨rfl, 0, rfl, An, cn, l, (h.below hW2).turn hg hr (fun z => absurd z hnf), (Fx.of hW2).trans (Fx.gn hg), by have := mu_go (go_fail p t.a 90); omega, fun z => absurd z hnf⟩
  clear h hx hq h0
  go_enter Tryz.func92, Tryz.ntmps92
  go_wp2_with (first
    | (go_at_call 35; refine cp.mono ?_; rintro e w2 ⟨rfl, hb2⟩; have hb0 := hb2.alloc hb2.size (.cells #[.int .i64 (t.k : Nat), .string (str t.t), .int .u64 (t.n : Nat), .int .i64 (t.a : Nat), .int .i64 (t.e : Nat)] 84); obtain ⟨u0, _, _⟩ := (HB.out _ hb0).cells; have k0 := (TBlk.new w2 t).cells.2.2.2.1; have hl0 : w2.heap.size < (w2.alloc (.cells #[.int .i64 (t.k : Nat), .string (str t.t), .int .u64 (t.n : Nat), .int .i64 (t.a : Nat), .int .i64 (t.e : Nat)] 84)).heap.size := by simp)
    | (go_at_call 33; (with_reducible refine (C0.out _ hb0).mono ?_); intro e w_0 hs; obtain ⟨rfl, hb_0, u_0, hw_0⟩ := hs; have k_0 := (hw_0.cell (p := ⟨w2.heap.size, 3, none⟩) hl0).trans k0; have hl_0 := Nat.lt_of_lt_of_le hl0 hw_0.size)
    | (go_at_call 33; (with_reducible refine (C1.out _ hb_0).mono ?_); intro e w_1 hs; obtain ⟨rfl, hb_1, u_1, hw_1⟩ := hs; have k_1 := (hw_1.cell (p := ⟨w2.heap.size, 3, none⟩) hl_0).trans k_0; have hl_1 := Nat.lt_of_lt_of_le hl_0 hw_1.size)
    | (go_at_call 71; (with_reducible refine (C2.out _ hb_1).mono ?_); intro e w_2 hs; obtain ⟨rfl, hb_2, u_2, hw_2⟩ := hs; have k_2 := (hw_2.cell (p := ⟨w2.heap.size, 3, none⟩) hl_1).trans k_1; have hl_2 := Nat.lt_of_lt_of_le hl_1 hw_2.size)
    | (go_at_call 71; (with_reducible refine (C3.out _ hb_2).mono ?_); intro e w_3 hs; obtain ⟨rfl, hb_3, u_3, hw_3⟩ := hs; have k_3 := (hw_3.cell (p := ⟨w2.heap.size, 3, none⟩) hl_2).trans k_2; have hl_3 := Nat.lt_of_lt_of_le hl_2 hw_3.size)
    | (go_at_call 33; (with_reducible refine (C4.out _ hb_3).mono ?_); intro e w_4 hs; obtain ⟨rfl, hb_4, u_4, hw_4⟩ := hs; have k_4 := (hw_4.cell (p := ⟨w2.heap.size, 3, none⟩) hl_3).trans k_3; have hl_4 := Nat.lt_of_lt_of_le hl_3 hw_4.size)
    | (go_at_call 33; (with_reducible refine (C5.out _ hb_4).mono ?_); intro e w_5 hs; obtain ⟨rfl, hb_5, u_5, hw_5⟩ := hs; have k_5 := (hw_5.cell (p := ⟨w2.heap.size, 3, none⟩) hl_4).trans k_4; have hl_5 := Nat.lt_of_lt_of_le hl_4 hw_5.size)
    | (go_at_call 33; (with_reducible refine (C6.out _ hb_5).mono ?_); intro e w_6 hs; obtain ⟨rfl, hb_6, u_6, hw_6⟩ := hs; have k_6 := (hw_6.cell (p := ⟨w2.heap.size, 3, none⟩) hl_5).trans k_5; have hl_6 := Nat.lt_of_lt_of_le hl_5 hw_6.size)
    | (go_at_call 33; (with_reducible refine (C7.out _ hb_6).mono ?_); intro e w_7 hs; obtain ⟨rfl, hb_7, u_7, hw_7⟩ := hs; have k_7 := (hw_7.cell (p := ⟨w2.heap.size, 3, none⟩) hl_6).trans k_6; have hl_7 := Nat.lt_of_lt_of_le hl_6 hw_7.size))
  have k7' : w_7.drew.cell? ⟨w2.heap.size, 3, none⟩ = some (.int .i64 (t.a : Nat)) := k_7
  have u7' : w_7.drew.cell? ⟨x, 0, none⟩ = some (.pointer (some ⟨g, 0, none⟩)) := u_7
  go_still_tail 6, (by kernel_rfl)
  go_wp2_with (go_at_call 36; refine (CF.out _ hb_7).mono ?_; rintro e w9 ⟨rfl, h9⟩; have H9 := Lib.hid h9; clear h9)
  go_ret
  exact H9.out

set_option maxRecDepth 100000 in
set_option maxHeartbeats 40000000 in
theorem cfactor_any {T : List Tk} {m m' : Nat} {fac : PS → PS} (F : FacC T m fac) (G : ∀ p, Go_ p (fac p)) (hf : ∀ p, p.flt ≠ 0 → fac p = p) (hmm : m ≤ m' + 1) : FacC T m' (factorW T fac) := by
  intro w x g A c p B An cn l o h hm hl
  by_cases h0 : p.flt ≠ 0
  · rw [factorW_stuck h0]
    exact cfactor_stuck h h0
  have h0 : p.flt = 0 := Decidable.byContradiction h0
  have hmi : m ≤ p.i + 1 := by have := hm.resolve_left fun z => z h0; omega
  have FT : TermC T m (termW T fac) := cterm_any F G
  have FS : SumC T m (exprW T fac) := csum_any FT G
  obtain ⟨e0, _, _⟩ := h.blk.cells
  obtain ⟨t, hx⟩ : ∃ t, p.ct T = t := ⟨_, rfl⟩
  have ht : p.tok T = t := by rw [← ct_ok h0, hx]
  have cp := peek_then h.rs hx (Below.refl _ _)
  have HB : Hid (∀ W, Below w.heap.size w W → EB W x g An l.length cn o) := fun W hW => (h.below hW).blk
  obtain ⟨R, hR⟩ : ∃ R, factorW T fac p = R := ⟨_, rfl⟩
  rw [hR]
  unfold factorW at hR
  dsimp only at hR
  rw [if_neg (show ¬ p.flt ≠ 0 from fun z => z h0), ht, ls_true, ls_false, ls_cat, ls_rep, ls_len, ls_hex] at hR
  by_cases c2 : t.k = 2
  · rw [if_pos c2] at hR
    have hk2 : ((t.k : Int) == 2) = true := by rw [c2]; rfl
    have CL : Hid (∀ W, Below w.heap.size w W → Calls Tryz.prog 105 #[.pointer (some ⟨x, 0, none⟩), .agg #[.int .i64 1, .int .i64 0, .int .u64 (t.n : Nat), .string ⟨#[]⟩, .int .i64 0]] W fun e w' => ∃ d, e = .returned (.int .i64 d) ∧ Hid (XIn x g A c T p R B An l o w w' d)) := by
      intro W hW
      refine (cleaf_any (h.below hW) h0 (by rw [ht]; omega) hl ⟨1, 0, t.n, [], 0⟩ ⟨1, 0, t.n, [], t.a⟩ (by rw [ht])).mono ?_
      intro e w' hh
      obtain ⟨d, e1, hh⟩ := XAt.from hW hh
      exact ⟨d, e1, by rw [← hR]; exact hh⟩
    clear h hx ht hR h0 c2 hm hl hmi F G hf FT FS
    go_enter Tryz.func92, Tryz.ntmps92
    go_wp2_with (first
      | (go_at_call 35; refine cp.mono ?_; rintro e w2 ⟨rfl, hb2⟩; have hb0 := hb2.alloc hb2.size (.cells #[.int .i64 (t.k : Nat), .string (str t.t), .int .u64 (t.n : Nat), .int .i64 (t.a : Nat), .int .i64 (t.e : Nat)] 84); obtain ⟨u0, _, _⟩ := (HB.out _ hb0).cells; have k0 := (TBlk.new w2 t).cells.2.2.2.1; have hl0 : w2.heap.size < (w2.alloc (.cells #[.int .i64 (t.k : Nat), .string (str t.t), .int .u64 (t.n : Nat), .int .i64 (t.a : Nat), .int .i64 (t.e : Nat)] 84)).heap.size := by simp)
      | (go_at_call 105; refine (CL.out _ hb0).mono ?_; rintro e w9 ⟨d, rfl, H9⟩))
    go_ret
    exact ⟨d, rfl, H9⟩
  rw [if_neg c2] at hR
  have hk2 : ((t.k : Int) == 2) = false := beq_eq_false_iff_ne.2 (by omega)
  by_cases c3 : t.k = 3
  · rw [if_pos c3] at hR
    have hk3 : ((t.k : Int) == 3) = true := by rw [c3]; rfl
    have CL : Hid (∀ W, Below w.heap.size w W → Calls Tryz.prog 105 #[.pointer (some ⟨x, 0, none⟩), .agg #[.int .i64 2, .int .i64 0, .int .u64 0, .string (str t.t), .int .i64 0]] W fun e w' => ∃ d, e = .returned (.int .i64 d) ∧ Hid (XIn x g A c T p R B An l o w w' d)) := by
      intro W hW
      refine (cleaf_any (h.below hW) h0 (by rw [ht]; omega) hl ⟨2, 0, 0, t.t, 0⟩ ⟨2, 0, 0, t.t, t.a⟩ (by rw [ht])).mono ?_
      intro e w' hh
      obtain ⟨d, e1, hh⟩ := XAt.from hW hh
      exact ⟨d, e1, by rw [← hR]; exact hh⟩
    clear h hx ht hR h0 c2 c3 hm hl hmi F G hf FT FS
    go_enter Tryz.func92, Tryz.ntmps92
    go_wp2_with (first
      | (go_at_call 35; refine cp.mono ?_; rintro e w2 ⟨rfl, hb2⟩; have hb0 := hb2.alloc hb2.size (.cells #[.int .i64 (t.k : Nat), .string (str t.t), .int .u64 (t.n : Nat), .int .i64 (t.a : Nat), .int .i64 (t.e : Nat)] 84); obtain ⟨u0, _, _⟩ := (HB.out _ hb0).cells; have k0 := (TBlk.new w2 t).cells.2.2.2.1; have hl0 : w2.heap.size < (w2.alloc (.cells #[.int .i64 (t.k : Nat), .string (str t.t), .int .u64 (t.n : Nat), .int .i64 (t.a : Nat), .int .i64 (t.e : Nat)] 84)).heap.size := by simp)
      | (go_at_call 105; refine (CL.out _ hb0).mono ?_; rintro e w9 ⟨d, rfl, H9⟩))
    go_ret
    exact ⟨d, rfl, H9⟩
  rw [if_neg c3] at hR
  have hk3 : ((t.k : Int) == 3) = false := beq_eq_false_iff_ne.2 (by omega)
  by_cases hq0 : p.is T 1 [116, 114, 117, 101] = true
  · rw [if_pos hq0] at hR
    have C0 : Hid (∀ W, Below w.heap.size w W → Calls Tryz.prog 33 #[.pointer (some ⟨g, 0, none⟩), .string ⟨#[116, 114, 117, 101]⟩] W fun e w' => Seen w x g e true W w') := fun W hW => see_word h [116, 114, 117, 101] hq0 hW
    have CL : Hid (∀ W, Below w.heap.size w W → Calls Tryz.prog 105 #[.pointer (some ⟨x, 0, none⟩), .agg #[.int .i64 3, .int .i64 0, .int .u64 0, .string ⟨#[]⟩, .int .i64 0]] W fun e w' => ∃ d, e = .returned (.int .i64 d) ∧ Hid (XIn x g A c T p R B An l o w w' d)) := by
      intro W hW
      refine (cleaf_any (h.below hW) h0 (by rw [ht]; rw [← ht, (is_ok p hq0).2.1]; decide) hl ⟨3, 0, 0, [], 0⟩ ⟨3, 0, 0, [], t.a⟩ (by rw [ht])).mono ?_
      intro e w' hh
      obtain ⟨d, e1, hh⟩ := XAt.from hW hh
      exact ⟨d, e1, by rw [← hR]; exact hh⟩
    clear h hx ht hR h0 c2 c3 hm hl hmi F G hf FT FS hq0
    go_enter Tryz.func92, Tryz.ntmps92
    go_wp2_with (first
      | (go_at_call 35; refine cp.mono ?_; rintro e w2 ⟨rfl, hb2⟩; have hb0 := hb2.alloc hb2.size (.cells #[.int .i64 (t.k : Nat), .string (str t.t), .int .u64 (t.n : Nat), .int .i64 (t.a : Nat), .int .i64 (t.e : Nat)] 84); obtain ⟨u0, _, _⟩ := (HB.out _ hb0).cells; have k0 := (TBlk.new w2 t).cells.2.2.2.1; have hl0 : w2.heap.size < (w2.alloc (.cells #[.int .i64 (t.k : Nat), .string (str t.t), .int .u64 (t.n : Nat), .int .i64 (t.a : Nat), .int .i64 (t.e : Nat)] 84)).heap.size := by simp)
      | (go_at_call 33; (with_reducible refine (C0.out _ hb0).mono ?_); intro e w_0 hs; obtain ⟨rfl, hb_0, u_0, hw_0⟩ := hs; have k_0 := (hw_0.cell (p := ⟨w2.heap.size, 3, none⟩) hl0).trans k0; have hl_0 := Nat.lt_of_lt_of_le hl0 hw_0.size)
      | (go_at_call 105; refine (CL.out _ hb_0).mono ?_; rintro e w9 ⟨d, rfl, H9⟩))
    go_ret
    exact ⟨d, rfl, H9⟩
  rw [if_neg hq0] at hR
  have hq0 : p.is T 1 [116, 114, 117, 101] = false := by simpa using hq0
  by_cases hq1 : p.is T 1 [102, 97, 108, 115, 101] = true
  · rw [if_pos hq1] at hR
    have C0 : Hid (∀ W, Below w.heap.size w W → Calls Tryz.prog 33 #[.pointer (some ⟨g, 0, none⟩), .string ⟨#[116, 114, 117, 101]⟩] W fun e w' => Seen w x g e false W w') := fun W hW => see_word h [116, 114, 117, 101] hq0 hW
    have C1 : Hid (∀ W, Below w.heap.size w W → Calls Tryz.prog 33 #[.pointer (some ⟨g, 0, none⟩), .string ⟨#[102, 97, 108, 115, 101]⟩] W fun e w' => Seen w x g e true W w') := fun W hW => see_word h [102, 97, 108, 115, 101] hq1 hW
    have CL : Hid (∀ W, Below w.heap.size w W → Calls Tryz.prog 105 #[.pointer (some ⟨x, 0, none⟩), .agg #[.int .i64 4, .int .i64 0, .int .u64 0, .string ⟨#[]⟩, .int .i64 0]] W fun e w' => ∃ d, e = .returned (.int .i64 d) ∧ Hid (XIn x g A c T p R B An l o w w' d)) := by
      intro W hW
      refine (cleaf_any (h.below hW) h0 (by rw [ht]; rw [← ht, (is_ok p hq1).2.1]; decide) hl ⟨4, 0, 0, [], 0⟩ ⟨4, 0, 0, [], t.a⟩ (by rw [ht])).mono ?_
      intro e w' hh
      obtain ⟨d, e1, hh⟩ := XAt.from hW hh
      exact ⟨d, e1, by rw [← hR]; exact hh⟩
    clear h hx ht hR h0 c2 c3 hm hl hmi F G hf FT FS hq0 hq1
    go_enter Tryz.func92, Tryz.ntmps92
    go_wp2_with (first
      | (go_at_call 35; refine cp.mono ?_; rintro e w2 ⟨rfl, hb2⟩; have hb0 := hb2.alloc hb2.size (.cells #[.int .i64 (t.k : Nat), .string (str t.t), .int .u64 (t.n : Nat), .int .i64 (t.a : Nat), .int .i64 (t.e : Nat)] 84); obtain ⟨u0, _, _⟩ := (HB.out _ hb0).cells; have k0 := (TBlk.new w2 t).cells.2.2.2.1; have hl0 : w2.heap.size < (w2.alloc (.cells #[.int .i64 (t.k : Nat), .string (str t.t), .int .u64 (t.n : Nat), .int .i64 (t.a : Nat), .int .i64 (t.e : Nat)] 84)).heap.size := by simp)
      | (go_at_call 33; (with_reducible refine (C0.out _ hb0).mono ?_); intro e w_0 hs; obtain ⟨rfl, hb_0, u_0, hw_0⟩ := hs; have k_0 := (hw_0.cell (p := ⟨w2.heap.size, 3, none⟩) hl0).trans k0; have hl_0 := Nat.lt_of_lt_of_le hl0 hw_0.size)
      | (go_at_call 33; (with_reducible refine (C1.out _ hb_0).mono ?_); intro e w_1 hs; obtain ⟨rfl, hb_1, u_1, hw_1⟩ := hs; have k_1 := (hw_1.cell (p := ⟨w2.heap.size, 3, none⟩) hl_0).trans k_0; have hl_1 := Nat.lt_of_lt_of_le hl_0 hw_1.size)
      | (go_at_call 105; refine (CL.out _ hb_1).mono ?_; rintro e w9 ⟨d, rfl, H9⟩))
    go_ret
    exact ⟨d, rfl, H9⟩
  rw [if_neg hq1] at hR
  have hq1 : p.is T 1 [102, 97, 108, 115, 101] = false := by simpa using hq1
  by_cases hq2 : p.is T 4 [45] = true
  · rw [if_pos hq2] at hR
    have C0 : Hid (∀ W, Below w.heap.size w W → Calls Tryz.prog 33 #[.pointer (some ⟨g, 0, none⟩), .string ⟨#[116, 114, 117, 101]⟩] W fun e w' => Seen w x g e false W w') := fun W hW => see_word h [116, 114, 117, 101] hq0 hW
    have C1 : Hid (∀ W, Below w.heap.size w W → Calls Tryz.prog 33 #[.pointer (some ⟨g, 0, none⟩), .string ⟨#[102, 97, 108, 115, 101]⟩] W fun e w' => Seen w x g e false W w') := fun W hW => see_word h [102, 97, 108, 115, 101] hq1 hW
    have C2 : Hid (∀ W, Below w.heap.size w W → Calls Tryz.prog 71 #[.pointer (some ⟨g, 0, none⟩), .string ⟨#[45]⟩] W fun e w' => Seen w x g e true W w') := fun W hW => see_mark h [45] hq2 hW
    have CL : Hid (∀ W, Below w.heap.size w W → Calls Tryz.prog 106 #[.pointer (some ⟨x, 0, none⟩)] W fun e w' => ∃ d, e = .returned (.int .i64 d) ∧ Hid (XIn x g A c T p R B An l o w w' d)) := by
      intro W hW
      refine (cnegative_any F (h.below hW) h0 (by rw [(is_ok p hq2).2.1]; decide) hmi hl).mono ?_
      intro e w' hh
      obtain ⟨d, e1, hh⟩ := XAt.from hW hh
      exact ⟨d, e1, by rw [← hR, ← ht]; exact hh⟩
    clear h hx ht hR h0 c2 c3 hm hl hmi F G hf FT FS hq0 hq1 hq2
    go_enter Tryz.func92, Tryz.ntmps92
    go_wp2_with (first
      | (go_at_call 35; refine cp.mono ?_; rintro e w2 ⟨rfl, hb2⟩; have hb0 := hb2.alloc hb2.size (.cells #[.int .i64 (t.k : Nat), .string (str t.t), .int .u64 (t.n : Nat), .int .i64 (t.a : Nat), .int .i64 (t.e : Nat)] 84); obtain ⟨u0, _, _⟩ := (HB.out _ hb0).cells; have k0 := (TBlk.new w2 t).cells.2.2.2.1; have hl0 : w2.heap.size < (w2.alloc (.cells #[.int .i64 (t.k : Nat), .string (str t.t), .int .u64 (t.n : Nat), .int .i64 (t.a : Nat), .int .i64 (t.e : Nat)] 84)).heap.size := by simp)
      | (go_at_call 33; (with_reducible refine (C0.out _ hb0).mono ?_); intro e w_0 hs; obtain ⟨rfl, hb_0, u_0, hw_0⟩ := hs; have k_0 := (hw_0.cell (p := ⟨w2.heap.size, 3, none⟩) hl0).trans k0; have hl_0 := Nat.lt_of_lt_of_le hl0 hw_0.size)
      | (go_at_call 33; (with_reducible refine (C1.out _ hb_0).mono ?_); intro e w_1 hs; obtain ⟨rfl, hb_1, u_1, hw_1⟩ := hs; have k_1 := (hw_1.cell (p := ⟨w2.heap.size, 3, none⟩) hl_0).trans k_0; have hl_1 := Nat.lt_of_lt_of_le hl_0 hw_1.size)
      | (go_at_call 71; (with_reducible refine (C2.out _ hb_1).mono ?_); intro e w_2 hs; obtain ⟨rfl, hb_2, u_2, hw_2⟩ := hs; have k_2 := (hw_2.cell (p := ⟨w2.heap.size, 3, none⟩) hl_1).trans k_1; have hl_2 := Nat.lt_of_lt_of_le hl_1 hw_2.size)
      | (go_at_call 106; refine (CL.out _ hb_2).mono ?_; rintro e w9 ⟨d, rfl, H9⟩))
    go_ret
    exact ⟨d, rfl, H9⟩
  rw [if_neg hq2] at hR
  have hq2 : p.is T 4 [45] = false := by simpa using hq2
  by_cases hq3 : p.is T 4 [40] = true
  · rw [if_pos hq3] at hR
    have C0 : Hid (∀ W, Below w.heap.size w W → Calls Tryz.prog 33 #[.pointer (some ⟨g, 0, none⟩), .string ⟨#[116, 114, 117, 101]⟩] W fun e w' => Seen w x g e false W w') := fun W hW => see_word h [116, 114, 117, 101] hq0 hW
    have C1 : Hid (∀ W, Below w.heap.size w W → Calls Tryz.prog 33 #[.pointer (some ⟨g, 0, none⟩), .string ⟨#[102, 97, 108, 115, 101]⟩] W fun e w' => Seen w x g e false W w') := fun W hW => see_word h [102, 97, 108, 115, 101] hq1 hW
    have C2 : Hid (∀ W, Below w.heap.size w W → Calls Tryz.prog 71 #[.pointer (some ⟨g, 0, none⟩), .string ⟨#[45]⟩] W fun e w' => Seen w x g e false W w') := fun W hW => see_mark h [45] hq2 hW
    have C3 : Hid (∀ W, Below w.heap.size w W → Calls Tryz.prog 71 #[.pointer (some ⟨g, 0, none⟩), .string ⟨#[40]⟩] W fun e w' => Seen w x g e true W w') := fun W hW => see_mark h [40] hq3 hW
    have CL : Hid (∀ W, Below w.heap.size w W → Calls Tryz.prog 107 #[.pointer (some ⟨x, 0, none⟩)] W fun e w' => ∃ d, e = .returned (.int .i64 d) ∧ Hid (XIn x g A c T p R B An l o w w' d)) := by
      intro W hW
      refine (cbrackets_any FS (h.below hW) h0 (by rw [(is_ok p hq3).2.1]; decide) hmi hl).mono ?_
      intro e w' hh
      obtain ⟨d, e1, hh⟩ := XAt.from hW hh
      exact ⟨d, e1, by rw [← hR]; exact hh⟩
    clear h hx ht hR h0 c2 c3 hm hl hmi F G hf FT FS hq0 hq1 hq2 hq3
    go_enter Tryz.func92, Tryz.ntmps92
    go_wp2_with (first
      | (go_at_call 35; refine cp.mono ?_; rintro e w2 ⟨rfl, hb2⟩; have hb0 := hb2.alloc hb2.size (.cells #[.int .i64 (t.k : Nat), .string (str t.t), .int .u64 (t.n : Nat), .int .i64 (t.a : Nat), .int .i64 (t.e : Nat)] 84); obtain ⟨u0, _, _⟩ := (HB.out _ hb0).cells; have k0 := (TBlk.new w2 t).cells.2.2.2.1; have hl0 : w2.heap.size < (w2.alloc (.cells #[.int .i64 (t.k : Nat), .string (str t.t), .int .u64 (t.n : Nat), .int .i64 (t.a : Nat), .int .i64 (t.e : Nat)] 84)).heap.size := by simp)
      | (go_at_call 33; (with_reducible refine (C0.out _ hb0).mono ?_); intro e w_0 hs; obtain ⟨rfl, hb_0, u_0, hw_0⟩ := hs; have k_0 := (hw_0.cell (p := ⟨w2.heap.size, 3, none⟩) hl0).trans k0; have hl_0 := Nat.lt_of_lt_of_le hl0 hw_0.size)
      | (go_at_call 33; (with_reducible refine (C1.out _ hb_0).mono ?_); intro e w_1 hs; obtain ⟨rfl, hb_1, u_1, hw_1⟩ := hs; have k_1 := (hw_1.cell (p := ⟨w2.heap.size, 3, none⟩) hl_0).trans k_0; have hl_1 := Nat.lt_of_lt_of_le hl_0 hw_1.size)
      | (go_at_call 71; (with_reducible refine (C2.out _ hb_1).mono ?_); intro e w_2 hs; obtain ⟨rfl, hb_2, u_2, hw_2⟩ := hs; have k_2 := (hw_2.cell (p := ⟨w2.heap.size, 3, none⟩) hl_1).trans k_1; have hl_2 := Nat.lt_of_lt_of_le hl_1 hw_2.size)
      | (go_at_call 71; (with_reducible refine (C3.out _ hb_2).mono ?_); intro e w_3 hs; obtain ⟨rfl, hb_3, u_3, hw_3⟩ := hs; have k_3 := (hw_3.cell (p := ⟨w2.heap.size, 3, none⟩) hl_2).trans k_2; have hl_3 := Nat.lt_of_lt_of_le hl_2 hw_3.size)
      | (go_at_call 107; refine (CL.out _ hb_3).mono ?_; rintro e w9 ⟨d, rfl, H9⟩))
    go_ret
    exact ⟨d, rfl, H9⟩
  rw [if_neg hq3] at hR
  have hq3 : p.is T 4 [40] = false := by simpa using hq3
  by_cases hq4 : p.is T 1 [99, 97, 116] = true
  · rw [if_pos hq4] at hR
    have C0 : Hid (∀ W, Below w.heap.size w W → Calls Tryz.prog 33 #[.pointer (some ⟨g, 0, none⟩), .string ⟨#[116, 114, 117, 101]⟩] W fun e w' => Seen w x g e false W w') := fun W hW => see_word h [116, 114, 117, 101] hq0 hW
    have C1 : Hid (∀ W, Below w.heap.size w W → Calls Tryz.prog 33 #[.pointer (some ⟨g, 0, none⟩), .string ⟨#[102, 97, 108, 115, 101]⟩] W fun e w' => Seen w x g e false W w') := fun W hW => see_word h [102, 97, 108, 115, 101] hq1 hW
    have C2 : Hid (∀ W, Below w.heap.size w W → Calls Tryz.prog 71 #[.pointer (some ⟨g, 0, none⟩), .string ⟨#[45]⟩] W fun e w' => Seen w x g e false W w') := fun W hW => see_mark h [45] hq2 hW
    have C3 : Hid (∀ W, Below w.heap.size w W → Calls Tryz.prog 71 #[.pointer (some ⟨g, 0, none⟩), .string ⟨#[40]⟩] W fun e w' => Seen w x g e false W w') := fun W hW => see_mark h [40] hq3 hW
    have C4 : Hid (∀ W, Below w.heap.size w W → Calls Tryz.prog 33 #[.pointer (some ⟨g, 0, none⟩), .string ⟨#[99, 97, 116]⟩] W fun e w' => Seen w x g e true W w') := fun W hW => see_word h [99, 97, 116] hq4 hW
    have CL : Hid (∀ W, Below w.heap.size w W → Calls Tryz.prog 108 #[.pointer (some ⟨x, 0, none⟩)] W fun e w' => ∃ d, e = .returned (.int .i64 d) ∧ Hid (XIn x g A c T p R B An l o w w' d)) := by
      intro W hW
      refine (ccat_any FS G (h.below hW) h0 (by rw [(is_ok p hq4).2.1]; decide) hmi hl).mono ?_
      intro e w' hh
      obtain ⟨d, e1, hh⟩ := XAt.from hW hh
      exact ⟨d, e1, by rw [← hR]; exact hh⟩
    clear h hx ht hR h0 c2 c3 hm hl hmi F G hf FT FS hq0 hq1 hq2 hq3 hq4
    go_enter Tryz.func92, Tryz.ntmps92
    go_wp2_with (first
      | (go_at_call 35; refine cp.mono ?_; rintro e w2 ⟨rfl, hb2⟩; have hb0 := hb2.alloc hb2.size (.cells #[.int .i64 (t.k : Nat), .string (str t.t), .int .u64 (t.n : Nat), .int .i64 (t.a : Nat), .int .i64 (t.e : Nat)] 84); obtain ⟨u0, _, _⟩ := (HB.out _ hb0).cells; have k0 := (TBlk.new w2 t).cells.2.2.2.1; have hl0 : w2.heap.size < (w2.alloc (.cells #[.int .i64 (t.k : Nat), .string (str t.t), .int .u64 (t.n : Nat), .int .i64 (t.a : Nat), .int .i64 (t.e : Nat)] 84)).heap.size := by simp)
      | (go_at_call 33; (with_reducible refine (C0.out _ hb0).mono ?_); intro e w_0 hs; obtain ⟨rfl, hb_0, u_0, hw_0⟩ := hs; have k_0 := (hw_0.cell (p := ⟨w2.heap.size, 3, none⟩) hl0).trans k0; have hl_0 := Nat.lt_of_lt_of_le hl0 hw_0.size)
      | (go_at_call 33; (with_reducible refine (C1.out _ hb_0).mono ?_); intro e w_1 hs; obtain ⟨rfl, hb_1, u_1, hw_1⟩ := hs; have k_1 := (hw_1.cell (p := ⟨w2.heap.size, 3, none⟩) hl_0).trans k_0; have hl_1 := Nat.lt_of_lt_of_le hl_0 hw_1.size)
      | (go_at_call 71; (with_reducible refine (C2.out _ hb_1).mono ?_); intro e w_2 hs; obtain ⟨rfl, hb_2, u_2, hw_2⟩ := hs; have k_2 := (hw_2.cell (p := ⟨w2.heap.size, 3, none⟩) hl_1).trans k_1; have hl_2 := Nat.lt_of_lt_of_le hl_1 hw_2.size)
      | (go_at_call 71; (with_reducible refine (C3.out _ hb_2).mono ?_); intro e w_3 hs; obtain ⟨rfl, hb_3, u_3, hw_3⟩ := hs; have k_3 := (hw_3.cell (p := ⟨w2.heap.size, 3, none⟩) hl_2).trans k_2; have hl_3 := Nat.lt_of_lt_of_le hl_2 hw_3.size)
      | (go_at_call 33; (with_reducible refine (C4.out _ hb_3).mono ?_); intro e w_4 hs; obtain ⟨rfl, hb_4, u_4, hw_4⟩ := hs; have k_4 := (hw_4.cell (p := ⟨w2.heap.size, 3, none⟩) hl_3).trans k_3; have hl_4 := Nat.lt_of_lt_of_le hl_3 hw_4.size)
      | (go_at_call 108; refine (CL.out _ hb_4).mono ?_; rintro e w9 ⟨d, rfl, H9⟩))
    go_ret
    exact ⟨d, rfl, H9⟩
  rw [if_neg hq4] at hR
  have hq4 : p.is T 1 [99, 97, 116] = false := by simpa using hq4
  by_cases hq5 : p.is T 1 [114, 101, 112] = true
  · rw [if_pos hq5] at hR
    have C0 : Hid (∀ W, Below w.heap.size w W → Calls Tryz.prog 33 #[.pointer (some ⟨g, 0, none⟩), .string ⟨#[116, 114, 117, 101]⟩] W fun e w' => Seen w x g e false W w') := fun W hW => see_word h [116, 114, 117, 101] hq0 hW
    have C1 : Hid (∀ W, Below w.heap.size w W → Calls Tryz.prog 33 #[.pointer (some ⟨g, 0, none⟩), .string ⟨#[102, 97, 108, 115, 101]⟩] W fun e w' => Seen w x g e false W w') := fun W hW => see_word h [102, 97, 108, 115, 101] hq1 hW
    have C2 : Hid (∀ W, Below w.heap.size w W → Calls Tryz.prog 71 #[.pointer (some ⟨g, 0, none⟩), .string ⟨#[45]⟩] W fun e w' => Seen w x g e false W w') := fun W hW => see_mark h [45] hq2 hW
    have C3 : Hid (∀ W, Below w.heap.size w W → Calls Tryz.prog 71 #[.pointer (some ⟨g, 0, none⟩), .string ⟨#[40]⟩] W fun e w' => Seen w x g e false W w') := fun W hW => see_mark h [40] hq3 hW
    have C4 : Hid (∀ W, Below w.heap.size w W → Calls Tryz.prog 33 #[.pointer (some ⟨g, 0, none⟩), .string ⟨#[99, 97, 116]⟩] W fun e w' => Seen w x g e false W w') := fun W hW => see_word h [99, 97, 116] hq4 hW
    have C5 : Hid (∀ W, Below w.heap.size w W → Calls Tryz.prog 33 #[.pointer (some ⟨g, 0, none⟩), .string ⟨#[114, 101, 112]⟩] W fun e w' => Seen w x g e true W w') := fun W hW => see_word h [114, 101, 112] hq5 hW
    have CL : Hid (∀ W, Below w.heap.size w W → Calls Tryz.prog 109 #[.pointer (some ⟨x, 0, none⟩), .int .i64 10, .int .i64 2] W fun e w' => ∃ d, e = .returned (.int .i64 d) ∧ Hid (XIn x g A c T p R B An l o w w' d)) := by
      intro W hW
      refine (ccall_any FS G hf (h.below hW) h0 (by rw [(is_ok p hq5).2.1]; decide) hmi hl 10 2 (.inr rfl) (by decide)).mono ?_
      intro e w' hh
      obtain ⟨d, e1, hh⟩ := XAt.from hW hh
      exact ⟨d, e1, by rw [← hR]; exact hh⟩
    clear h hx ht hR h0 c2 c3 hm hl hmi F G hf FT FS hq0 hq1 hq2 hq3 hq4 hq5
    go_enter Tryz.func92, Tryz.ntmps92
    go_wp2_with (first
      | (go_at_call 35; refine cp.mono ?_; rintro e w2 ⟨rfl, hb2⟩; have hb0 := hb2.alloc hb2.size (.cells #[.int .i64 (t.k : Nat), .string (str t.t), .int .u64 (t.n : Nat), .int .i64 (t.a : Nat), .int .i64 (t.e : Nat)] 84); obtain ⟨u0, _, _⟩ := (HB.out _ hb0).cells; have k0 := (TBlk.new w2 t).cells.2.2.2.1; have hl0 : w2.heap.size < (w2.alloc (.cells #[.int .i64 (t.k : Nat), .string (str t.t), .int .u64 (t.n : Nat), .int .i64 (t.a : Nat), .int .i64 (t.e : Nat)] 84)).heap.size := by simp)
      | (go_at_call 33; (with_reducible refine (C0.out _ hb0).mono ?_); intro e w_0 hs; obtain ⟨rfl, hb_0, u_0, hw_0⟩ := hs; have k_0 := (hw_0.cell (p := ⟨w2.heap.size, 3, none⟩) hl0).trans k0; have hl_0 := Nat.lt_of_lt_of_le hl0 hw_0.size)
      | (go_at_call 33; (with_reducible refine (C1.out _ hb_0).mono ?_); intro e w_1 hs; obtain ⟨rfl, hb_1, u_1, hw_1⟩ := hs; have k_1 := (hw_1.cell (p := ⟨w2.heap.size, 3, none⟩) hl_0).trans k_0; have hl_1 := Nat.lt_of_lt_of_le hl_0 hw_1.size)
      | (go_at_call 71; (with_reducible refine (C2.out _ hb_1).mono ?_); intro e w_2 hs; obtain ⟨rfl, hb_2, u_2, hw_2⟩ := hs; have k_2 := (hw_2.cell (p := ⟨w2.heap.size, 3, none⟩) hl_1).trans k_1; have hl_2 := Nat.lt_of_lt_of_le hl_1 hw_2.size)
      | (go_at_call 71; (with_reducible refine (C3.out _ hb_2).mono ?_); intro e w_3 hs; obtain ⟨rfl, hb_3, u_3, hw_3⟩ := hs; have k_3 := (hw_3.cell (p := ⟨w2.heap.size, 3, none⟩) hl_2).trans k_2; have hl_3 := Nat.lt_of_lt_of_le hl_2 hw_3.size)
      | (go_at_call 33; (with_reducible refine (C4.out _ hb_3).mono ?_); intro e w_4 hs; obtain ⟨rfl, hb_4, u_4, hw_4⟩ := hs; have k_4 := (hw_4.cell (p := ⟨w2.heap.size, 3, none⟩) hl_3).trans k_3; have hl_4 := Nat.lt_of_lt_of_le hl_3 hw_4.size)
      | (go_at_call 33; (with_reducible refine (C5.out _ hb_4).mono ?_); intro e w_5 hs; obtain ⟨rfl, hb_5, u_5, hw_5⟩ := hs; have k_5 := (hw_5.cell (p := ⟨w2.heap.size, 3, none⟩) hl_4).trans k_4; have hl_5 := Nat.lt_of_lt_of_le hl_4 hw_5.size)
      | (go_at_call 109; refine (CL.out _ hb_5).mono ?_; rintro e w9 ⟨d, rfl, H9⟩))
    go_ret
    exact ⟨d, rfl, H9⟩
  rw [if_neg hq5] at hR
  have hq5 : p.is T 1 [114, 101, 112] = false := by simpa using hq5
  by_cases hq6 : p.is T 1 [108, 101, 110] = true
  · rw [if_pos hq6] at hR
    have C0 : Hid (∀ W, Below w.heap.size w W → Calls Tryz.prog 33 #[.pointer (some ⟨g, 0, none⟩), .string ⟨#[116, 114, 117, 101]⟩] W fun e w' => Seen w x g e false W w') := fun W hW => see_word h [116, 114, 117, 101] hq0 hW
    have C1 : Hid (∀ W, Below w.heap.size w W → Calls Tryz.prog 33 #[.pointer (some ⟨g, 0, none⟩), .string ⟨#[102, 97, 108, 115, 101]⟩] W fun e w' => Seen w x g e false W w') := fun W hW => see_word h [102, 97, 108, 115, 101] hq1 hW
    have C2 : Hid (∀ W, Below w.heap.size w W → Calls Tryz.prog 71 #[.pointer (some ⟨g, 0, none⟩), .string ⟨#[45]⟩] W fun e w' => Seen w x g e false W w') := fun W hW => see_mark h [45] hq2 hW
    have C3 : Hid (∀ W, Below w.heap.size w W → Calls Tryz.prog 71 #[.pointer (some ⟨g, 0, none⟩), .string ⟨#[40]⟩] W fun e w' => Seen w x g e false W w') := fun W hW => see_mark h [40] hq3 hW
    have C4 : Hid (∀ W, Below w.heap.size w W → Calls Tryz.prog 33 #[.pointer (some ⟨g, 0, none⟩), .string ⟨#[99, 97, 116]⟩] W fun e w' => Seen w x g e false W w') := fun W hW => see_word h [99, 97, 116] hq4 hW
    have C5 : Hid (∀ W, Below w.heap.size w W → Calls Tryz.prog 33 #[.pointer (some ⟨g, 0, none⟩), .string ⟨#[114, 101, 112]⟩] W fun e w' => Seen w x g e false W w') := fun W hW => see_word h [114, 101, 112] hq5 hW
    have C6 : Hid (∀ W, Below w.heap.size w W → Calls Tryz.prog 33 #[.pointer (some ⟨g, 0, none⟩), .string ⟨#[108, 101, 110]⟩] W fun e w' => Seen w x g e true W w') := fun W hW => see_word h [108, 101, 110] hq6 hW
    have CL : Hid (∀ W, Below w.heap.size w W → Calls Tryz.prog 109 #[.pointer (some ⟨x, 0, none⟩), .int .i64 11, .int .i64 1] W fun e w' => ∃ d, e = .returned (.int .i64 d) ∧ Hid (XIn x g A c T p R B An l o w w' d)) := by
      intro W hW
      refine (ccall_any FS G hf (h.below hW) h0 (by rw [(is_ok p hq6).2.1]; decide) hmi hl 11 1 (.inl rfl) (by decide)).mono ?_
      intro e w' hh
      obtain ⟨d, e1, hh⟩ := XAt.from hW hh
      exact ⟨d, e1, by rw [← hR]; exact hh⟩
    clear h hx ht hR h0 c2 c3 hm hl hmi F G hf FT FS hq0 hq1 hq2 hq3 hq4 hq5 hq6
    go_enter Tryz.func92, Tryz.ntmps92
    go_wp2_with (first
      | (go_at_call 35; refine cp.mono ?_; rintro e w2 ⟨rfl, hb2⟩; have hb0 := hb2.alloc hb2.size (.cells #[.int .i64 (t.k : Nat), .string (str t.t), .int .u64 (t.n : Nat), .int .i64 (t.a : Nat), .int .i64 (t.e : Nat)] 84); obtain ⟨u0, _, _⟩ := (HB.out _ hb0).cells; have k0 := (TBlk.new w2 t).cells.2.2.2.1; have hl0 : w2.heap.size < (w2.alloc (.cells #[.int .i64 (t.k : Nat), .string (str t.t), .int .u64 (t.n : Nat), .int .i64 (t.a : Nat), .int .i64 (t.e : Nat)] 84)).heap.size := by simp)
      | (go_at_call 33; (with_reducible refine (C0.out _ hb0).mono ?_); intro e w_0 hs; obtain ⟨rfl, hb_0, u_0, hw_0⟩ := hs; have k_0 := (hw_0.cell (p := ⟨w2.heap.size, 3, none⟩) hl0).trans k0; have hl_0 := Nat.lt_of_lt_of_le hl0 hw_0.size)
      | (go_at_call 33; (with_reducible refine (C1.out _ hb_0).mono ?_); intro e w_1 hs; obtain ⟨rfl, hb_1, u_1, hw_1⟩ := hs; have k_1 := (hw_1.cell (p := ⟨w2.heap.size, 3, none⟩) hl_0).trans k_0; have hl_1 := Nat.lt_of_lt_of_le hl_0 hw_1.size)
      | (go_at_call 71; (with_reducible refine (C2.out _ hb_1).mono ?_); intro e w_2 hs; obtain ⟨rfl, hb_2, u_2, hw_2⟩ := hs; have k_2 := (hw_2.cell (p := ⟨w2.heap.size, 3, none⟩) hl_1).trans k_1; have hl_2 := Nat.lt_of_lt_of_le hl_1 hw_2.size)
      | (go_at_call 71; (with_reducible refine (C3.out _ hb_2).mono ?_); intro e w_3 hs; obtain ⟨rfl, hb_3, u_3, hw_3⟩ := hs; have k_3 := (hw_3.cell (p := ⟨w2.heap.size, 3, none⟩) hl_2).trans k_2; have hl_3 := Nat.lt_of_lt_of_le hl_2 hw_3.size)
      | (go_at_call 33; (with_reducible refine (C4.out _ hb_3).mono ?_); intro e w_4 hs; obtain ⟨rfl, hb_4, u_4, hw_4⟩ := hs; have k_4 := (hw_4.cell (p := ⟨w2.heap.size, 3, none⟩) hl_3).trans k_3; have hl_4 := Nat.lt_of_lt_of_le hl_3 hw_4.size)
      | (go_at_call 33; (with_reducible refine (C5.out _ hb_4).mono ?_); intro e w_5 hs; obtain ⟨rfl, hb_5, u_5, hw_5⟩ := hs; have k_5 := (hw_5.cell (p := ⟨w2.heap.size, 3, none⟩) hl_4).trans k_4; have hl_5 := Nat.lt_of_lt_of_le hl_4 hw_5.size)
      | (go_at_call 33; (with_reducible refine (C6.out _ hb_5).mono ?_); intro e w_6 hs; obtain ⟨rfl, hb_6, u_6, hw_6⟩ := hs; have k_6 := (hw_6.cell (p := ⟨w2.heap.size, 3, none⟩) hl_5).trans k_5; have hl_6 := Nat.lt_of_lt_of_le hl_5 hw_6.size)
      | (go_at_call 109; refine (CL.out _ hb_6).mono ?_; rintro e w9 ⟨d, rfl, H9⟩))
    go_ret
    exact ⟨d, rfl, H9⟩
  rw [if_neg hq6] at hR
  have hq6 : p.is T 1 [108, 101, 110] = false := by simpa using hq6
  by_cases hq7 : p.is T 1 [104, 101, 120] = true
  · rw [if_pos hq7] at hR
    have C0 : Hid (∀ W, Below w.heap.size w W → Calls Tryz.prog 33 #[.pointer (some ⟨g, 0, none⟩), .string ⟨#[116, 114, 117, 101]⟩] W fun e w' => Seen w x g e false W w') := fun W hW => see_word h [116, 114, 117, 101] hq0 hW
    have C1 : Hid (∀ W, Below w.heap.size w W → Calls Tryz.prog 33 #[.pointer (some ⟨g, 0, none⟩), .string ⟨#[102, 97, 108, 115, 101]⟩] W fun e w' => Seen w x g e false W w') := fun W hW => see_word h [102, 97, 108, 115, 101] hq1 hW
    have C2 : Hid (∀ W, Below w.heap.size w W → Calls Tryz.prog 71 #[.pointer (some ⟨g, 0, none⟩), .string ⟨#[45]⟩] W fun e w' => Seen w x g e false W w') := fun W hW => see_mark h [45] hq2 hW
    have C3 : Hid (∀ W, Below w.heap.size w W → Calls Tryz.prog 71 #[.pointer (some ⟨g, 0, none⟩), .string ⟨#[40]⟩] W fun e w' => Seen w x g e false W w') := fun W hW => see_mark h [40] hq3 hW
    have C4 : Hid (∀ W, Below w.heap.size w W → Calls Tryz.prog 33 #[.pointer (some ⟨g, 0, none⟩), .string ⟨#[99, 97, 116]⟩] W fun e w' => Seen w x g e false W w') := fun W hW => see_word h [99, 97, 116] hq4 hW
    have C5 : Hid (∀ W, Below w.heap.size w W → Calls Tryz.prog 33 #[.pointer (some ⟨g, 0, none⟩), .string ⟨#[114, 101, 112]⟩] W fun e w' => Seen w x g e false W w') := fun W hW => see_word h [114, 101, 112] hq5 hW
    have C6 : Hid (∀ W, Below w.heap.size w W → Calls Tryz.prog 33 #[.pointer (some ⟨g, 0, none⟩), .string ⟨#[108, 101, 110]⟩] W fun e w' => Seen w x g e false W w') := fun W hW => see_word h [108, 101, 110] hq6 hW
    have C7 : Hid (∀ W, Below w.heap.size w W → Calls Tryz.prog 33 #[.pointer (some ⟨g, 0, none⟩), .string ⟨#[104, 101, 120]⟩] W fun e w' => Seen w x g e true W w') := fun W hW => see_word h [104, 101, 120] hq7 hW
    have CL : Hid (∀ W, Below w.heap.size w W → Calls Tryz.prog 109 #[.pointer (some ⟨x, 0, none⟩), .int .i64 12, .int .i64 1] W fun e w' => ∃ d, e = .returned (.int .i64 d) ∧ Hid (XIn x g A c T p R B An l o w w' d)) := by
      intro W hW
      refine (ccall_any FS G hf (h.below hW) h0 (by rw [(is_ok p hq7).2.1]; decide) hmi hl 12 1 (.inl rfl) (by decide)).mono ?_
      intro e w' hh
      obtain ⟨d, e1, hh⟩ := XAt.from hW hh
      exact ⟨d, e1, by rw [← hR]; exact hh⟩
    clear h hx ht hR h0 c2 c3 hm hl hmi F G hf FT FS hq0 hq1 hq2 hq3 hq4 hq5 hq6 hq7
    go_enter Tryz.func92, Tryz.ntmps92
    go_wp2_with (first
      | (go_at_call 35; refine cp.mono ?_; rintro e w2 ⟨rfl, hb2⟩; have hb0 := hb2.alloc hb2.size (.cells #[.int .i64 (t.k : Nat), .string (str t.t), .int .u64 (t.n : Nat), .int .i64 (t.a : Nat), .int .i64 (t.e : Nat)] 84); obtain ⟨u0, _, _⟩ := (HB.out _ hb0).cells; have k0 := (TBlk.new w2 t).cells.2.2.2.1; have hl0 : w2.heap.size < (w2.alloc (.cells #[.int .i64 (t.k : Nat), .string (str t.t), .int .u64 (t.n : Nat), .int .i64 (t.a : Nat), .int .i64 (t.e : Nat)] 84)).heap.size := by simp)
      | (go_at_call 33; (with_reducible refine (C0.out _ hb0).mono ?_); intro e w_0 hs; obtain ⟨rfl, hb_0, u_0, hw_0⟩ := hs; have k_0 := (hw_0.cell (p := ⟨w2.heap.size, 3, none⟩) hl0).trans k0; have hl_0 := Nat.lt_of_lt_of_le hl0 hw_0.size)
      | (go_at_call 33; (with_reducible refine (C1.out _ hb_0).mono ?_); intro e w_1 hs; obtain ⟨rfl, hb_1, u_1, hw_1⟩ := hs; have k_1 := (hw_1.cell (p := ⟨w2.heap.size, 3, none⟩) hl_0).trans k_0; have hl_1 := Nat.lt_of_lt_of_le hl_0 hw_1.size)
      | (go_at_call 71; (with_reducible refine (C2.out _ hb_1).mono ?_); intro e w_2 hs; obtain ⟨rfl, hb_2, u_2, hw_2⟩ := hs; have k_2 := (hw_2.cell (p := ⟨w2.heap.size, 3, none⟩) hl_1).trans k_1; have hl_2 := Nat.lt_of_lt_of_le hl_1 hw_2.size)
      | (go_at_call 71; (with_reducible refine (C3.out _ hb_2).mono ?_); intro e w_3 hs; obtain ⟨rfl, hb_3, u_3, hw_3⟩ := hs; have k_3 := (hw_3.cell (p := ⟨w2.heap.size, 3, none⟩) hl_2).trans k_2; have hl_3 := Nat.lt_of_lt_of_le hl_2 hw_3.size)
      | (go_at_call 33; (with_reducible refine (C4.out _ hb_3).mono ?_); intro e w_4 hs; obtain ⟨rfl, hb_4, u_4, hw_4⟩ := hs; have k_4 := (hw_4.cell (p := ⟨w2.heap.size, 3, none⟩) hl_3).trans k_3; have hl_4 := Nat.lt_of_lt_of_le hl_3 hw_4.size)
      | (go_at_call 33; (with_reducible refine (C5.out _ hb_4).mono ?_); intro e w_5 hs; obtain ⟨rfl, hb_5, u_5, hw_5⟩ := hs; have k_5 := (hw_5.cell (p := ⟨w2.heap.size, 3, none⟩) hl_4).trans k_4; have hl_5 := Nat.lt_of_lt_of_le hl_4 hw_5.size)
      | (go_at_call 33; (with_reducible refine (C6.out _ hb_5).mono ?_); intro e w_6 hs; obtain ⟨rfl, hb_6, u_6, hw_6⟩ := hs; have k_6 := (hw_6.cell (p := ⟨w2.heap.size, 3, none⟩) hl_5).trans k_5; have hl_6 := Nat.lt_of_lt_of_le hl_5 hw_6.size)
      | (go_at_call 33; (with_reducible refine (C7.out _ hb_6).mono ?_); intro e w_7 hs; obtain ⟨rfl, hb_7, u_7, hw_7⟩ := hs; have k_7 := (hw_7.cell (p := ⟨w2.heap.size, 3, none⟩) hl_6).trans k_6; have hl_7 := Nat.lt_of_lt_of_le hl_6 hw_7.size)
      | (go_at_call 109; refine (CL.out _ hb_7).mono ?_; rintro e w9 ⟨d, rfl, H9⟩))
    go_ret
    exact ⟨d, rfl, H9⟩
  rw [if_neg hq7] at hR
  have hq7 : p.is T 1 [104, 101, 120] = false := by simpa using hq7
  rw [← hR]
  have C0 : Hid (∀ W, Below w.heap.size w W → Calls Tryz.prog 33 #[.pointer (some ⟨g, 0, none⟩), .string ⟨#[116, 114, 117, 101]⟩] W fun e w' => Seen w x g e false W w') := fun W hW => see_word h [116, 114, 117, 101] hq0 hW
  have C1 : Hid (∀ W, Below w.heap.size w W → Calls Tryz.prog 33 #[.pointer (some ⟨g, 0, none⟩), .string ⟨#[102, 97, 108, 115, 101]⟩] W fun e w' => Seen w x g e false W w') := fun W hW => see_word h [102, 97, 108, 115, 101] hq1 hW
  have C2 : Hid (∀ W, Below w.heap.size w W → Calls Tryz.prog 71 #[.pointer (some ⟨g, 0, none⟩), .string ⟨#[45]⟩] W fun e w' => Seen w x g e false W w') := fun W hW => see_mark h [45] hq2 hW
  have C3 : Hid (∀ W, Below w.heap.size w W → Calls Tryz.prog 71 #[.pointer (some ⟨g, 0, none⟩), .string ⟨#[40]⟩] W fun e w' => Seen w x g e false W w') := fun W hW => see_mark h [40] hq3 hW
  have C4 : Hid (∀ W, Below w.heap.size w W → Calls Tryz.prog 33 #[.pointer (some ⟨g, 0, none⟩), .string ⟨#[99, 97, 116]⟩] W fun e w' => Seen w x g e false W w') := fun W hW => see_word h [99, 97, 116] hq4 hW
  have C5 : Hid (∀ W, Below w.heap.size w W → Calls Tryz.prog 33 #[.pointer (some ⟨g, 0, none⟩), .string ⟨#[114, 101, 112]⟩] W fun e w' => Seen w x g e false W w') := fun W hW => see_word h [114, 101, 112] hq5 hW
  have C6 : Hid (∀ W, Below w.heap.size w W → Calls Tryz.prog 33 #[.pointer (some ⟨g, 0, none⟩), .string ⟨#[108, 101, 110]⟩] W fun e w' => Seen w x g e false W w') := fun W hW => see_word h [108, 101, 110] hq6 hW
  have C7 : Hid (∀ W, Below w.heap.size w W → Calls Tryz.prog 33 #[.pointer (some ⟨g, 0, none⟩), .string ⟨#[104, 101, 120]⟩] W fun e w' => Seen w x g e false W w') := fun W hW => see_word h [104, 101, 120] hq7 hW
  have CF : Hid (∀ W, Below w.heap.size w W → Calls Tryz.prog 36 #[.pointer (some ⟨g, 0, none⟩), .int .i64 (t.a : Nat), .int .i64 90] W.drew fun e w' => e = .returned (.tuple #[]) ∧ XAt x g A c T p (p.fail t.a 90) B An l o w (.returned (.int .i64 0)) w') := by
    intro W hW
    have hW2 : Below w.heap.size w W.drew := Below.thenN hW 1
    refine (cfault_any (h.rs.below hW2) t.a 90 (by decide)).mono ?_
    rintro e w' ⟨rfl, hr, hg⟩
    have hnf := fail_flt (p := p) (a := t.a) (e := 90) (by decide)
    exact ⟨rfl, 0, rfl, An, cn, l, (h.below hW2).turn hg hr (fun z => absurd z hnf), (Fx.of hW2).trans (Fx.gn hg), by have := mu_go (go_fail p t.a 90); omega, fun z => absurd z hnf⟩
  clear h hx ht hR h0 c2 c3 hm hl hmi F G hf FT FS hq0 hq1 hq2 hq3 hq4 hq5 hq6 hq7
  go_enter Tryz.func92, Tryz.ntmps92
  go_wp2_with (first
    | (go_at_call 35; refine cp.mono ?_; rintro e w2 ⟨rfl, hb2⟩; have hb0 := hb2.alloc hb2.size (.cells #[.int .i64 (t.k : Nat), .string (str t.t), .int .u64 (t.n : Nat), .int .i64 (t.a : Nat), .int .i64 (t.e : Nat)] 84); obtain ⟨u0, _, _⟩ := (HB.out _ hb0).cells; have k0 := (TBlk.new w2 t).cells.2.2.2.1; have hl0 : w2.heap.size < (w2.alloc (.cells #[.int .i64 (t.k : Nat), .string (str t.t), .int .u64 (t.n : Nat), .int .i64 (t.a : Nat), .int .i64 (t.e : Nat)] 84)).heap.size := by simp)
    | (go_at_call 33; (with_reducible refine (C0.out _ hb0).mono ?_); intro e w_0 hs; obtain ⟨rfl, hb_0, u_0, hw_0⟩ := hs; have k_0 := (hw_0.cell (p := ⟨w2.heap.size, 3, none⟩) hl0).trans k0; have hl_0 := Nat.lt_of_lt_of_le hl0 hw_0.size)
    | (go_at_call 33; (with_reducible refine (C1.out _ hb_0).mono ?_); intro e w_1 hs; obtain ⟨rfl, hb_1, u_1, hw_1⟩ := hs; have k_1 := (hw_1.cell (p := ⟨w2.heap.size, 3, none⟩) hl_0).trans k_0; have hl_1 := Nat.lt_of_lt_of_le hl_0 hw_1.size)
    | (go_at_call 71; (with_reducible refine (C2.out _ hb_1).mono ?_); intro e w_2 hs; obtain ⟨rfl, hb_2, u_2, hw_2⟩ := hs; have k_2 := (hw_2.cell (p := ⟨w2.heap.size, 3, none⟩) hl_1).trans k_1; have hl_2 := Nat.lt_of_lt_of_le hl_1 hw_2.size)
    | (go_at_call 71; (with_reducible refine (C3.out _ hb_2).mono ?_); intro e w_3 hs; obtain ⟨rfl, hb_3, u_3, hw_3⟩ := hs; have k_3 := (hw_3.cell (p := ⟨w2.heap.size, 3, none⟩) hl_2).trans k_2; have hl_3 := Nat.lt_of_lt_of_le hl_2 hw_3.size)
    | (go_at_call 33; (with_reducible refine (C4.out _ hb_3).mono ?_); intro e w_4 hs; obtain ⟨rfl, hb_4, u_4, hw_4⟩ := hs; have k_4 := (hw_4.cell (p := ⟨w2.heap.size, 3, none⟩) hl_3).trans k_3; have hl_4 := Nat.lt_of_lt_of_le hl_3 hw_4.size)
    | (go_at_call 33; (with_reducible refine (C5.out _ hb_4).mono ?_); intro e w_5 hs; obtain ⟨rfl, hb_5, u_5, hw_5⟩ := hs; have k_5 := (hw_5.cell (p := ⟨w2.heap.size, 3, none⟩) hl_4).trans k_4; have hl_5 := Nat.lt_of_lt_of_le hl_4 hw_5.size)
    | (go_at_call 33; (with_reducible refine (C6.out _ hb_5).mono ?_); intro e w_6 hs; obtain ⟨rfl, hb_6, u_6, hw_6⟩ := hs; have k_6 := (hw_6.cell (p := ⟨w2.heap.size, 3, none⟩) hl_5).trans k_5; have hl_6 := Nat.lt_of_lt_of_le hl_5 hw_6.size)
    | (go_at_call 33; (with_reducible refine (C7.out _ hb_6).mono ?_); intro e w_7 hs; obtain ⟨rfl, hb_7, u_7, hw_7⟩ := hs; have k_7 := (hw_7.cell (p := ⟨w2.heap.size, 3, none⟩) hl_6).trans k_6; have hl_7 := Nat.lt_of_lt_of_le hl_6 hw_7.size))
  have k7' : w_7.drew.cell? ⟨w2.heap.size, 3, none⟩ = some (.int .i64 (t.a : Nat)) := k_7
  have u7' : w_7.drew.cell? ⟨x, 0, none⟩ = some (.pointer (some ⟨g, 0, none⟩)) := u_7
  go_still_tail 6, (by kernel_rfl)
  go_wp2_with (go_at_call 36; refine (CF.out _ hb_7).mono ?_; rintro e w9 ⟨rfl, h9⟩; have H9 := Lib.hid h9; clear h9)
  go_ret
  exact H9.out

theorem cfactorF_any (T : List Tk) : ∀ f : Nat, FacC T (T.length + 1 - f) (factorF T f)
  | 0 => by
    intro h hm _
    have hin := h.rs.inn
    unfold In_ at hin
    exact cfactor_stuck h (hm.resolve_right fun z => by omega)
  | f + 1 => cfactor_any (cfactorF_any T f) (go_factorF f) (fun _ h => factorF_stuck h f) (by omega)
theorem cexpr_any (T : List Tk) : SumC T 0 (exprF T) := by
  intro w x g A c p B An cn l o h _ hl
  exact csum_any (cterm_any (cfactorF_any T (T.length + 1)) (go_factorF _)) (go_factorF _) h (.inr (by omega)) hl
end Go.Proofs.YtipcgmaobiobbaaGreatDoor
