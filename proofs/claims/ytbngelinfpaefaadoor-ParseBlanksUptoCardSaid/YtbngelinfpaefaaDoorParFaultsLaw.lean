/- The walk of ParseFaults. -/
import Derived.Test.YtbngelinfpaefaaDoorParGl
import Derived.Test.YtbngelinfpaefaaDoorParGk
namespace Go.Proofs.YtbngelinfpaefaaDoor
open Go.RowKit

theorem bad_evs {s : ByteArray} (h : (schS s).err ≠ 0) : (schS s).evs = [] := by
  cases hs : schS s with
  | ok l => rw [hs] at h; exact absurd rfl h
  | bad a e => rfl
/-- what is answered where there is a fault -/
theorem csch_bad (w : World) (s : ByteArray) (hEV : EV w) (h : (schS s).evs = []) : Calls Tryd.prog 15 #[.string s] w fun e w' => ∃ As cs, e = .returned (.tuple #[.agg #[.slice As 0 cs], .int .i64 ((schS s).plc : Nat), .int .i64 ((schS s).err : Nat)]) ∧ Below w.heap.size w w' := by
  refine (cschema_any w s hEV).mono ?_
  rintro e w' ⟨As, cs, es, rfl, hb, _, he⟩
  rw [h] at he
  obtain rfl : es = [] := by cases es with
    | nil => rfl
    | cons x r => cases he
  exact ⟨As, cs, rfl, hb⟩
theorem csch_len (w : World) (s : ByteArray) (hEV : EV w) : Calls Tryd.prog 15 #[.string s] w fun e w' => ∃ As n cs, e = .returned (.tuple #[.agg #[.slice As n cs], .int .i64 ((schS s).plc : Nat), .int .i64 ((schS s).err : Nat)]) ∧ Below w.heap.size w w' := by
  refine (cschema_any w s hEV).mono ?_
  rintro e w' ⟨As, cs, es, rfl, hb, _, he⟩
  exact ⟨As, _, cs, rfl, hb⟩
theorem neut_word {k n a e : Nat} {t : List UInt8} (h : k ≠ 4) : Neut ⟨k, t, n, a, e⟩ := fun z => absurd z h
theorem neut_mark {n a e : Nat} {t : List UInt8} (h : t ≠ [42] ∧ t ≠ [43] ∧ t ≠ [45] ∧ t ≠ [44]) : Neut ⟨4, t, n, a, e⟩ := fun _ => h
/-- the nine words -/
def fwL : List ByteArray := [⟨#[118, 101, 114, 115, 105, 111, 110]⟩, ⟨#[120]⟩, ⟨#[123]⟩, ⟨#[125]⟩, ⟨#[49]⟩, ⟨#[34, 101, 34]⟩, ⟨#[59]⟩, ⟨#[97, 100, 100]⟩, ⟨#[116, 114, 117, 101]⟩]
def Fw (m : Nat) (W : ByteArray) : Prop := fwL[m]? = some W ∧ ∀ s r : ByteArray, (schS s).err = 0 → ls r = ls s ++ 10 :: (ls W ++ [32]) → s.size ≤ 262144 → schS r = .bad (s.size + 1) 90
theorem fw_size {s r : ByteArray} {l : List UInt8} {n : Nat} (hr : ls r = ls s ++ 10 :: l) (h : l.length ≤ n) : r.size ≤ s.size + (n + 1) := by
  rw [← ls_size, hr, List.length_append, List.length_cons, ls_size]
  omega
theorem fw_0 : Fw 0 ⟨#[118, 101, 114, 115, 105, 111, 110]⟩ := ⟨rfl, fun s r h hr hs => sch_behind h hr (by have := fw_size (n := 8) hr (by decide); omega) (k := 1) (n := 0) (len := 7) (t := [118, 101, 114, 115, 105, 111, 110]) (by decide +kernel) (by decide) (neut_word (by decide)) (by decide)⟩
theorem fw_1 : Fw 1 ⟨#[120]⟩ := ⟨rfl, fun s r h hr hs => sch_behind h hr (by have := fw_size (n := 8) hr (by decide); omega) (k := 1) (n := 0) (len := 1) (t := [120]) (by decide +kernel) (by decide) (neut_word (by decide)) (by decide)⟩
theorem fw_2 : Fw 2 ⟨#[123]⟩ := ⟨rfl, fun s r h hr hs => sch_behind h hr (by have := fw_size (n := 8) hr (by decide); omega) (k := 4) (n := 0) (len := 1) (t := [123]) (by decide +kernel) (by decide) (neut_mark (by decide)) (by decide)⟩
theorem fw_3 : Fw 3 ⟨#[125]⟩ := ⟨rfl, fun s r h hr hs => sch_behind h hr (by have := fw_size (n := 8) hr (by decide); omega) (k := 4) (n := 0) (len := 1) (t := [125]) (by decide +kernel) (by decide) (neut_mark (by decide)) (by decide)⟩
theorem fw_4 : Fw 4 ⟨#[49]⟩ := ⟨rfl, fun s r h hr hs => sch_behind h hr (by have := fw_size (n := 8) hr (by decide); omega) (k := 2) (n := 1) (len := 1) (t := []) (by decide +kernel) (by decide) (neut_word (by decide)) (by decide)⟩
theorem fw_5 : Fw 5 ⟨#[34, 101, 34]⟩ := ⟨rfl, fun s r h hr hs => sch_behind h hr (by have := fw_size (n := 8) hr (by decide); omega) (k := 3) (n := 0) (len := 3) (t := [101]) (by decide +kernel) (by decide) (neut_word (by decide)) (by decide)⟩
theorem fw_6 : Fw 6 ⟨#[59]⟩ := ⟨rfl, fun s r h hr hs => sch_behind h hr (by have := fw_size (n := 8) hr (by decide); omega) (k := 4) (n := 0) (len := 1) (t := [59]) (by decide +kernel) (by decide) (neut_mark (by decide)) (by decide)⟩
theorem fw_7 : Fw 7 ⟨#[97, 100, 100]⟩ := ⟨rfl, fun s r h hr hs => sch_behind h hr (by have := fw_size (n := 8) hr (by decide); omega) (k := 1) (n := 0) (len := 3) (t := [97, 100, 100]) (by decide +kernel) (by decide) (neut_word (by decide)) (by decide)⟩
theorem fw_8 : Fw 8 ⟨#[116, 114, 117, 101]⟩ := ⟨rfl, fun s r h hr hs => sch_behind h hr (by have := fw_size (n := 8) hr (by decide); omega) (k := 1) (n := 0) (len := 4) (t := [116, 114, 117, 101]) (by decide +kernel) (by decide) (neut_word (by decide)) (by decide)⟩
theorem fw_any (m : Nat) (h : m < 9) : ∃ W, Fw m W := by
  rcases (by omega : m = 0 ∨ m = 1 ∨ m = 2 ∨ m = 3 ∨ m = 4 ∨ m = 5 ∨ m = 6 ∨ m = 7 ∨ m = 8) with rfl | rfl | rfl | rfl | rfl | rfl | rfl | rfl | rfl
  · exact ⟨_, fw_0⟩
  · exact ⟨_, fw_1⟩
  · exact ⟨_, fw_2⟩
  · exact ⟨_, fw_3⟩
  · exact ⟨_, fw_4⟩
  · exact ⟨_, fw_5⟩
  · exact ⟨_, fw_6⟩
  · exact ⟨_, fw_7⟩
  · exact ⟨_, fw_8⟩

set_option maxRecDepth 100000 in
set_option maxHeartbeats 4000000 in
theorem faults_any (w : World) (hEV : EV w) (s : ByteArray) (k : UInt8) : Calls Tryd.prog 6 #[.string s, .int .u8 (k.toNat : Nat)] w fun e w' => e = .returned (.bool true) ∧ Below w.heap.size w w' := by
  have ca := cawake_any w hEV
  by_cases hbig : 262144 < s.size
  · have hz : (262144 : Int) < (s.size : Int) := by omega
    go_enter Tryd.func6, Tryd.ntmps6
    go_wp2_with (go_at_call 13; refine ca.mono ?_; rintro e w1 ⟨rfl, hb1⟩)
    go_ret
    exact ⟨rfl, hb1⟩
  · have hz : ¬ (262144 : Int) < (s.size : Int) := by omega
    have hpl := sch_place s
    by_cases he : (schS s).err = 0
    · have hp0 : (schS s).plc = 0 := by obtain ⟨_, _, _, _, _, h⟩ := sch_ok he; exact h
      have cs := fun W h => csch_len W s h
      rw [he, hp0] at cs
      obtain ⟨m, hm⟩ : ∃ m : Nat, m = k.toNat % 9 := ⟨_, rfl⟩
      have hm9 : m < 9 := by omega
      obtain ⟨Wd, hW⟩ := fw_any m hm9
      have hbad := hW.2
      have hb := hbad s (((s ++ ⟨#[10]⟩) ++ Wd) ++ ⟨#[32]⟩) he (by rw [ls_append, ls_append, ls_append, List.append_assoc, List.append_assoc]; rfl) (by omega)
      have cb := fun W h => csch_bad W (((s ++ ⟨#[10]⟩) ++ Wd) ++ ⟨#[32]⟩) h (by rw [hb]; rfl)
      rw [hb] at cb
      replace cb : ∀ W, EV W → Calls Tryd.prog 15 #[.string (((s ++ ⟨#[10]⟩) ++ Wd) ++ ⟨#[32]⟩)] W fun e w' => ∃ As cs, e = .returned (.tuple #[.agg #[.slice As 0 cs], .int .i64 ((s.size + 1 : Nat) : Int), .int .i64 90]) ∧ Below W.heap.size W w' := cb
      have hk : ((k.toNat : Nat) : Int) % 9 = (m : Int) := by omega
      have hk0 : (0 : Int) ≤ ((k.toNat : Nat) : Int) := by omega
      have hk1 : ((k.toNat : Nat) : Int) < 256 := by have := k.toNat_lt; omega
      obtain ⟨x, hx⟩ : ∃ x : Int, x = ((k.toNat : Nat) : Int) := ⟨_, rfl⟩
      rw [← hx] at hk hk0 hk1
      rw [← hx]
      have m0 : (0 : Int) ≤ (m : Int) := by omega
      have m9 : (m : Int) < 9 := by omega
      have hel : ([.string ⟨#[118, 101, 114, 115, 105, 111, 110]⟩, .string ⟨#[120]⟩, .string ⟨#[123]⟩, .string ⟨#[125]⟩, .string ⟨#[49]⟩, .string ⟨#[34, 101, 34]⟩, .string ⟨#[59]⟩, .string ⟨#[97, 100, 100]⟩, .string ⟨#[116, 114, 117, 101]⟩] : List Value)[m]'(by show m < 9; exact hm9) = Value.string Wd := by
        have h2 : (fwL.map fun b => Value.string b)[m]? = some (.string Wd) := by rw [List.getElem?_map, hW.1]; rfl
        exact (List.getElem?_eq_some_iff.1 h2).2
      have hs9 : s.size ≤ 262144 := by omega
      have hw9 : Wd.size ≤ 8 := (by decide : ∀ b ∈ fwL, b.size ≤ 8) Wd (List.mem_of_getElem? hW.1)
      have hs1 : ((s.size + 1 : Nat) : Int) = (s.size : Int) + 1 := by omega
      rw [hs1] at cb
      clear hm hbad hb hW hx hp0 hpl he hbig
      go_enter Tryd.func6, Tryd.ntmps6
      go_wp2_with (first
        | (go_at_call 13; refine ca.mono ?_; rintro e w1 ⟨rfl, hb1⟩)
        | (go_at_call 15; (with_reducible refine (cs _ (hEV.below hb1)).mono ?_); rintro e w2 ⟨As, n, c, rfl, hb2⟩; have f9 : Hid (Below w2.heap.size w2 ((w2.alloc (.cells #[.slice As n c] 30)).alloc (.cells #[.string ⟨#[118, 101, 114, 115, 105, 111, 110]⟩, .string ⟨#[120]⟩, .string ⟨#[123]⟩, .string ⟨#[125]⟩, .string ⟨#[49]⟩, .string ⟨#[34, 101, 34]⟩, .string ⟨#[59]⟩, .string ⟨#[97, 100, 100]⟩, .string ⟨#[116, 114, 117, 101]⟩] 9))) := ((Below.refl _ w2).alloc (Nat.le_refl _) _).alloc (by simp) _; have e9 := (((hEV.below hb1).below hb2).new (.cells #[.slice As n c] 30)).new (.cells #[.string ⟨#[118, 101, 114, 115, 105, 111, 110]⟩, .string ⟨#[120]⟩, .string ⟨#[123]⟩, .string ⟨#[125]⟩, .string ⟨#[49]⟩, .string ⟨#[34, 101, 34]⟩, .string ⟨#[59]⟩, .string ⟨#[97, 100, 100]⟩, .string ⟨#[116, 114, 117, 101]⟩] 9))
        | (go_at_call 15; refine (cb _ e9).mono ?_; rintro e w3 ⟨As', c', rfl, hb3⟩))
      go_ret
      exact ⟨rfl, (Below.both (Below.both hb1 hb2) (Below.both f9.out hb3)).alloc (by have := hb1.size; have := hb2.size; have := f9.out.size; have := hb3.size; omega) _⟩
    · have cs := fun W h => csch_bad W s h (bad_evs he)
      obtain ⟨x, hx⟩ : ∃ x, (schS s).err = x := ⟨_, rfl⟩
      obtain ⟨p, hp⟩ : ∃ p, (schS s).plc = p := ⟨_, rfl⟩
      rw [hx, hp] at cs
      rw [hx] at he
      rw [hp] at hpl
      have hxz : ((x : Int) != 0) = true := by simp; omega
      have p0 : (0 : Int) ≤ (p : Int) := by omega
      have p1 : (p : Int) ≤ (s.size : Int) := by omega
      clear he hx hp hpl hbig
      go_enter Tryd.func6, Tryd.ntmps6
      go_wp2_with (first
        | (go_at_call 13; refine ca.mono ?_; rintro e w1 ⟨rfl, hb1⟩)
        | (go_at_call 15; refine (cs _ (hEV.below hb1)).mono ?_; rintro e w2 ⟨As, c, rfl, hb2⟩))
      go_ret
      exact ⟨rfl, (Below.both hb1 hb2).alloc (by have := hb1.size; have := hb2.size; omega) _⟩
end Go.Proofs.YtbngelinfpaefaaDoor
