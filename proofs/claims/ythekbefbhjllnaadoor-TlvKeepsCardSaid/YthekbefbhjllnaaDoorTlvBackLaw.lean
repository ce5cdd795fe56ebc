/- The walks of TlvBack and TlvForth. -/
import Derived.Test.YthekbefbhjllnaaDoorTlvLives
namespace Go.Proofs.YthekbefbhjllnaaDoor
open Go.RowKit
open Go.Lib (byteCells uvarint)

theorem dre_len (p : List UInt8) : (dre p).length ≤ 140737488355328 := by
  rcases der_three p with ⟨_, _, e⟩ | ⟨_, _, e, _⟩ | ⟨_, _, e, _⟩
  · rw [e]; simp
  · have := is_few e; omega
  · rw [e]; simp

section
variable {w0 w : World}
theorem c_lives (h : KSt w0 w) : Calls Tryd.prog 11 #[] w fun e w' => e = .returned (.bool true) ∧ KSt w0 w' := h.of (lives_any h)
theorem c_heavy {A : Option Addr} {l : List Fd} (c : Nat) (hA : FRow w0 w0.heap.size A l) (hg : Good l) (hl : l.length ≤ 140737488355328) (h : KSt w0 w) :
    Calls Tryd.prog 12 #[.slice A l.length c] w fun e w' => e = .returned (.bool (hvy l)) ∧ w = w' := heavy_any w c (hA.then_ h.below) hg hl
theorem c_check {A : Option Addr} {l : List Fd} (c : Nat) (hA : FRow w0 w0.heap.size A l) (hg : Good l) (hl : Light l) (h : KSt w0 w) :
    Calls Tryd.prog 14 #[.slice A l.length c] w fun e w' => e = .returned (.tuple #[.int .i64 (cat l), .int .i64 (cer l)]) ∧ KSt w0 w' := h.of (check_any h c (hA.then_ h.below) hg hl)
theorem c_size {A : Option Addr} {l : List Fd} (c : Nat) (hA : FRow w0 w0.heap.size A l) (hg : Good l) (hl : Light l) (h : KSt w0 w) :
    Calls Tryd.prog 18 #[.slice A l.length c] w fun e w' => e = .returned (.tuple #[.int .i64 (csz l), .int .i64 (cer l)]) ∧ KSt w0 w' ∧ Below w.heap.size w w' :=
  (size5_any h c (hA.then_ h.below) hg hl).mono fun _ _ ⟨he, hb⟩ => ⟨he, h.then_ hb, hb⟩
/-- a row of bytes that was made behind the call's beginning -/
structure EncAt (w0 w w' : World) (A : Option Addr) (c : Nat) (r : List UInt8) : Prop where
  st : KSt w0 w'
  own : OwnB w' w.heap.size 5 A c r
  reads : Byt w' w'.heap.size A r
  room : r.length ≤ c
  old : Below w.heap.size w w'
theorem c_encode {A : Option Addr} {l : List Fd} (c : Nat) (hA : FRow w0 w0.heap.size A l) (hg : Good l) (hl : Light l) (h : KSt w0 w) :
    Calls Tryd.prog 16 #[.slice A l.length c] w fun e w' => ∃ A' c', e = .returned (.tuple #[.slice A' (cby l).length c', .int .i64 (cer l)]) ∧ EncAt w0 w w' A' c' (cby l) := by
  refine (encode_any h c (hA.then_ h.below) hg hl).mono ?_
  rintro e w' ⟨A', c', he, ho, hb⟩
  exact ⟨A', c', he, h.then_ hb, ho, ho.reads, (own_room ho).1, hb⟩
/-- a list of fields that was made behind the call's beginning -/
structure DecAt (w0 w w' : World) (A : Option Addr) (c : Nat) (r : List Fd) : Prop where
  st : KSt w0 w'
  own : OwnF w' w.heap.size A c r
  reads : FRow w' w'.heap.size A r
  room : r.length ≤ c
  old : Below w.heap.size w w'
theorem c_decode {A : Option Addr} {b : List UInt8} (c : Nat) (hA : Byt w w.heap.size A b) (hc : b.length ≤ c) (hm : b.length ≤ 140737488355328) (h : KSt w0 w) :
    Calls Tryd.prog 21 #[.slice A b.length c] w fun e w' => ∃ A' c', e = .returned (.tuple #[.slice A' (dre b).length c', .int .i64 (der b)]) ∧ DecAt w0 w w' A' c' (dre b) := by
  refine (decode_any h c hA hc hm).mono ?_
  rintro e w' ⟨A', c', he, ho, hb⟩
  exact ⟨A', c', he, h.then_ hb, ho, ho.reads, ho.room, hb⟩
theorem c_same {A A' : Option Addr} {a b : List Fd} (c c' : Nat) (ha : FRow w w.heap.size A a) (hb : FRow w w.heap.size A' b) (hl : a.length ≤ 140737488355328) (hl' : b.length ≤ 140737488355328) (h : KSt w0 w) :
    Calls Tryd.prog 22 #[.slice A a.length c, .slice A' b.length c'] w fun e w' => e = .returned (.bool (sm a b)) ∧ KSt w0 w' ∧ Below w.heap.size w w' := by
  refine (same_any c c' ha hb hl hl').mono ?_
  rintro e w' ⟨he, d, rfl⟩
  exact ⟨he, h.newN d, Below.newN w d⟩
end

set_option maxRecDepth 100000 in
set_option maxHeartbeats 2000000 in
theorem back_any {w : World} (h : KSt w w) {A : Option Addr} {l : List Fd} (c : Nat) (hA : FRow w w.heap.size A l) (hg : Good l) (hl : l.length ≤ 140737488355328) :
    Calls Tryd.prog 5 #[.slice A l.length c] w (Yes w) := by
  have ch := fun {W : World} (q : KSt w W) => c_heavy c hA hg hl q
  cases hh : hvy l with
  | true =>
    simp only [hh] at ch
    clear hh
    go_enter Tryd.func5, Tryd.ntmps5
    go_wp2_with (first
      | (go_at_call 11; refine (c_lives h).mono ?_; rintro e w1 ⟨rfl, h1⟩)
      | (go_at_call 12; refine (ch h1).mono ?_; rintro e w2 ⟨rfl, rfl⟩))
    go_ret
    exact ⟨rfl, h1.below⟩
  | false =>
    have hL := hvy_light hh
    simp only [hh] at ch
    clear hh
    have ck := fun {W : World} (q : KSt w W) => c_check c hA hg hL q
    have cs := fun {W : World} (q : KSt w W) => c_size c hA hg hL q
    have ce := fun {W : World} (q : KSt w W) => c_encode c hA hg hL q
    have hi := cer_is hg.fit
    obtain ⟨a, ha⟩ : ∃ a, cat l = a := ⟨_, rfl⟩
    simp only [ha] at ck
    rcases hi with ⟨g, his⟩ | ⟨g, his, hm⟩ | ⟨g, his, hm⟩
    · have hz : csz l = 0 := by unfold csz; rw [g]; rfl
      have hb : cby l = [] := by unfold cby; rw [g]; rfl
      simp only [g, hz, hb] at ck cs ce
      clear g his hz hb ha
      go_enter Tryd.func5, Tryd.ntmps5
      go_wp2_with (first
        | (go_at_call 11; refine (c_lives h).mono ?_; rintro e w1 ⟨rfl, h1⟩)
        | (go_at_call 12; refine (ch h1).mono ?_; rintro e w2 ⟨rfl, rfl⟩)
        | (go_at_call 14; refine (ck h1).mono ?_; rintro e w3 ⟨rfl, h3⟩)
        | (go_at_call 16; refine (ce h3).mono ?_; rintro e w4 ⟨A4, c4, rfl, h4⟩)
        | (go_at_call 18; refine (cs h4.st).mono ?_; rintro e w5 ⟨rfl, h5, hb5⟩))
      go_ret
      exact ⟨rfl, h5.below⟩
    · obtain ⟨_, _, hz, hb⟩ := cer_long his hm
      simp only [g, hz, hb] at ck cs ce
      clear g his hz hb ha hm
      go_enter Tryd.func5, Tryd.ntmps5
      go_wp2_with (first
        | (go_at_call 11; refine (c_lives h).mono ?_; rintro e w1 ⟨rfl, h1⟩)
        | (go_at_call 12; refine (ch h1).mono ?_; rintro e w2 ⟨rfl, rfl⟩)
        | (go_at_call 14; refine (ck h1).mono ?_; rintro e w3 ⟨rfl, h3⟩)
        | (go_at_call 16; refine (ce h3).mono ?_; rintro e w4 ⟨A4, c4, rfl, h4⟩)
        | (go_at_call 18; refine (cs h4.st).mono ?_; rintro e w5 ⟨rfl, h5, hb5⟩))
      go_ret
      exact ⟨rfl, h5.below⟩
    · obtain ⟨_, _, hz, hb⟩ := cer_ok his hm
      simp only [g, hz, hb] at ck cs ce
      obtain ⟨e1, e2⟩ := der_ok hm his rfl
      obtain ⟨r, hr⟩ : ∃ r, enc l = r := ⟨_, rfl⟩
      simp only [hr] at ck cs ce hm e1 e2
      have cd := fun {W : World} {A4 : Option Addr} {c4 : Nat} (q : KSt w W) (hB : Byt W W.heap.size A4 r) (hc : r.length ≤ c4) => c_decode c4 hB hc (by omega) q
      simp only [e1, e2] at cd
      have csm := fun {W : World} {A6 : Option Addr} {c6 : Nat} (q : KSt w W) (hB : FRow W W.heap.size A6 l) => c_same c6 c hB (hA.then_ q.below) hl hl q
      simp only [sm_self] at csm
      clear g his hz hb ha hr e1 e2
      go_enter Tryd.func5, Tryd.ntmps5
      go_wp2_with (first
        | (go_at_call 11; refine (c_lives h).mono ?_; rintro e w1 ⟨rfl, h1⟩)
        | (go_at_call 12; refine (ch h1).mono ?_; rintro e w2 ⟨rfl, rfl⟩)
        | (go_at_call 14; refine (ck h1).mono ?_; rintro e w3 ⟨rfl, h3⟩)
        | (go_at_call 16; refine (ce h3).mono ?_; rintro e w4 ⟨A4, c4, rfl, h4⟩; have hrm := h4.room; have hrd := h4.reads)
        | (go_at_call 18; refine (cs h4.st).mono ?_; rintro e w5 ⟨rfl, h5, hb5⟩)
        | (go_at_call 21; refine (cd h5 (hrd.then_ hb5) hrm).mono ?_; rintro e w6 ⟨A6, c6, rfl, h6⟩; have h6s := h6.st; have h6r := h6.reads)
        | (go_at_call 22; refine (csm h6s h6r).mono ?_; rintro e w7 ⟨rfl, h7, _⟩))
      go_ret
      exact ⟨ret_bool (decide_eq_true (by omega)), h7.below⟩

section
variable {w0 w : World}
theorem d_check {A : Option Addr} {l : List Fd} (c : Nat) (hA : FRow w w.heap.size A l) (hg : Good l) (hl : Light l) (h : KSt w0 w) :
    Calls Tryd.prog 14 #[.slice A l.length c] w fun e w' => e = .returned (.tuple #[.int .i64 (cat l), .int .i64 (cer l)]) ∧ KSt w0 w' ∧ Below w.heap.size w w' :=
  (check_any h c hA hg hl).mono fun _ _ ⟨he, hb⟩ => ⟨he, h.then_ hb, hb⟩
theorem d_encode {A : Option Addr} {l : List Fd} (c : Nat) (hA : FRow w w.heap.size A l) (hg : Good l) (hl : Light l) (h : KSt w0 w) :
    Calls Tryd.prog 16 #[.slice A l.length c] w fun e w' => ∃ A' c', e = .returned (.tuple #[.slice A' (cby l).length c', .int .i64 (cer l)]) ∧ EncAt w0 w w' A' c' (cby l) := by
  refine (encode_any h c hA hg hl).mono ?_
  rintro e w' ⟨A', c', he, ho, hb⟩
  exact ⟨A', c', he, h.then_ hb, ho, ho.reads, (own_room ho).1, hb⟩
end

set_option maxRecDepth 100000 in
set_option maxHeartbeats 2000000 in
theorem forth_any {w : World} (h : KSt w w) {A : Option Addr} {b : List UInt8} (c : Nat) (hA : Byt w w.heap.size A b) (hc : b.length ≤ c) (hm : b.length ≤ 140737488355328) :
    Calls Tryd.prog 6 #[.slice A b.length c] w (Yes w) := by
  by_cases hbig : 33554432 < b.length
  · go_enter Tryd.func6, Tryd.ntmps6
    go_wp2_with (go_at_call 11; refine (c_lives h).mono ?_; rintro e w1 ⟨rfl, h1⟩)
    go_ret
    exact ⟨rfl, h1.below⟩
  have cd := fun {W : World} (q : KSt w W) => c_decode c (hA.then_ q.below) hc hm q
  rcases der_three b with ⟨hl, d1, d2⟩ | ⟨hl, d1, his, henc⟩ | ⟨hl, d1, d2, _⟩
  · simp only [d1, d2] at cd
    clear d1 d2
    go_enter Tryd.func6, Tryd.ntmps6
    go_wp2_with (first
      | (go_at_call 11; refine (c_lives h).mono ?_; rintro e w1 ⟨rfl, h1⟩)
      | (go_at_call 21; refine (cd h1).mono ?_; rintro e w2 ⟨A2, c2, rfl, h2⟩))
    go_ret
    exact ⟨rfl, h2.st.below⟩
  · simp only [d1] at cd
    obtain ⟨r, hr⟩ : ∃ r, dre b = r := ⟨_, rfl⟩
    simp only [hr] at cd his henc
    obtain ⟨hg, hL⟩ := is_good his (by rw [henc]; omega)
    obtain ⟨z1, z2, _, z4⟩ := cer_ok his (by rw [henc]; omega)
    rw [henc] at z4
    have ck := fun {W : World} {A3 : Option Addr} {c3 : Nat} (q : KSt w W) (hF : FRow W W.heap.size A3 r) => d_check c3 hF hg hL q
    have ce := fun {W : World} {A3 : Option Addr} {c3 : Nat} (q : KSt w W) (hF : FRow W W.heap.size A3 r) => d_encode c3 hF hg hL q
    simp only [z1, z2, z4] at ck ce
    clear z1 z2 z4 d1 hr his henc hL
    have HG := Lib.hid hg
    clear hg
    go_enter Tryd.func6, Tryd.ntmps6
    go_wp2_with (first
      | (go_at_call 11; refine (c_lives h).mono ?_; rintro e w1 ⟨rfl, h1⟩)
      | (go_at_call 21; refine (cd h1).mono ?_; rintro e w2 ⟨A2, c2, rfl, h2⟩; have h2s := h2.st; have h2r := h2.reads)
      | (go_at_call 14; refine (ck h2s h2r).mono ?_; rintro e w3 ⟨rfl, h3, hb3⟩; have h3r := h2r.then_ hb3)
      | (go_at_call 16; refine (ce h3 h3r).mono ?_; rintro e w4 ⟨A4, c4, rfl, h4⟩; have h4s := h4.st; have h4r := h4.reads)
      | (go_at_call 19; refine (alike_any _ _ h4r (hA.then_ h4s.below)).mono ?_; rintro e w5 ⟨rfl, rfl⟩))
    go_ret
    exact ⟨ret_bool (by simp), h4s.below⟩
  · simp only [d1, d2] at cd
    clear d1 d2
    go_enter Tryd.func6, Tryd.ntmps6
    go_wp2_with (first
      | (go_at_call 11; refine (c_lives h).mono ?_; rintro e w1 ⟨rfl, h1⟩)
      | (go_at_call 21; refine (cd h1).mono ?_; rintro e w2 ⟨A2, c2, rfl, h2⟩))
    go_ret
    exact ⟨ret_bool (by simp; try omega), h2.st.below⟩
end Go.Proofs.YthekbefbhjllnaaDoor
