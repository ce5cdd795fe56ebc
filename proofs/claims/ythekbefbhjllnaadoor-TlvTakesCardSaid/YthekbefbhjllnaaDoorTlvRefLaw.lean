/- The walks of TlvMakes and TlvTakes. -/
import Derived.Test.YthekbefbhjllnaaDoorTlvRDec
namespace Go.Proofs.YthekbefbhjllnaaDoor
open Go.RowKit
open Go.Lib (byteCells uvarint)

section
variable {w0 w : World}
theorem r_check {A : Option Addr} {l : List Fd} (c : Nat) (hA : FRow w0 w0.heap.size A l) (hg : Good l) (hl : Light l) (h : KSt w0 w) :
    Calls Tryd.prog 13 #[.slice A l.length c] w fun e w' => e = .returned (.tuple #[.int .i64 (cat l), .int .i64 (cer l)]) ∧ KSt w0 w' := h.of (rcheck_any h c (hA.then_ h.below) hg hl)
theorem r_size {A : Option Addr} {l : List Fd} (c : Nat) (hA : FRow w0 w0.heap.size A l) (hg : Good l) (hl : Light l) (h : KSt w0 w) :
    Calls Tryd.prog 17 #[.slice A l.length c] w fun e w' => e = .returned (.tuple #[.int .i64 (csz l), .int .i64 (cer l)]) ∧ KSt w0 w' ∧ Below w.heap.size w w' :=
  (rsize5_any h c (hA.then_ h.below) hg hl).mono fun _ _ ⟨he, hb⟩ => ⟨he, h.then_ hb, hb⟩
theorem r_encode {A : Option Addr} {l : List Fd} (c : Nat) (hA : FRow w0 w0.heap.size A l) (hg : Good l) (hl : Light l) (h : KSt w0 w) :
    Calls Tryd.prog 15 #[.slice A l.length c] w fun e w' => ∃ A' c', e = .returned (.tuple #[.slice A' (cby l).length c', .int .i64 (cer l)]) ∧ EncAt w0 w w' A' c' (cby l) := by
  refine (rencode_any h c (hA.then_ h.below) hg hl).mono ?_
  rintro e w' ⟨A', c', he, ho, hb⟩
  exact ⟨A', c', he, h.then_ hb, ho, ho.reads, (own_room ho).1, hb⟩
theorem r_decode {A : Option Addr} {b : List UInt8} (c : Nat) (hA : Byt w w.heap.size A b) (hc : b.length ≤ c) (hm : b.length ≤ 140737488355328) (h : KSt w0 w) :
    Calls Tryd.prog 20 #[.slice A b.length c] w fun e w' => ∃ A' c', e = .returned (.tuple #[.slice A' (dre b).length c', .int .i64 (der b)]) ∧ DecAt w0 w w' A' c' (dre b) := by
  refine (rdec_any h c hA hc hm).mono ?_
  rintro e w' ⟨A', c', he, ho, hb⟩
  exact ⟨A', c', he, h.then_ hb, ho, ho.reads, ho.room, hb⟩
end

set_option maxRecDepth 100000 in
set_option maxHeartbeats 2000000 in
theorem makes_any {w : World} (h : KSt w w) {A : Option Addr} {l : List Fd} (c : Nat) (hA : FRow w w.heap.size A l) (hg : Good l) (hl : l.length ≤ 140737488355328) :
    Calls Tryd.prog 3 #[.slice A l.length c] w (Yes w) := by
  have ch := fun {W : World} (q : KSt w W) => c_heavy c hA hg hl q
  cases hh : hvy l with
  | true =>
    simp only [hh] at ch
    clear hh
    go_enter Tryd.func3, Tryd.ntmps3
    go_wp2_with (first
      | (go_at_call 11; refine (c_lives h).mono ?_; rintro e w1 ⟨rfl, h1⟩)
      | (go_at_call 12; refine (ch h1).mono ?_; rintro e w2 ⟨rfl, rfl⟩))
    go_ret
    exact ⟨rfl, h1.below⟩
  | false =>
    have hL := hvy_light hh
    simp only [hh] at ch
    clear hh
    have ck := fun {W : World} (q : KSt w W) => c_check c hA hg hL q
    have cs := fun {W : World} (q : KSt w W) => c_size c hA hg hL q
    have ce := fun {W : World} (q : KSt w W) => c_encode c hA hg hL q
    have rk := fun {W : World} (q : KSt w W) => r_check c hA hg hL q
    have rs := fun {W : World} (q : KSt w W) => r_size c hA hg hL q
    have re := fun {W : World} (q : KSt w W) => r_encode c hA hg hL q
    obtain ⟨a, ha⟩ : ∃ a, cat l = a := ⟨_, rfl⟩
    obtain ⟨d, hd⟩ : ∃ d, cer l = d := ⟨_, rfl⟩
    obtain ⟨z, hz⟩ : ∃ d, csz l = d := ⟨_, rfl⟩
    obtain ⟨r, hr⟩ : ∃ d, cby l = d := ⟨_, rfl⟩
    simp only [ha, hd, hz, hr] at ck cs ce rk rs re
    have ca := fun {W : World} {A1 A2 : Option Addr} (c1 c2 : Nat) (q1 : Byt W W.heap.size A1 r) (q2 : Byt W W.heap.size A2 r) => alike_any c1 c2 q1 q2
    clear ha hd hz hr
    go_enter Tryd.func3, Tryd.ntmps3
    go_wp2_with (first
      | (go_at_call 11; refine (c_lives h).mono ?_; rintro e w1 ⟨rfl, h1⟩)
      | (go_at_call 12; refine (ch h1).mono ?_; rintro e w2 ⟨rfl, rfl⟩)
      | (go_at_call 13; refine (rk h1).mono ?_; rintro e w3 ⟨rfl, h3⟩)
      | (go_at_call 14; refine (ck h3).mono ?_; rintro e w4 ⟨rfl, h4⟩)
      | (go_at_call 15; refine (re h4).mono ?_; rintro e w5 ⟨A5, c5, rfl, h5⟩; have h5s := h5.st)
      | (go_at_call 16; refine (ce h5s).mono ?_; rintro e w6 ⟨A6, c6, rfl, h6⟩; have h6s := h6.st)
      | (go_at_call 17; refine (rs h6s).mono ?_; rintro e w7 ⟨rfl, h7, hb7⟩)
      | (go_at_call 18; refine (cs h7).mono ?_; rintro e w8 ⟨rfl, h8, hb8⟩)
      | (go_at_call 19; refine (ca c6 c5 ((h6.reads.then_ hb7).then_ hb8) (((h5.reads.then_ h6.old).then_ hb7).then_ hb8)).mono ?_; rintro e w9 ⟨rfl, rfl⟩))
    go_ret
    exact ⟨ret_bool (by simp), h8.below⟩

set_option maxRecDepth 100000 in
set_option maxHeartbeats 2000000 in
theorem takes_any {w : World} (h : KSt w w) {A : Option Addr} {b : List UInt8} (c : Nat) (hA : Byt w w.heap.size A b) (hc : b.length ≤ c) (hm : b.length ≤ 140737488355328) :
    Calls Tryd.prog 4 #[.slice A b.length c] w (Yes w) := by
  by_cases hbig : 33554432 < b.length
  · go_enter Tryd.func4, Tryd.ntmps4
    go_wp2_with (go_at_call 11; refine (c_lives h).mono ?_; rintro e w1 ⟨rfl, h1⟩)
    go_ret
    exact ⟨rfl, h1.below⟩
  have cd := fun {W : World} (q : KSt w W) => c_decode c (hA.then_ q.below) hc hm q
  have rd := fun {W : World} (q : KSt w W) => r_decode c (hA.then_ q.below) hc hm q
  have hq := dre_len b
  obtain ⟨d, hd⟩ : ∃ d, der b = d := ⟨_, rfl⟩
  obtain ⟨r, hr⟩ : ∃ d, dre b = d := ⟨_, rfl⟩
  simp only [hd, hr] at cd rd
  rw [hr] at hq
  have csm := fun {W : World} {A1 A2 : Option Addr} (c1 c2 : Nat) (q : KSt w W) (f1 : FRow W W.heap.size A1 r) (f2 : FRow W W.heap.size A2 r) => c_same c1 c2 f1 f2 hq hq q
  simp only [sm_self] at csm
  clear hd hr
  go_enter Tryd.func4, Tryd.ntmps4
  go_wp2_with (first
    | (go_at_call 11; refine (c_lives h).mono ?_; rintro e w1 ⟨rfl, h1⟩)
    | (go_at_call 20; refine (rd h1).mono ?_; rintro e w2 ⟨A2, c2, rfl, h2⟩; have h2s := h2.st)
    | (go_at_call 21; refine (cd h2s).mono ?_; rintro e w3 ⟨A3, c3, rfl, h3⟩; have h3s := h3.st)
    | (go_at_call 22; refine (csm c3 c2 h3s h3.reads (h2.reads.then_ h3.old)).mono ?_; rintro e w4 ⟨rfl, h4, _⟩))
  go_ret
  exact ⟨ret_bool (by simp), h4.below⟩
end Go.Proofs.YthekbefbhjllnaaDoor
