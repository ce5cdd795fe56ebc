/- The walks of what the statements share: awake, place, same. -/
import Derived.Test.YtgdeeojamnbakaaRollEnter
namespace Go.Proofs.Ytgdeeojamnbakaa
open Go.RowKit

/-- Enter took it. -/
def Took (b : Nat) (S : List Nat) (es : List Ent) (cl : Nat → Bool) (f : Int) (nm : ByteArray) (sz : Int) (w : World) (e : Ending) (w' : World) : Prop :=
  ∃ S', e = .returned (.tuple #[.int .i64 (cnt f es + 1), .int .i64 0]) ∧ Book w' b S' (es ++ [⟨f, cnt f es + 1, nm, sz⟩]) cl ∧ Only S w w' ∧ (∀ k ∈ S', k ∈ S ∨ w.heap.size ≤ k)

/-- Enter refused it. -/
def Refused (b : Nat) (S : List Nat) (es : List Ent) (cl : Nat → Bool) (r : Int) (w : World) (e : Ending) (w' : World) : Prop :=
  ∃ S', e = .returned (.tuple #[.int .i64 0, .int .i64 r]) ∧ Book w' b S' es cl ∧ Only S w w' ∧ (∀ k ∈ S', k ∈ S ∨ w.heap.size ≤ k)

theorem enter_took {w : World} {b : Nat} {S : List Nat} {es : List Ent} {cl : Nat → Bool} (h : Book w b S es cl) (f : Int) (nm : ByteArray) (sz : Int) (hs : nm.size ≤ maxLen) (hw : why es cl f nm sz = 0) :
    Calls Try.prog 22 #[.pointer (some ⟨b, 0, none⟩), .int .i64 f, .string nm, .int .i64 sz] w (Took b S es cl f nm sz w) := by
  refine (enter_any h f nm sz hs).mono ?_
  rintro e w' ⟨S', es', n, rfl, hk, ho, hm, ⟨_, rfl, rfl⟩ | ⟨h0, _⟩⟩
  · exact ⟨S', by rw [hw], hk, ho, hm⟩
  · exact absurd hw h0

theorem enter_refused {w : World} {b : Nat} {S : List Nat} {es : List Ent} {cl : Nat → Bool} (h : Book w b S es cl) (f : Int) (nm : ByteArray) (sz : Int) (hs : nm.size ≤ maxLen) (r : Int) (hw : why es cl f nm sz = r) (h0 : r ≠ 0) :
    Calls Try.prog 22 #[.pointer (some ⟨b, 0, none⟩), .int .i64 f, .string nm, .int .i64 sz] w (Refused b S es cl r w) := by
  refine (enter_any h f nm sz hs).mono ?_
  rintro e w' ⟨S', es', n, rfl, hk, ho, hm, ⟨h1, _⟩ | ⟨_, rfl, rfl⟩⟩
  · exact absurd (hw ▸ h1) h0
  · exact ⟨S', by rw [hw], hk, ho, hm⟩

/-- As enter_took, the answer and the entries named. -/
def TookN (b : Nat) (S : List Nat) (es' : List Ent) (cl : Nat → Bool) (n : Int) (w : World) (e : Ending) (w' : World) : Prop :=
  ∃ S', e = .returned (.tuple #[.int .i64 n, .int .i64 0]) ∧ Book w' b S' es' cl ∧ Only S w w' ∧ (∀ k ∈ S', k ∈ S ∨ w.heap.size ≤ k)

theorem enter_tookN {w : World} {b : Nat} {S : List Nat} {es : List Ent} {cl : Nat → Bool} (h : Book w b S es cl) (f : Int) (nm : ByteArray) (sz : Int) (hs : nm.size ≤ maxLen) (hw : why es cl f nm sz = 0)
    (n : Int) (hn : (cnt f es : Int) + 1 = n) (es' : List Ent) (he : es ++ [⟨f, n, nm, sz⟩] = es') :
    Calls Try.prog 22 #[.pointer (some ⟨b, 0, none⟩), .int .i64 f, .string nm, .int .i64 sz] w (TookN b S es' cl n w) := by
  subst hn
  subst he
  exact enter_took h f nm sz hs hw

def nmUI : ByteArray := ⟨#[117, 105, 110, 116, 45, 105, 110, 116]⟩
def nmA : ByteArray := ⟨#[97]⟩
def esA : List Ent := [⟨2, 1, nmUI, 10⟩]
def esB : List Ent := [⟨2, 1, nmUI, 10⟩, ⟨2, 2, nmA, 0⟩]
def allOpen : Nat → Bool := fun _ => false

theorem awake_tail {w : World} {b : Nat} {S : List Nat} (h : Book w b S esB allOpen) :
    Calls Try.prog 21 #[.pointer (some ⟨b, 0, none⟩), .int .i64 2, .string ⟨#[97]⟩] w (fun e w' => e = .returned (.int .i64 2) ∧ Below w.heap.size w w') :=
  find_any h 2 nmA

theorem awake_open {w : World} {b : Nat} {S : List Nat} (h : Book w b S esB allOpen) :
    Calls Try.prog 16 #[.pointer (some ⟨b, 0, none⟩), .int .i64 2] w (fun e w' => e = .returned (.bool true) ∧ w = w') :=
  open_any h 2

set_option maxHeartbeats 1000000 in
theorem awake_any (w : World) : Calls Try.prog 8 #[] w fun e w' => e = .returned (.bool true) ∧ Below w.heap.size w w' := by
  go_enter Try.func8, Try.ntmps8
  go_wp2_with (go_at_call 9; refine (new_any _).mono ?_; rintro e w1 ⟨rfl, hk1, hB1⟩; have HK1 := Lib.hid hk1; clear hk1)
  go_wp2_with fail
  refine (enter_tookN (cl := allOpen) HK1.out 2 nmUI 10 (by decide) (by decide) 1 rfl esA rfl).mono ?_
  rintro e w2 ⟨S2, rfl, hk2, ho2, hm2⟩
  have HK2 := Lib.hid hk2
  clear hk2
  go_wp2_with fail
  refine (enter_tookN HK2.out 2 nmA 0 (by decide) (by decide) 2 rfl esB rfl).mono ?_
  rintro e w3 ⟨S3, rfl, hk3, ho3, hm3⟩
  have HK3 := Lib.hid hk3
  clear hk3
  go_wp2_with fail
  refine (enter_refused HK3.out 2 nmA 7 (by decide) 11 (by decide) (by decide)).mono ?_
  rintro e w4 ⟨S4, rfl, hk4, ho4, hm4⟩
  have HK4 := Lib.hid hk4
  clear hk4
  go_wp2_with (first | (go_at_call 21; refine (awake_tail HK4.out).mono ?_; rintro e w5 ⟨rfl, hB5⟩) | (go_at_call 16; refine (awake_open (HK4.out.below hB5)).mono ?_; rintro e w6 ⟨rfl, rfl⟩))
  go_ret
  refine ⟨rfl, ?_⟩
  have t1 : Only [w.heap.size] w w2 := (Only.of_below _ hB1).same ho2
  have t2 : Only [] w w2 := ⟨t1.os, t1.tape, t1.output, t1.size, fun k hk _ => t1.block k hk (by simp; omega)⟩
  have t3 : Only [] w w3 := t2.trans ho3 (fun _ _ m => m) (fun k hk m => by
    rcases hm2 k m with h | h
    · simp at h; omega
    · have := hB1.size; omega)
  have t4 : Only [] w w4 := t3.trans ho4 (fun _ _ m => m) (fun k hk m => by
    rcases hm3 k m with h | h
    · rcases hm2 k h with h | h
      · simp at h; omega
      · have := hB1.size; omega
    · have := t2.size; omega)
  exact (t4.step hB5).below

end Go.Proofs.Ytgdeeojamnbakaa
