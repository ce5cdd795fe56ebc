/- The frame of a step of the reference, call by call. No walk of a function here. -/
import Derived.Test.YtbngelinfpaefaaGreatDoorParRVal
import Derived.Test.YtbngelinfpaefaaGreatDoorParGh
namespace Go.Proofs.YtbngelinfpaefaaGreatDoor
open Go.RowKit

/-- the frame of a step: the reader, the answer's block, the step's block, its default's nodes -/
structure SZ (w0 w : World) (g : Nat) (A : Option Addr) (c : Nat) (T : List Tk) (q : PS) (b2 b4 : Nat) (x : LSt) : Prop where
  rs : RZ w g A c T q
  r2 : CB w b2 51 (stC st0 (.slice none 0 0))
  s4 : CB w b4 51 x.C
  gn : Gn g w0 w
  own : StLev.H w w0.heap.size x
  g0 : g < w0.heap.size
  b20 : w0.heap.size ≤ b2
  b40 : w0.heap.size ≤ b4
  ne : b2 ≠ b4
  far : ∀ b ∈ StLev.bl x, b ≠ b4 ∧ b ≠ b2
section
variable {w0 w w' : World} {g : Nat} {A : Option Addr} {c : Nat} {T : List Tk} {q q' : PS} {b2 b4 : Nat} {x y : LSt}
theorem SZ.call (h : SZ w0 w g A c T q b2 b4 x) (hg : Gn g w w') (hr : RZ w' g A c T q') : SZ w0 w' g A c T q' b2 b4 x := by
  have := h.g0
  have := h.b20
  have := h.b40
  refine ⟨hr, h.r2.keep (hg.other h.r2.len (by omega)), h.s4.keep (hg.other h.s4.len (by omega)), h.gn.trans hg, stLev.keep h.own fun b hb => ?_, h.g0, h.b20, h.b40, h.ne, h.far⟩
  have := stLev.bd h.own b hb
  exact hg.other this.2 (by omega)
/-- a field of the step written -/
theorem SZ.set (h : SZ w0 w g A c T q b2 b4 x) (j : Nat) (v : Value) (hC : x.C.setIfInBounds j v = y.C) (ho : StLev.H w w0.heap.size y) (hf : ∀ b ∈ StLev.bl y, b ≠ b4 ∧ b ≠ b2) : SZ w0 (w.setCell ⟨b4, j, none⟩ v) g A c T q b2 b4 y := by
  have := h.g0
  have := h.b20
  have := h.b40
  have hg : Gn b4 w (w.setCell ⟨b4, j, none⟩ v) := (Gn.refl b4 w).set j v
  have hgr := h.rs.len
  have hl4 := h.s4.len
  refine ⟨h.rs.keep (hg.below (by omega) (by omega)) (hg.other hgr (by omega)), h.r2.keep (hg.other h.r2.len h.ne), ?_, ⟨hg.os.trans h.gn.os, hg.tape.trans h.gn.tape, hg.output.trans h.gn.output, Nat.le_trans h.gn.size hg.size, fun k hk hne => (hg.other (Nat.lt_of_lt_of_le hk h.gn.size) (by omega)).trans (h.gn.block k hk hne)⟩, stLev.keep ho fun b hb => ?_, h.g0, h.b20, h.b40, h.ne, hf⟩
  · have := heap_setCell_same w b4 j _ _ v h.s4
    rw [hC] at this
    exact this
  · have := stLev.bd ho b hb
    exact hg.other this.2 (hf b hb).1
theorem SZ.at_ (h : SZ w0 w g A c T q b2 b4 x) (j : Nat) : w.cell? ⟨b4, j, none⟩ = x.C[j]? ∧ w.frozen? ⟨b4, j, none⟩ = false := ⟨h.s4.at_ j, h.s4.frozen j⟩

theorem sz_mark (h : SZ w0 w g A c T q b2 b4 x) (m : UInt8) (hq : q.mark T m = q') : Calls Tryz.prog 49 #[.pointer (some ⟨g, 0, none⟩), .string ⟨#[m]⟩] w fun e w' => e = .returned (.tuple #[]) ∧ Hid (SZ w0 w' g A c T q' b2 b4 x) := by
  rw [← hq]
  refine (zmark_any h.rs m).mono ?_
  rintro e w' ⟨rfl, hr, hg⟩
  exact ⟨rfl, h.call hg hr⟩
theorem sz_word (h : SZ w0 w g A c T q b2 b4 x) (s : List UInt8) (bs : ByteArray) (hs : str s = bs) (hq : q.word T s = q') : Calls Tryz.prog 47 #[.pointer (some ⟨g, 0, none⟩), .string bs] w fun e w' => e = .returned (.tuple #[]) ∧ Hid (SZ w0 w' g A c T q' b2 b4 x) := by
  subst hs
  rw [← hq]
  refine (zword_any h.rs s).mono ?_
  rintro e w' ⟨rfl, hr, hg⟩
  exact ⟨rfl, h.call hg hr⟩
theorem sz_is (h : SZ w0 w g A c T q b2 b4 x) (m : UInt8) {b : Bool} (hb : q.is T 4 [m] = b) : Calls Tryz.prog 24 #[.pointer (some ⟨g, 0, none⟩), .int .i64 4, .string ⟨#[m]⟩] w fun e w' => e = .returned (.bool b) ∧ Hid (SZ w0 w' g A c T q b2 b4 x) := by
  refine Calls.mono (zis_any h.rs 4 [m]) ?_
  rintro e w' ⟨rfl, hb'⟩
  rw [hb]
  exact ⟨rfl, h.call (Gn.of hb') (h.rs.below hb')⟩
theorem sz_isw (h : SZ w0 w g A c T q b2 b4 x) (s : List UInt8) {b : Bool} (hb : q.is T 1 s = b) : Calls Tryz.prog 24 #[.pointer (some ⟨g, 0, none⟩), .int .i64 1, .string (str s)] w fun e w' => e = .returned (.bool b) ∧ Below w.heap.size w w' ∧ Hid (SZ w0 w' g A c T q b2 b4 x) := by
  refine Calls.mono (zis_any h.rs 1 s) ?_
  rintro e w' ⟨rfl, hb'⟩
  rw [hb]
  exact ⟨rfl, hb', h.call (Gn.of hb') (h.rs.below hb')⟩
/-- the next token taken -/
theorem SZ.next (h : SZ w0 w g A c T q b2 b4 x) (hk : (q.tok T).k ≠ 0) (hq : q.next = q') : SZ w0 (w.setCell ⟨g, 1, none⟩ (.int .i64 ((q.i : Int) + 1))) g A c T q' b2 b4 x := by
  subst hq
  obtain ⟨h1, h2⟩ := h.rs.next hk
  exact h.call h2 h1
/-- a name, and where it is put -/
theorem sz_name (h : SZ w0 w g A c T q b2 b4 x) {nm : List UInt8} (hq : q.name T = (q', nm)) (j : Nat) (y : LSt) (u : Value) (hu : x.C[j]? = some u) (hC : x.C.setIfInBounds j (.string (str nm)) = y.C) (hA : y.A = x.A) (hc : y.c = x.c) (hv : y.s.v = x.s.v) :
    Calls Tryz.prog 48 #[.pointer (some ⟨g, 0, none⟩)] w fun e w' => e = .returned (.string (str nm)) ∧ w'.cell? ⟨b4, j, none⟩ = some u ∧ w'.frozen? ⟨b4, j, none⟩ = false ∧ Hid (SZ w0 (w'.setCell ⟨b4, j, none⟩ (.string (str nm))) g A c T q' b2 b4 y) := by
  have cc := zname_any h.rs
  rw [hq] at cc
  refine cc.mono ?_
  rintro e w' ⟨rfl, hr, hg⟩
  have h2 := h.call hg hr
  have e1 : StLev.bl y = StLev.bl x := by show (obk y.A).toList = (obk x.A).toList; rw [hA]
  exact ⟨rfl, (h2.at_ j).1.trans hu, (h2.at_ j).2, h2.set j _ hC (by show OwnN _ _ y.A y.c y.s.v; rw [hA, hc, hv]; exact h2.own) (by rw [e1]; exact h2.far)⟩
theorem sz_text (h : SZ w0 w g A c T q b2 b4 x) {nm : List UInt8} (hq : q.text T = (q', nm)) (j : Nat) (y : LSt) (u : Value) (hu : x.C[j]? = some u) (hC : x.C.setIfInBounds j (.string (str nm)) = y.C) (hA : y.A = x.A) (hc : y.c = x.c) (hv : y.s.v = x.s.v) :
    Calls Tryz.prog 121 #[.pointer (some ⟨g, 0, none⟩)] w fun e w' => e = .returned (.string (str nm)) ∧ w'.cell? ⟨b4, j, none⟩ = some u ∧ w'.frozen? ⟨b4, j, none⟩ = false ∧ Hid (SZ w0 (w'.setCell ⟨b4, j, none⟩ (.string (str nm))) g A c T q' b2 b4 y) := by
  have cc := ztext_any h.rs
  rw [hq] at cc
  refine cc.mono ?_
  rintro e w' ⟨rfl, hr, hg⟩
  have h2 := h.call hg hr
  have e1 : StLev.bl y = StLev.bl x := by show (obk y.A).toList = (obk x.A).toList; rw [hA]
  exact ⟨rfl, (h2.at_ j).1.trans hu, (h2.at_ j).2, h2.set j _ hC (by show OwnN _ _ y.A y.c y.s.v; rw [hA, hc, hv]; exact h2.own) (by rw [e1]; exact h2.far)⟩
/-- a default, and where it is put -/
theorem sz_value (h : SZ w0 w g A c T q b2 b4 x) (hx : x.s.v = [] ∧ x.A = none ∧ x.c = 0) (hq : q.value T = q') :
    Calls Tryz.prog 29 #[.pointer (some ⟨g, 0, none⟩)] w fun e w' => ∃ An cn l, e = .returned (.slice An (List.length (α := Nd) l) cn) ∧ w'.cell? ⟨b4, 6, none⟩ = some (.slice none 0 0) ∧ w'.frozen? ⟨b4, 6, none⟩ = false ∧ Hid (SZ w0 (w'.setCell ⟨b4, 6, none⟩ (.slice An l.length cn)) g A c T q' b2 b4 ⟨{ x.s with v := l }, An, cn⟩ ∧ l = q'.nds) := by
  subst hq
  refine (rvalue_any h.rs).mono ?_
  rintro e w' ⟨gn, cn, rfl, hr, hg, ho, _⟩
  have h2 := h.call hg hr
  have hl4 := h.s4.len
  have e6 : x.C[6]? = some (.slice none 0 0) := by
    show (stC x.s (.slice x.A x.s.v.length x.c))[6]? = _
    rw [hx.1, hx.2.1, hx.2.2]
    rfl
  refine ⟨some ⟨gn, 0, none⟩, cn, _, rfl, (h2.at_ 6).1.trans e6, (h2.at_ 6).2, h2.set 6 _ rfl (ownsRow_low ho h.gn.size) (fun b hb => ?_), rfl⟩
  have hb2 : obk (some ⟨gn, 0, none⟩) = some b := by
    have : b ∈ (obk (some ⟨gn, 0, none⟩)).toList := hb
    simpa using this
  have := World.ownsRow.lt ho b (by rw [obk_own]; exact hb2)
  have := h.r2.len
  omega
/-- the answer stored -/
theorem SZ.close (h : SZ w0 w g A c T q b2 b4 x) (t : Turned b2 w w') : RZ w' g A c T q ∧ Gn g w0 w' ∧ StLev.H w' w0.heap.size x := by
  have := h.g0
  have := h.b20
  have hg : Gn b2 w w' := t.grown
  have hgr := h.rs.len
  have hl2 := h.r2.len
  refine ⟨h.rs.keep (hg.below (by omega) (by omega)) (hg.other hgr (by omega)), ⟨hg.os.trans h.gn.os, hg.tape.trans h.gn.tape, hg.output.trans h.gn.output, Nat.le_trans h.gn.size hg.size, fun k hk hne => (hg.other (Nat.lt_of_lt_of_le hk h.gn.size) (by omega)).trans (h.gn.block k hk hne)⟩, stLev.keep h.own fun b hb => ?_⟩
  have := stLev.bd h.own b hb
  exact hg.other this.2 (h.far b hb).2
end
end Go.Proofs.YtbngelinfpaefaaGreatDoor
