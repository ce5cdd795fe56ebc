/- What is asked of the code's three functions, and the law's looks at it. The code's own walks give a LexSide; here it is a hypothesis. -/
import Derived.Test.YtggonhciakfabaaDoorLexRefX
import Derived.Test.YtggonhciakfabaaDoorLexLawS
import Derived.Test.YtggonhciakfabaaDoorLexBld
namespace Go.Proofs.YtggonhciakfabaaDoor
open Go.RowKit

/-- the code answers as the document says -/
structure LexSide : Prop where
  lex : ∀ (w : World) (s : ByteArray), EV w → Calls Tryd.prog 12 #[.string s] w (LexAt (lexS s) w)
  name : ∀ (w : World) (s : ByteArray), s.size ≤ 140737488351232 → Calls Tryd.prog 14 #[.string s] w fun e w' => e = .returned (.bool (nameL (ls s))) ∧ Below w.heap.size w w'
  quote : ∀ (w : World) (s : ByteArray), s.size ≤ 4194304 → Calls Tryd.prog 16 #[.string s] w fun e w' => e = .returned (.string (str (quoteL (ls s)))) ∧ Below w.heap.size w w'

theorem trow_new (w : World) (cs : Array Value) (l : List Tk) (T : TypeId) (h : cs.toList = flatT l) : TRow (w.alloc (.cells cs T)) (w.alloc (.cells cs T)).heap.size (some ⟨w.heap.size, 0, none⟩) l := by
  refine .inr ⟨w.heap.size, 0, rfl, by simp, fun i x hx => ?_⟩
  have q : ∀ j, j < 5 → (w.alloc (.cells cs T)).cell? ⟨w.heap.size, 0 + i * 5 + j, none⟩ = (tkC x)[j]? := fun j hj => by
    rw [cell_of_row _ w.heap.size _ cs T (0, 0) (heap_alloc_new w _), Nat.zero_add, ← Array.getElem?_toList, h]
    exact flatT_at l i x hx j hj
  exact ⟨q 0 (by decide), q 1 (by decide), q 2 (by decide), q 3 (by decide), q 4 (by decide)⟩

theorem lexS_len {s : ByteArray} {ts : List Tk} (h : lexS s = .ok ts) : ts.length ≤ 1048577 ∧ s.size ≤ 1048576 ∧ lexL (ls s) 0 = .ok ts := by
  unfold lexS at h
  split at h
  · cases h
  · rename_i hs
    have := lex_len _ _ _ (Nat.le_refl _) h
    rw [ls_size] at this
    exact ⟨by omega, by omega, h⟩

/-- what a law answers -/
def YesX (w : World) (e : Ending) (w' : World) : Prop := e = .returned (.bool true) ∧ Below w.heap.size w w'

def LR.row : LR → List Tk
  | .ok l => l
  | .bad _ _ => []
def LR.plc : LR → Nat
  | .ok _ => 0
  | .bad p _ => p
def LR.err : LR → Nat
  | .ok _ => 0
  | .bad _ x => x
/-- what is answered of a text, as a row, a place, an error -/
theorem LexAt.row {R : LR} {w w' : World} {e : Ending} (h : LexAt R w e w') : Below w.heap.size w w' ∧ ∃ A c, e = .returned (.tuple #[.slice A R.row.length c, .int .i64 (R.plc : Nat), .int .i64 (R.err : Nat)]) ∧ TRow w' w'.heap.size A R.row := by
  refine ⟨h.1, ?_⟩
  cases R with
  | ok l => exact h.2
  | bad p x => exact ⟨none, 0, h.2, TRow.nil⟩
theorem lexS_row (s : ByteArray) : (lexS s).row.length ≤ 1048577 := by
  cases h : lexS s with
  | ok l => exact (lexS_len h).1
  | bad p x => exact Nat.zero_le _
def liveT : List Tk := [⟨1, [110], 0, 0, 1⟩, ⟨4, [61], 0, 2, 3⟩, ⟨4, [45], 0, 4, 5⟩, ⟨2, [], 1, 5, 6⟩, ⟨4, [59], 0, 6, 7⟩, ⟨0, [], 0, 11, 11⟩]
theorem live_lex : lexS ⟨#[110, 32, 61, 32, 45, 49, 59, 32, 35, 32, 120]⟩ = .ok liveT := by decide +kernel
theorem live_n1 : nameL (ls ⟨#[97, 95, 49]⟩) = true := by decide +kernel
theorem live_n2 : nameL (ls ⟨#[49, 97]⟩) = false := by decide +kernel
theorem live_q : str (quoteL (ls ⟨#[97, 10]⟩)) = ⟨#[34, 97, 92, 110, 34]⟩ := by decide +kernel

set_option maxRecDepth 100000 in
set_option maxHeartbeats 2000000 in
theorem llives_any (C : LexSide) (w : World) (hEV : EV w) : Calls Tryd.prog 10 #[] w fun e w' => e = .returned (.bool true) ∧ Below w.heap.size w w' := by
  have cl : Calls Tryd.prog 12 #[.string ⟨#[110, 32, 61, 32, 45, 49, 59, 32, 35, 32, 120]⟩] w fun e w' => Below w.heap.size w w' ∧ ∃ A c, e = .returned (.tuple #[.slice A 6 c, .int .i64 0, .int .i64 0]) ∧ TRow w' w'.heap.size A liveT := by
    refine (C.lex w _ hEV).mono fun e w' h => ?_
    unfold LexAt at h
    rw [live_lex] at h
    exact h
  have cn1 : ∀ W : World, Calls Tryd.prog 14 #[.string ⟨#[97, 95, 49]⟩] W fun e w' => e = .returned (.bool true) ∧ Below W.heap.size W w' := fun W => by
    have := C.name W ⟨#[97, 95, 49]⟩ (by decide)
    rwa [live_n1] at this
  have cn2 : ∀ W : World, Calls Tryd.prog 14 #[.string ⟨#[49, 97]⟩] W fun e w' => e = .returned (.bool false) ∧ Below W.heap.size W w' := fun W => by
    have := C.name W ⟨#[49, 97]⟩ (by decide)
    rwa [live_n2] at this
  have cq : ∀ W : World, Calls Tryd.prog 16 #[.string ⟨#[97, 10]⟩] W fun e w' => e = .returned (.string ⟨#[34, 97, 92, 110, 34]⟩) ∧ Below W.heap.size W w' := fun W => by
    have := C.quote W ⟨#[97, 10]⟩ (by decide)
    rwa [live_q] at this
  clear C hEV
  go_enter Tryd.func10, Tryd.ntmps10
  go_wp2_with (first
    | (go_at_call 12; refine cl.mono ?_; rintro e w2 ⟨hb2, A, c, rfl, ht⟩)
    | (go_at_call 13; refine (lsame_any _ _ _ _ _ _ _ liveT (ht.then_ ((Below.refl _ _).alloc (Nat.le_refl _) _)) (trow_new w2 _ liveT _ rfl) (by decide)).mono ?_; rintro e w3 ⟨rfl, hb3⟩)
    | (go_at_call 14; (with_reducible refine (cn1 _).mono ?_); rintro e w4 ⟨rfl, hb4⟩)
    | (go_at_call 14; (with_reducible refine (cn2 _).mono ?_); rintro e w5 ⟨rfl, hb5⟩)
    | (go_at_call 16; refine (cq _).mono ?_; rintro e w6 ⟨rfl, hb6⟩))
  go_ret
  have hb3' : Below w2.heap.size w2 w3 := ((Below.refl _ _).alloc (Nat.le_refl _) _).trans (hb3.mono (by simp))
  exact ⟨rfl, Below.both (Below.both (Below.both (Below.both hb2 hb3') hb4) hb5) hb6⟩
end Go.Proofs.YtggonhciakfabaaDoor
