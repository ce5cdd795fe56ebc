/- The walks of LexTakes and of LexNames. -/
import Derived.Test.YtggonhciakfabaaDoorLexSide
namespace Go.Proofs.YtggonhciakfabaaDoor
open Go.RowKit

set_option maxRecDepth 100000 in
set_option maxHeartbeats 2000000 in
theorem takes_any (C : LexSide) (w : World) (hEV : EV w) (s : ByteArray) : Calls Tryd.prog 3 #[.string s] w (YesX w) := by
  have hl := lexS_row s
  have cr := fun W => (rlex_any W s).mono fun e w' h => LexAt.row h
  have cl := fun W hW => (C.lex W s hW).mono fun e w' h => LexAt.row h
  have cv := fun W h => llives_any C W h
  obtain ⟨l, hl0⟩ : ∃ l, (lexS s).row = l := ⟨_, rfl⟩
  obtain ⟨p, hp0⟩ : ∃ p, (lexS s).plc = p := ⟨_, rfl⟩
  obtain ⟨x, hx0⟩ : ∃ x, (lexS s).err = x := ⟨_, rfl⟩
  simp only [hl0, hp0, hx0] at cr cl hl
  clear C hl0 hp0 hx0
  go_enter Tryd.func3, Tryd.ntmps3
  go_wp2_with (first
    | (go_at_call 10; refine (cv _ hEV).mono ?_; rintro e w1 ⟨rfl, hb1⟩)
    | (go_at_call 11; refine (cr _).mono ?_; rintro e w2 ⟨hb2, A, c, rfl, ht⟩)
    | (go_at_call 12; refine (cl _ ((hEV.below hb1).below hb2)).mono ?_; rintro e w3 ⟨hb3, A', c', rfl, ht'⟩)
    | (go_at_call 13; refine (lsame_any _ _ _ _ _ _ _ l ht' (ht.then_ hb3) (by omega)).mono ?_; rintro e w4 ⟨rfl, hb4⟩))
  go_ret
  exact ⟨rfl, Below.both (Below.both (Below.both hb1 hb2) hb3) hb4⟩
end Go.Proofs.YtggonhciakfabaaDoor
