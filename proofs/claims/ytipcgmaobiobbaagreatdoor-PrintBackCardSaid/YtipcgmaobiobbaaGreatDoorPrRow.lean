/- An expression's block and a row of subtrees where but the writer turns; whether nodes are an expression. -/
import Derived.Test.YtipcgmaobiobbaaGreatDoorPrText
import Derived.Test.YtipcgmaobiobbaaGreatDoorPoGb
namespace Go.Proofs.YtipcgmaobiobbaaGreatDoor
open Go.RowKit

theorem Xb.pr {w w' : World} {x f d : Nat} {A : Option Addr} {c : Nat} {N : List Rn} {F D : List Nat} {g B : Nat} (h : Xb w x f d A c N F D) (hp : Pr g B w w') (h1 : x ≠ g) (h2 : f ≠ g) (h3 : d ≠ g) : Xb w' x f d A c N F D :=
  ⟨h.cb.pr hp h1 (by decide), h.fb.pr hp h2 (by decide), h.db.pr hp h3 (by decide), h.fl, h.dl, h.ne⟩
theorem KR.pr {w w' : World} {gk x : Nat} {l : List Nat} {g B : Nat} (h : KR w gk x l) (hp : Pr g B w w') (hg : gk ≠ g) : KR w' gk x l := by
  obtain ⟨cur, h, hc⟩ := h
  exact ⟨cur, h.pr hp hg (by decide), hc⟩

set_option maxRecDepth 100000 in
set_option maxHeartbeats 4000000 in
theorem pisexpr_any {w : World} {A : Option Addr} {c : Nat} {N : List Rn} (h : RN w w.heap.size A N) (hN : N.length ≤ 2932031007402) (hn : ∀ x ∈ N, x.n ≤ 9223372036854775807) :
    Calls Tryz.prog 21 #[.slice A N.length c] w fun e w' => e = .returned (.bool (exprP N).isSome) ∧ Below w.heap.size w w' := by
  obtain ⟨bb, hbb⟩ : ∃ bb, (exprP N).isSome = bb := ⟨_, rfl⟩
  rw [hbb]
  have cw' : Calls Tryz.prog 37 #[.slice A N.length c] w fun e w' => ∃ (m : Nat) (As : Option Addr) (cs : Nat), e = .returned (.tuple #[.slice As m cs, .bool bb]) ∧ Below w.heap.size w w' := (psubs_any (c := c) h hN hn).mono fun e w' h => by
    obtain ⟨m, As, cs, he, hh⟩ := h
    exact ⟨m, As, cs, by rw [← hbb]; exact he, hh.1⟩
  clear h hn hbb
  go_enter Tryz.func21, Tryz.ntmps21
  go_wp2_with (go_at_call 37; refine cw'.mono ?_; rintro e w2 ⟨m, As, cs, rfl, hb2⟩)
  go_ret
  exact ⟨rfl, hb2⟩
end Go.Proofs.YtipcgmaobiobbaaGreatDoor
