/- The walk of the code: Check. -/
import Derived.Test.YtmbiompmhaiehaaDoorExRoot
import Derived.Test.YtmbiompmhaiehaaDoorExGb
namespace Go.Proofs.YtmbiompmhaiehaaDoor
open Go.RowKit

set_option maxRecDepth 100000 in
set_option maxHeartbeats 4000000 in
theorem check_any {w : World} {A : Option Addr} {c : Nat} {N : List Rn} (hR : RN w w.heap.size A N) (hF : Few N) :
    Calls Tryd.prog 11 #[.slice A N.length c] w fun e w' => e = .returned (.tuple #[.int .i64 ((chkP N).1 : Nat), .int .i64 ((chkP N).2 : Nat)]) ∧ Below w.heap.size w w' := by
  obtain ⟨n, hn⟩ : ∃ n, N.length = n := ⟨_, rfl⟩
  obtain ⟨av, hav⟩ : ∃ a, (chkP N).1 = a := ⟨_, rfl⟩
  obtain ⟨ev, hev⟩ : ∃ a, (chkP N).2 = a := ⟨_, rfl⟩
  have cr := rootOf_any (c := c) hR hF
  rw [hn] at cr
  have CR : Hid (Calls Tryd.prog 15 #[.slice A n c] w fun e w4 => ∃ (pa : Option Addr) (rv : Int), e = .returned (.tuple #[.agg #[.pointer pa, .int .i64 rv], .int .i64 (av : Nat), .int .i64 (ev : Nat)]) ∧ Hid (Below w.heap.size w w4)) := by
    refine cr.mono ?_
    rintro e w4 ⟨hb, pv, rv, he, _⟩
    exact ⟨pv, rv, by rw [← hav, ← hev]; exact he, hb⟩
  rw [hn, hav, hev]
  clear cr hR hF hn hav hev
  go_enter Tryd.func11, Tryd.ntmps11
  go_wp2_with (go_at_call 15; refine CR.out.mono ?_; rintro e w4 ⟨pv, rv, rfl, H4⟩)
  exact bodyPost_ret (v := .tuple #[.int .i64 (av : Nat), .int .i64 (ev : Nat)]) (results_2 rfl _ _ _ _ rfl rfl) rfl ⟨rfl, H4.out.trans (((Below.refl _ w4).alloc (Nat.le_refl _) _).mono H4.out.size)⟩
end Go.Proofs.YtmbiompmhaiehaaDoor
