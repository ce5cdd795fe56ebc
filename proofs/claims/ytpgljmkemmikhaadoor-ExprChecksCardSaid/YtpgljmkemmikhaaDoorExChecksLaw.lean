/- The walk of ExprChecks. -/
import Derived.Test.YtpgljmkemmikhaaDoorExGs
namespace Go.Proofs.YtpgljmkemmikhaaDoor
open Go.RowKit

set_option maxRecDepth 100000 in
set_option maxHeartbeats 4000000 in
theorem checks_any {w : World} {A : Option Addr} {c : Nat} {N : List Rn} (hK : KSt w w) (hR : RN w w.heap.size A N) (hF : Few N) :
    Calls Tryd.prog 3 #[.slice A N.length c] w fun e w' => e = .returned (.bool true) ∧ Below w.heap.size w w' := by
  have CL := Lib.hid (lives_any hK)
  have C1 := Lib.hid (fun W (hb : Below w.heap.size w W) => rcheck_any (c := c) ((hR.below hb).more hb.size) hF)
  have C2 := Lib.hid (fun W (hb : Below w.heap.size w W) => check_any (c := c) ((hR.below hb).more hb.size) hF)
  obtain ⟨n, hn⟩ : ∃ n, N.length = n := ⟨_, rfl⟩
  obtain ⟨a, ha⟩ : ∃ a, (chkP N).1 = a := ⟨_, rfl⟩
  obtain ⟨e, he⟩ : ∃ a, (chkP N).2 = a := ⟨_, rfl⟩
  rw [hn, ha, he] at C1 C2
  rw [hn]
  clear hK hR hF hn ha he
  go_enter Tryd.func3, Tryd.ntmps3
  go_wp2_with fail
  refine CL.out.mono ?_
  rintro e w1 ⟨rfl, H1⟩
  go_wp2_with fail
  refine (C1.out _ H1).mono ?_
  rintro e w2 ⟨rfl, H2⟩
  have H2 := H1.trans (H2.mono H1.size)
  go_wp2_with fail
  refine (C2.out _ H2).mono ?_
  rintro e w3 ⟨rfl, H3⟩
  have H3 := Lib.hid (H2.trans (H3.mono H2.size))
  clear H1 H2 CL C1 C2
  go_wp2
  go_ret
  exact ⟨rfl, H3.out⟩
end Go.Proofs.YtpgljmkemmikhaaDoor
