/- VarintOne, all ways. -/
import Derived.Test.YtbnlglcjamifpaaVarOne
namespace Go.Proofs.Ytbnlglcjamifpaa
open Go.RowKit

set_option maxRecDepth 100000 in
set_option maxHeartbeats 1000000 in
theorem one_any {w : World} {A B : Option Addr} {b m : List UInt8} (c d : Nat) (hA : Byt w w.heap.size A b) (hB : Byt w w.heap.size B m) (hc : b.length ≤ c) (h1 : b.length ≤ 140737488351232) (h2 : m.length ≤ 140737488351232) :
    Calls Try.prog 6 #[.slice A b.length c, .slice B m.length d] w (Yes w) := by
  by_cases hb : 1048576 < b.length
  · go_enter Try.func6, Try.ntmps6
    go_wp2_with fail
    refine (lives_any _).mono ?_
    rintro e w1 ⟨rfl, hB1⟩
    go_wp2_with fail
    go_ret
    exact ⟨rfl, hB1⟩
  · by_cases hm : 1048576 < m.length
    · go_enter Try.func6, Try.ntmps6
      go_wp2_with fail
      refine (lives_any _).mono ?_
      rintro e w1 ⟨rfl, hB1⟩
      go_wp2_with fail
      go_ret
      exact ⟨rfl, hB1⟩
    · rcases stops_kind b 0 with h | h | h
      · exact one_ok c d hA hB hc hb hm (stops 0 b).1 (Prod.ext rfl h)
      · exact one_bad c d hA hB hb hm h
      · exact one_short c d hA hB hc hb hm h
end Go.Proofs.Ytbnlglcjamifpaa
