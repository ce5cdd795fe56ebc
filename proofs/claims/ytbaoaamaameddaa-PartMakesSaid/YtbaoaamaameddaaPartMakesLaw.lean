/- The walk of PartMakes. -/
import Derived.Test.YtbaoaamaameddaaPartAwake
import Derived.Test.YtbaoaamaameddaaPartRMk
namespace Go.Proofs.Ytbaoaamaameddaa
open Go.RowKit

set_option maxRecDepth 100000 in
set_option maxHeartbeats 2000000 in
theorem makes_any {w : World} (h : ML w) (s : ByteArray) (n : Nat) (t : ByteArray) (hs : s.size ≤ 140737488351232) (hn : n ≤ 18446744073709551615) (ht : t.size ≤ 140737488351232) :
    Calls Try.prog 4 #[.string s, .int .u64 n, .string t] w (Yes w) := by
  have cr := fun {W : World} => rep_any (w := W) s n hn (by omega)
  have rr := fun {W : World} => rrep_any (w := W) s n hn (by omega)
  have ch := fun {W : World} => hex_any (w := W) t (by omega)
  have rh := fun {W : World} => rhex_any (w := W) t (by omega)
  obtain ⟨a, ha⟩ : ∃ a, repT s n = a := ⟨_, rfl⟩
  obtain ⟨b, hb⟩ : ∃ b, repE s n = b := ⟨_, rfl⟩
  obtain ⟨c, hc⟩ : ∃ c, hexT t = c := ⟨_, rfl⟩
  obtain ⟨d, hd⟩ : ∃ d, hexE t = d := ⟨_, rfl⟩
  simp only [ha, hb] at cr rr
  simp only [hc, hd] at ch rh
  clear ha hb hc hd
  go_enter Try.func4, Try.ntmps4
  go_wp2_with (first
    | (go_at_call 9; refine (awake_any h).mono ?_; rintro e w1 ⟨rfl, b1⟩)
    | (go_at_call 18; refine cr.mono ?_; rintro e w2 ⟨rfl, b2⟩)
    | (go_at_call 19; refine rr.mono ?_; rintro e w3 ⟨rfl, b3⟩)
    | (go_at_call 20; refine ch.mono ?_; rintro e w4 ⟨rfl, b4⟩)
    | (go_at_call 21; refine rh.mono ?_; rintro e w5 ⟨rfl, b5⟩))
  go_ret
  exact ⟨rfl, Below.both (Below.both (Below.both (Below.both b1 b2) b3) b4) b5⟩
end Go.Proofs.Ytbaoaamaameddaa
