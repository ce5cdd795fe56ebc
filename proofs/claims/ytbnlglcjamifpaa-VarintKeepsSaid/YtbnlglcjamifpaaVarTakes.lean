/- The walk of VarintTakes. -/
import Derived.Test.YtbnlglcjamifpaaVarLives
import Derived.Test.YtbnlglcjamifpaaBytCut
namespace Go.Proofs.Ytbnlglcjamifpaa
open Go.RowKit
open Go.Lib (byteCells uvarint)

/-- Take of what is known under a name -/
theorem take_at {w : World} {B n : Nat} {A : Option Addr} {l : List UInt8} (c : Nat) (hn : Hid (n = l.length)) (h : Byt w B A l) (hm : n ≤ 140737488355328) :
    Calls Try.prog 20 #[.slice A n c] w fun e w' => e = .returned (.tuple #[.int .u64 (tkX l : Nat), .int .i64 (tkN l : Nat), .int .i64 (tkE l : Nat)]) ∧ w = w' := by
  have := hn.out
  subst this
  exact take_any c h hm
theorem rtake_at {w : World} {B n : Nat} {A : Option Addr} {l : List UInt8} (c : Nat) (hn : Hid (n = l.length)) (h : Byt w B A l) (hm : n ≤ 140737488355328) :
    Calls Try.prog 19 #[.slice A n c] w fun e w' => e = .returned (.tuple #[.int .u64 (tkX l : Nat), .int .i64 (tkN l : Nat), .int .i64 (tkE l : Nat)]) ∧ w = w' := by
  have := hn.out
  subst this
  exact rtake_any c h hm
/-- two rows of the same bytes -/
theorem alike_same {w : World} {B B' n n' : Nat} {A A' : Option Addr} {a : List UInt8} (c c' : Nat) (hn : Hid (n = a.length)) (hn' : Hid (n' = a.length)) (ha : Byt w B A a) (hb : Byt w B' A' a) :
    Calls Try.prog 10 #[.slice A n c, .slice A' n' c'] w fun e w' => e = .returned (.bool true) ∧ w = w' := by
  have h := hn.out
  have h' := hn'.out
  subst h
  subst h'
  have := alike_any c c' ha hb
  simpa using this
theorem sizeB : (Try.prog.info? 5).map (·.size) = some 1 := by kernel_rfl

set_option maxRecDepth 100000 in
set_option maxHeartbeats 2000000 in
theorem takes_any {w : World} {A : Option Addr} {b : List UInt8} (c : Nat) (hA : Byt w w.heap.size A b) (hc : b.length ≤ c) (hm : b.length ≤ 140737488351232) :
    Calls Try.prog 4 #[.slice A b.length c] w (Yes w) := by
  go_enter Try.func4, Try.ntmps4
  go_wp2_with fail
  refine (lives_any _).mono ?_
  rintro e w1 ⟨rfl, hB1⟩
  go_wp2_with fail
  go_loopw [3] (fun i wr => ∃ k : Nat, i = .int .i64 k ∧ k ≤ b.length + 1 ∧ Below w.heap.size w wr) (fun i _ => b.length + 1 - (intOf i).toNat)
  case atStart => exact ⟨0, rfl, Nat.zero_le _, hB1⟩
  case round =>
    obtain ⟨k, rfl, hk, hBr⟩ := hrel
    by_cases hlt : k ≤ b.length
    · obtain ⟨A', hA'⟩ : ∃ A', A' = if c = k then A else A.map (·.add k) := ⟨_, rfl⟩
      have hsl := run_cut_l (P := Try.prog) Try.underlying22 sizeB A A' b.length c k hlt hA'
      have hD := (hA.below hBr).drop hc hlt
      rw [← hA'] at hD
      obtain ⟨r, hr⟩ : ∃ r, r = b.drop k := ⟨_, rfl⟩
      rw [← hr] at hD
      have HN : Hid (b.length - k = r.length) := by rw [hr, List.length_drop]; rfl
      clear hA' hr
      go_wp2_with fail
      refine (rtake_at _ HN hD (by omega)).mono ?_
      rintro e w2 ⟨rfl, rfl⟩
      go_wp2_with fail
      refine (take_at _ HN hD (by omega)).mono ?_
      rintro e w2 ⟨rfl, rfl⟩
      go_wp2_with fail
      go_roundw
      case rel => exact ⟨k + 1, by go_num, by omega, hBr⟩
      case measure => simp [intOf]; omega
    · go_wp2_with fail
      go_ret
      exact ⟨rfl, hBr⟩

end Go.Proofs.Ytbnlglcjamifpaa
