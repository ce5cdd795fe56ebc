/- The walk of the code: the reckoning's beginning. No walk here. -/
import Derived.Test.YtpgljmkemmikhaaDoorExAdd
import Derived.Test.YtpgljmkemmikhaaDoorExRep
import Derived.Test.YtpgljmkemmikhaaDoorExLen
import Derived.Test.YtpgljmkemmikhaaDoorExHexN
import Derived.Test.YtpgljmkemmikhaaDoorExCat
namespace Go.Proofs.YtpgljmkemmikhaaDoor
open Go.RowKit

theorem endR_own (r : Nat) (v : Except Nat Th) : endR (match v with | .error e => .error (r, e) | .ok t => .ok t) = endO r v := by cases v <;> rfl
theorem comb1_eq {r : Nat} {y : Rn} {f : Th → Except Nat Th} (h : ∀ t, ownV y [t] = f t) (z : Res) : endR (combR r y [z]) = comb1 r f z := by
  cases z with
  | error z => rfl
  | ok t =>
    show endR (match ownV y [t] with | .error e => .error (r, e) | .ok t => .ok t) = endO r (f t)
    rw [h, endR_own]
theorem comb2_eq {r : Nat} {y : Rn} {f : Th → Th → Except Nat Th} (h : ∀ t u, ownV y [t, u] = f t u) (z1 z2 : Res) : endR (combR r y [z1, z2]) = comb2 r f z1 z2 := by
  cases z1 with
  | error z => rfl
  | ok t =>
    cases z2 with
    | error z => rfl
    | ok u =>
      show endR (match ownV y [t, u] with | .error e => .error (r, e) | .ok t => .ok t) = endO r (f t u)
      rw [h, endR_own]
theorem comb0_eq {r : Nat} {y : Rn} : endR (combR r y []) = endO r (ownV y []) := by
  show endR (match ownV y [] with | .error e => .error (r, e) | .ok t => .ok t) = _
  rw [endR_own]
theorem catR_eq {r : Nat} {y : Rn} (h : y.op = 9) (rs : List Res) : endR (combR r y rs) = catEnd r rs := by
  unfold combR catEnd
  cases collect rs with
  | error e => rfl
  | ok ts =>
    refine (endR_own r (ownV y ts)).trans ?_
    unfold ownV
    rw [h]
    rfl
theorem kidRes_one {N : List Rn} {P : List Pe} (hk : 1 ≤ P.length) : kidRes N P 1 = [resAt N P[0].r] := by
  cases P with
  | nil => simp at hk
  | cons a l => rfl
theorem kidRes_two {N : List Rn} {P : List Pe} (hk : 2 ≤ P.length) : kidRes N P 2 = [resAt N P[1].r, resAt N P[0].r] := by
  cases P with
  | nil => simp at hk
  | cons a l =>
    cases l with
    | nil => simp at hk
    | cons b l => rfl
/-- what stands behind the node's load -/
theorem after_node {w w2 w3 : World} {x r : Nat} {o n a : Int} {m : Nat} {S : ByteArray} (k0 : CB w2 w.heap.size 52 #[.pointer (some ⟨x, 0, none⟩), .int .i64 (r : Nat)]) (k1 : CB w2 (w.heap.size + 1) 75 #[.int .i64 0, .bool false, .int .u64 0, .string ⟨#[]⟩]) (b2 : Below w.heap.size w w2) (hb : Below w2.heap.size w2 w3) :
    ∃ w4, w3.alloc (.cells #[.int .i64 o, .int .i64 n, .int .u64 (m : Nat), .string S, .int .i64 a] 37) = w4 ∧ ∀ W, Below w4.heap.size w4 W → (W.cell? ⟨w.heap.size, 0, none⟩ = some (.pointer (some ⟨x, 0, none⟩)) ∧ W.cell? ⟨w.heap.size, 1, none⟩ = some (.int .i64 (r : Nat))) ∧
      (W.cell? ⟨w3.heap.size, 0, none⟩ = some (.int .i64 o) ∧ W.cell? ⟨w3.heap.size, 2, none⟩ = some (.int .u64 (m : Nat)) ∧ W.cell? ⟨w3.heap.size, 3, none⟩ = some (.string S)) ∧
      CB W (w.heap.size + 1) 75 #[.int .i64 0, .bool false, .int .u64 0, .string ⟨#[]⟩] ∧ Below w.heap.size w W := by
  have hb4 : Below w3.heap.size w3 (w3.alloc (.cells #[.int .i64 o, .int .i64 n, .int .u64 (m : Nat), .string S, .int .i64 a] 37)) := (Below.refl _ w3).alloc (Nat.le_refl _) _
  refine ⟨_, rfl, fun W hW => ?_⟩
  have a0 := ((k0.below hb).below hb4).below hW
  have a1 := ((k1.below hb).below hb4).below hW
  have a2 := (CB.new w3 37 #[.int .i64 o, .int .i64 n, .int .u64 (m : Nat), .string S, .int .i64 a]).below hW
  refine ⟨⟨a0.at_ 0, a0.at_ 1⟩, ⟨a2.at_ 0, a2.at_ 2, a2.at_ 3⟩, a1, ?_⟩
  have h3 := b2.trans (hb.mono b2.size)
  exact (h3.trans (hb4.mono h3.size)).trans (hW.mono (Nat.le_trans h3.size hb4.size))
end Go.Proofs.YtpgljmkemmikhaaDoor
