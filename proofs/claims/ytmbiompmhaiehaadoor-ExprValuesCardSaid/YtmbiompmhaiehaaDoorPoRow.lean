/- Raw nodes in memory; what an expression is held in. No walk here. -/
import Derived.Test.YtmbiompmhaiehaaDoorExGa
import Derived.Test.YtmbiompmhaiehaaDoorRowsP
import Derived.Test.YtmbiompmhaiehaaDoorExGb
import Derived.Test.YtmbiompmhaiehaaDoorShelf
import Derived.BigCall
import Derived.BigGuard
namespace Go.Proofs.YtmbiompmhaiehaaDoor
open Go.RowKit

def rnC (x : Rn) : Array Value := #[.int .i64 x.op, .int .i64 x.n, .int .u64 (x.num : Nat), .string (str x.t), .int .i64 x.a]
/-- raw nodes below block B -/
abbrev RN (w : World) (B : Nat) (A : Option Addr) (N : List Rn) : Prop := Rows rnC 5 w B A N
theorem RN.cells {w : World} {B : Nat} {A : Option Addr} {N : List Rn} (h : RN w B A N) {i : Nat} {x : Rn} (hx : N[i]? = some x) : ∃ b o, A = some ⟨b, o, none⟩ ∧ b < B ∧
    w.cell? ⟨b, o + i * 5, none⟩ = some (.int .i64 x.op) ∧ w.cell? ⟨b, o + i * 5 + 1, none⟩ = some (.int .i64 x.n) ∧ w.cell? ⟨b, o + i * 5 + 2, none⟩ = some (.int .u64 (x.num : Nat)) ∧ w.cell? ⟨b, o + i * 5 + 3, none⟩ = some (.string (str x.t)) ∧ w.cell? ⟨b, o + i * 5 + 4, none⟩ = some (.int .i64 x.a) := by
  obtain ⟨b, o, rfl, hb, hc⟩ := h.at_ hx
  exact ⟨b, o, rfl, hb, hc 0 _ rfl, hc 1 _ rfl, hc 2 _ rfl, hc 3 _ rfl, hc 4 _ rfl⟩
/-- a block that is a row of numbers, made whole -/
def nums (l : List Nat) : Array Value := (l.map fun n => Value.int .i64 (n : Nat)).toArray
theorem nums_size (l : List Nat) : (nums l).size = l.length := by simp [nums]
theorem nums_at {w : World} {b : Nat} {l : List Nat} (h : CB w b 3 (nums l)) {i : Nat} (hi : i < l.length) : w.cell? ⟨b, i, none⟩ = some (.int .i64 ((l[i] : Nat) : Int)) := by
  rw [h.at_]
  simp [nums, hi]
theorem nums_set (l : List Nat) (i v : Nat) : (nums l).setIfInBounds i (.int .i64 (v : Nat)) = nums (l.set i v) := by
  simp [nums, List.map_set]
/-- an expression's block: its nodes, where each subtree begins, how deep it is -/
structure Xb (w : World) (x f d : Nat) (A : Option Addr) (c : Nat) (N : List Rn) (F D : List Nat) : Prop where
  cb : CB w x 81 #[.slice A N.length c, .slice (some ⟨f, 0, none⟩) N.length N.length, .slice (some ⟨d, 0, none⟩) N.length N.length]
  fb : CB w f 3 (nums F)
  db : CB w d 3 (nums D)
  fl : F.length = N.length
  dl : D.length = N.length
  ne : f ≠ d
section
variable {w w' : World} {x f d : Nat} {A : Option Addr} {c : Nat} {N : List Rn} {F D : List Nat}
theorem Xb.keep (h : Xb w x f d A c N F D) (h1 : w'.heap[x]? = w.heap[x]?) (h2 : w'.heap[f]? = w.heap[f]?) (h3 : w'.heap[d]? = w.heap[d]?) : Xb w' x f d A c N F D :=
  ⟨h.cb.keep h1, h.fb.keep h2, h.db.keep h3, h.fl, h.dl, h.ne⟩
theorem Xb.below (h : Xb w x f d A c N F D) (hb : Below w.heap.size w w') : Xb w' x f d A c N F D := h.keep (hb.block x h.cb.len) (hb.block f h.fb.len) (hb.block d h.db.len)
theorem Xb.xf (h : Xb w x f d A c N F D) : x ≠ f ∧ x ≠ d := by
  constructor
  · intro e
    have h1 := h.cb
    have h2 := h.fb
    subst e
    unfold CB at h1 h2
    rw [h1] at h2
    injection Option.some.inj h2 with _ e2 _
    exact absurd e2 (by decide)
  · intro e
    have h1 := h.cb
    have h2 := h.db
    subst e
    unfold CB at h1 h2
    rw [h1] at h2
    injection Option.some.inj h2 with _ e2 _
    exact absurd e2 (by decide)
end
/-- what is known of the subtrees so far: of each of the first i -/
def Known (N : List Rn) (F D : List Nat) (i : Nat) : Prop := ∀ j, j < i → ∃ e, peAt N j e ∧ F[j]? = some e.fi ∧ D[j]? = some e.dp
theorem Known.at_ {N : List Rn} {F D : List Nat} {i j : Nat} {e : Pe} (h : Known N F D i) (hj : j < i) (he : peAt N j e) : F[j]? = some e.fi ∧ D[j]? = some e.dp := by
  obtain ⟨e', h1, h2⟩ := h j hj
  obtain rfl := peAt_one he h1
  exact h2
end Go.Proofs.YtmbiompmhaiehaaDoor
