/- The writer of a print in memory, and the library's builder in its first field. -/
import Derived.Test.YtipcgmaobiobbaaGreatDoorPrPure
import Derived.Test.YtipcgmaobiobbaaGreatDoorParGc
import Derived.Test.YtipcgmaobiobbaaGreatDoorParGb
import Derived.Lib.UnsafeStr
import Derived.Lib.FrozenHead
namespace Go.Proofs.YtipcgmaobiobbaaGreatDoor
open Go.RowKit
open Go.Lib (byteCells)

def selfP (g : Nat) : Value := .pointer (some ⟨g, 0, none⟩)
def fnV (F : FuncId) (b : Value) : Value := .func (.func F) #[b] #[]
def wrapV (g : Nat) (a b c : List UInt8) : Value := .agg #[selfP g, .string (str a), .string (str b), .string (str c)]
/-- what writes a node of each Op, a step of each Kind -/
def ndFns (g : Nat) : List Value := [.nilFunc, fnV 43 (selfP g), fnV 44 (selfP g),
  fnV 45 (wrapV g sTrue [] []), fnV 45 (wrapV g sFalse [] []), fnV 45 (wrapV g [45] [] []),
  fnV 45 (wrapV g [40] [32, 43, 32] [41]), fnV 45 (wrapV g [40] [32, 45, 32] [41]), fnV 45 (wrapV g [40] [32, 42, 32] [41]),
  fnV 45 (wrapV g sCat [44, 32] [41]), fnV 45 (wrapV g sRep [44, 32] [41]), fnV 45 (wrapV g sLen [] [41]), fnV 45 (wrapV g sHex [] [41])]
def stFns (g : Nat) : List Value := [.nilFunc, fnV 46 (selfP g), fnV 47 (selfP g), fnV 48 (selfP g), fnV 49 (selfP g), fnV 50 (selfP g), fnV 51 (selfP g)]
def wrC (g : Nat) (p buf : Value) (dp lg : Bool) : Array Value := (p :: buf :: .bool dp :: .bool lg :: (ndFns g ++ stFns g)).toArray
theorem wr_size (g : Nat) (p buf : Value) (dp lg : Bool) : (wrC g p buf dp lg).size = 24 := rfl
/-- the writer's block: what it has written lies in a row of its own -/
structure Wb (w : World) (g B : Nat) (p : Value) (A : Option Addr) (c : Nat) (l : List UInt8) (dp lg : Bool) : Prop where
  cb : CB w g 75 (wrC g p (.slice A l.length c) dp lg)
  p : p = .pointer none ∨ p = selfP g
  own : OwnB w B 5 A c l
  gB : B ≤ g
  ne : (Value.slice A l.length c).ownBlock ≠ some g
/-- what a call at a writer leaves as it was: all blocks below B; all blocks but the writer's and rows of bytes -/
structure Pr (g B : Nat) (a w : World) : Prop where
  bl : Below B a w
  keep : ∀ k, k < a.heap.size → k ≠ g → (∀ cs fz, a.heap[k]? ≠ some (.cells cs 5 fz)) → w.heap[k]? = a.heap[k]?
theorem Pr.refl (g B : Nat) (w : World) : Pr g B w w := ⟨Below.refl _ _, fun _ _ _ _ => rfl⟩
theorem Pr.of {g B : Nat} {a w : World} (h : Below a.heap.size a w) (hB : B ≤ a.heap.size) : Pr g B a w := ⟨h.mono hB, fun k hk _ _ => h.block k hk⟩
theorem Pr.gn {g B : Nat} {a w : World} (h : Gn g a w) (hB : B ≤ a.heap.size) (hg : B ≤ g) : Pr g B a w := ⟨h.below hB hg, fun _ hk hne _ => h.other hk hne⟩
theorem Pr.trans {g B : Nat} {x y z : World} (h : Pr g B x y) (k : Pr g B y z) : Pr g B x z :=
  ⟨h.bl.trans k.bl, fun i hi h1 h2 => by
    have e := h.keep i hi h1 h2
    have hs := h.bl.size
    exact (k.keep i (by omega) h1 (fun cs fz => by rw [e]; exact h2 cs fz)).trans e⟩
theorem CB.pr {g B b : Nat} {T : TypeId} {cs : Array Value} {a w : World} (h : CB a b T cs) (hp : Pr g B a w) (hg : b ≠ g) (hT : T ≠ 5) : CB w b T cs :=
  h.keep (hp.keep b h.len hg fun cs' fz e => by
    unfold CB at h
    rw [h] at e
    cases e
    exact hT rfl)
section
variable {w w' : World} {g B : Nat} {p : Value} {A : Option Addr} {c : Nat} {l : List UInt8} {dp lg : Bool}
theorem Wb.len (h : Wb w g B p A c l dp lg) : g < w.heap.size := h.cb.len
theorem Wb.cells (h : Wb w g B p A c l dp lg) : w.cell? ⟨g, 0, none⟩ = some p ∧ w.cell? ⟨g, 1, none⟩ = some (.slice A l.length c) ∧ w.cell? ⟨g, 2, none⟩ = some (.bool dp) ∧ w.cell? ⟨g, 3, none⟩ = some (.bool lg) :=
  ⟨h.cb.at_ 0, h.cb.at_ 1, h.cb.at_ 2, h.cb.at_ 3⟩
theorem Wb.own_ge (h : Wb w g B p A c l dp lg) : ∀ k, obk A = some k → B ≤ k ∧ k < w.heap.size ∧ k ≠ g := fun k e => by
  have := World.ownsRow.lt h.own k (by rw [obk_own]; exact e)
  exact ⟨this.1, this.2, fun z => h.ne (by rw [obk_own, e, z])⟩
theorem Wb.keep (h : Wb w g B p A c l dp lg) (h1 : w'.heap[g]? = w.heap[g]?) (h2 : ∀ k, obk A = some k → w'.heap[k]? = w.heap[k]?) : Wb w' g B p A c l dp lg :=
  ⟨h.cb.keep h1, h.p, ownsRow_keep h.own h2, h.gB, h.ne⟩
theorem Wb.below (h : Wb w g B p A c l dp lg) (hb : Below w.heap.size w w') : Wb w' g B p A c l dp lg :=
  h.keep (hb.block g h.len) fun k hk => hb.block k (h.own_ge k hk).2.1
theorem Wb.setF (h : Wb w g B p A c l dp lg) (j : Nat) (v : Value) (p' : Value) (dp' lg' : Bool) (hc : (wrC g p (.slice A l.length c) dp lg).setIfInBounds j v = wrC g p' (.slice A l.length c) dp' lg') (hp : p' = .pointer none ∨ p' = selfP g) : Wb (w.setCell ⟨g, j, none⟩ v) g B p' A c l dp' lg' := by
  have hg : Gn g w (w.setCell ⟨g, j, none⟩ v) := (Gn.refl g w).set j v
  refine ⟨?_, hp, ownsRow_keep h.own fun k hk => hg.other (h.own_ge k hk).2.1 (h.own_ge k hk).2.2, h.gB, h.ne⟩
  have := heap_setCell_same w g j _ _ v h.cb
  rw [hc] at this
  exact this
end
theorem lies0 : liesAt Tryz.prog Tryz.prog.depth 75 (24 / Tryz.prog.cellsOf 75) 0 69 1 = true := by kernel_rfl
end Go.Proofs.YtipcgmaobiobbaaGreatDoor
