/- Words on memory for the walks of this layer: the two tables of the library stand, and what stood stands; texts and their bytes. No walk here. -/
import Derived.Shelf.Unicode.DecodeSlow
import Derived.Test.YtijgcfnjbfaelaaDoorProg
import Derived.Test.YtijgcfnjbfaelaaDoorUtfPure
import Derived.Test.YtijgcfnjbfaelaaDoorBytMem
namespace Go.Proofs.YtijgcfnjbfaelaaDoor
open Go.RowKit

/-- what stood when the call began stands, and the library's two tables are as they were laid -/
structure St (w0 w : World) : Prop where
  below : Below w0.heap.size w0 w
  tabs : Lib.Utf8Tabs 6 7 w
theorem St.first {w : World} (h : Lib.Utf8Tabs 6 7 w) : St w w := ⟨Below.refl _ _, h⟩
theorem St.then_ {w0 w w' : World} (h : St w0 w) (hb : Below w.heap.size w w') : St w0 w' := ⟨Below.both h.below hb, Utf8Tabs_below h.tabs hb⟩
theorem St.drew {w0 w : World} (h : St w0 w) : St w0 w.drew := ⟨Below.thenN h.below 1, h.tabs⟩
theorem St.newN {w0 w : World} (h : St w0 w) (n : Nat) : St w0 (w.drewN n) := ⟨Below.thenN h.below n, h.tabs⟩

/-- a text of these bytes -/
def tx (l : List UInt8) : ByteArray := ⟨l.toArray⟩
def ls (s : ByteArray) : List UInt8 := s.data.toList
theorem ls_tx (l : List UInt8) : ls (tx l) = l := rfl
theorem tx_ls (s : ByteArray) : tx (ls s) = s := by cases s; simp [tx, ls]
theorem size_ls (s : ByteArray) : (ls s).length = s.size := (Go.Lib.size_eq s).symm
theorem size_tx (l : List UInt8) : (tx l).size = l.length := by rw [← size_ls, ls_tx]
theorem ls_inj {s t : ByteArray} (h : ls s = ls t) : s = t := by rw [← tx_ls s, h, tx_ls]
theorem ls_from (s : ByteArray) (i : Nat) : ls (s.extract i s.size) = (ls s).drop i := Go.Lib.ext_list s i
theorem ls_cut (s : ByteArray) (i j : Nat) : ls (s.extract i j) = ((ls s).take j).drop i := by
  unfold ls
  rw [ByteArray.data_extract, Array.toList_extract]
  simp [List.extract, List.drop_take]
theorem ls_app (s t : ByteArray) : ls (s ++ t) = ls s ++ ls t := by
  unfold ls
  rw [ByteArray.data_append, Array.toList_append]
end Go.Proofs.YtijgcfnjbfaelaaDoor
