/- What a book answers, as plain functions on a list of entries. -/
import Derived.Test.YtgdeeojamnbakaaRollMem
namespace Go.Proofs.Ytgdeeojamnbakaa
open Go.RowKit

def cnt (f : Int) : List Ent → Nat
  | [] => 0
  | e :: r => (if e.fam = f then 1 else 0) + cnt f r

def hits (f : Int) (nm : ByteArray) (e : Ent) : Bool := e.fam == f && e.name.data.toList == nm.data.toList

def findN (f : Int) (nm : ByteArray) : List Ent → Int
  | [] => 0
  | e :: r => if hits f nm e then e.num else findN f nm r

def Ent.none : Ent := ⟨0, 0, ⟨#[]⟩, 0⟩

def isAt (f n : Int) (e : Ent) : Bool := e.fam == f && e.num == n

def findAt (f n : Int) : List Ent → Option Ent
  | [] => Option.none
  | e :: r => if isAt f n e then some e else findAt f n r

theorem hits_yes {f : Int} {nm : ByteArray} {e : Ent} (h : e.fam = f) (h2 : (e.name.toList == nm.toList) = true) : hits f nm e = true := by
  rw [ByteArray.toList_eq, ByteArray.toList_eq] at h2
  unfold hits; rw [h2]; simpa using h
theorem hits_no {f : Int} {nm : ByteArray} {e : Ent} (h2 : (e.name.toList == nm.toList) = false) : hits f nm e = false := by
  rw [ByteArray.toList_eq, ByteArray.toList_eq] at h2
  unfold hits; rw [h2]; simp
theorem hits_far {f : Int} {nm : ByteArray} {e : Ent} (h : ¬ e.fam = f) : hits f nm e = false := by
  unfold hits; simp [h]
theorem isAt_yes {f n : Int} {e : Ent} (h : e.fam = f) (h2 : (e.num == n) = true) : isAt f n e = true := by unfold isAt; rw [h2]; simp [h]
theorem isAt_no {f n : Int} {e : Ent} (h2 : (e.num == n) = false) : isAt f n e = false := by unfold isAt; rw [h2]; simp
theorem isAt_far {f n : Int} {e : Ent} (h : ¬ e.fam = f) : isAt f n e = false := by unfold isAt; simp [h]

theorem cnt_le (f : Int) (es : List Ent) : cnt f es ≤ es.length := by
  induction es with
  | nil => simp [cnt]
  | cons e r ih => simp only [cnt, List.length_cons]; split <;> omega

theorem drop_at {α : Type} (es : List α) (k : Nat) (h : k < es.length) : es.drop k = es[k] :: es.drop (k + 1) := List.drop_eq_getElem_cons h

def okc (c : UInt8) : Bool := c == 45 || (decide (97 ≤ c) && decide (c ≤ 122))
theorem okc_eq (c : UInt8) : okc c = decide ((c.toNat : Int) = 45 ∨ 97 ≤ (c.toNat : Int) ∧ (c.toNat : Int) ≤ 122) := by
  rw [Bool.eq_iff_iff]
  simp only [okc, Bool.or_eq_true, Bool.and_eq_true, beq_iff_eq, decide_eq_true_eq, UInt8.le_iff_toNat_le, ← UInt8.toNat_inj]
  simp
  omega
theorem okc_dash {c : UInt8} (h : (c.toNat : Int) = 45) : okc c = true := by rw [okc_eq]; simp [h]
theorem okc_out {c : UInt8} (h : ¬ (c.toNat : Int) = 45) (h2 : (c.toNat : Int) < 97 ∨ 122 < (c.toNat : Int)) : okc c = false := by rw [okc_eq]; simp; omega
theorem okc_in {c : UInt8} (h : ¬ (c.toNat : Int) = 45) (h2 : ((c.toNat : Int) != 45) = false ∨ 97 ≤ (c.toNat : Int) ∧ (c.toNat : Int) ≤ 122) : okc c = true := by
  rcases h2 with h2 | h2
  · exact absurd (by simpa using h2) h
  · rw [okc_eq]; simp [h2]
def nameOk (s : ByteArray) : Bool := decide (1 ≤ s.size) && decide (s.size ≤ 16) && s.data.toList.all okc
def famOk (f : Int) : Bool := decide (1 ≤ f) && decide (f ≤ 5)

end Go.Proofs.Ytgdeeojamnbakaa
