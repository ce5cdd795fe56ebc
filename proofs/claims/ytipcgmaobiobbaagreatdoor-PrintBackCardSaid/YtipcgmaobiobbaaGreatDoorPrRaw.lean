/- Raw trees: what they are, their texts, plainly. No walk here. -/
import Derived.Test.YtipcgmaobiobbaaGreatDoorPrPure
namespace Go.Proofs.YtipcgmaobiobbaaGreatDoor
open Go.RowKit

structure Rs where
  kind : Int
  a : List UInt8
  b : List UInt8
  c : List UInt8
  sep : List UInt8
  ty : List UInt8
  v : List Rn
  p : Int
structure Rv where
  num : Nat
  st : List Rs
  p : Int
structure Re where
  name : List UInt8
  vs : List Rv
  p : Int
def nmB (t : List UInt8) : Bool := nameL t && !decide (t ∈ words)
def emB (t : List UInt8) : Bool := decide (t = [])
/-- whether a step is one, were its expression not too deep -/
def okS (s : Rs) : Bool :=
  (decide (s.v = []) || (decide (s.kind = 1) && (exprP s.v).isSome)) &&
  (if s.kind = 1 ∨ s.kind = 5 then [s.a, s.ty].all nmB && [s.b, s.c, s.sep].all emB
   else if s.kind = 2 then [s.a, s.b].all nmB && [s.c, s.sep, s.ty].all emB
   else if s.kind = 3 ∨ s.kind = 4 then [s.a, s.b, s.c].all nmB && [s.ty].all emB
   else if s.kind = 6 then [s.a].all nmB && [s.b, s.c, s.sep, s.ty].all emB
   else false)
def okE (e : Re) : Bool := nmB e.name && !decide (e.vs = []) && e.vs.all fun v => v.st.all okS
def okT (l : List Re) : Bool := l.all okE

def wEvent : List UInt8 := [101, 118, 101, 110, 116]
def wVersion : List UInt8 := [118, 101, 114, 115, 105, 111, 110]
def wAdd : List UInt8 := [97, 100, 100]
def wRename : List UInt8 := [114, 101, 110, 97, 109, 101]
def wSplit : List UInt8 := [115, 112, 108, 105, 116]
def wJoin : List UInt8 := [106, 111, 105, 110]
def wRetype : List UInt8 := [114, 101, 116, 121, 112, 101]
def wDrop : List UInt8 := [100, 114, 111, 112]
def wTo : List UInt8 := [116, 111]
def wAt : List UInt8 := [97, 116]
def wInto : List UInt8 := [105, 110, 116, 111]
def wWith : List UInt8 := [119, 105, 116, 104]
def sOpen : List UInt8 := [123, 10]
/-- the depth and the text of an expression that a step bears, where there is one -/
def exT (s : Rs) : List UInt8 := match exprP s.v with
  | some e => [32, 61, 32] ++ e.tx
  | none => []
def deepS (s : Rs) : Bool := match exprP s.v with
  | some e => decide (100 < e.dp)
  | none => false
/-- a step's text -/
def ptS (s : Rs) : List UInt8 :=
  if s.kind = 1 then blankL [wAdd, s.a ++ [58], s.ty] ++ exT s
  else if s.kind = 2 then blankL [wRename, s.a, wTo, s.b]
  else if s.kind = 3 then blankL [wSplit, s.a, wAt, quoteL s.sep, wInto, s.b ++ [44], s.c]
  else if s.kind = 4 then blankL [wJoin, s.a ++ [44], s.b, wWith, quoteL s.sep, wInto, s.c]
  else if s.kind = 5 then blankL [wRetype, s.a, wTo, s.ty]
  else blankL [wDrop, s.a]
def plS (s : Rs) : List UInt8 := [32, 32, 32, 32] ++ ptS s ++ [59, 10]
def ptV (v : Rv) : List UInt8 := [32, 32] ++ blankL [wVersion, Lib.decDigits v.num, sOpen] ++ v.st.flatMap plS ++ [32, 32, 125, 10]
def ptE (e : Re) : List UInt8 := blankL [wEvent, e.name, sOpen] ++ e.vs.flatMap ptV ++ [125, 10]
def ptT (l : List Re) : List UInt8 := l.flatMap ptE
def deepV (v : Rv) : Bool := v.st.any deepS
def deepE (e : Re) : Bool := e.vs.any deepV
/-- what Schema answers -/
def schP (l : List Re) : List UInt8 × Nat := if okT l = false then ([], 1) else if l.any deepE = true then ([], 91) else if 1048576 < (ptT l).length then ([], 2) else (ptT l, 0)
end Go.Proofs.YtipcgmaobiobbaaGreatDoor
