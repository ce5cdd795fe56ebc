/- Raw trees: what they are, their texts, plainly; and how they lie in memory. No walk here. -/
import Derived.Test.YtipcgmaobiobbaaGreatDoorPrExp
import Derived.Test.YtipcgmaobiobbaaGreatDoorPrRaw
import Derived.Test.YtipcgmaobiobbaaGreatDoorParGb
namespace Go.Proofs.YtipcgmaobiobbaaGreatDoor
open Go.RowKit

/-- a step in memory: where its nodes stand -/
structure Ms where
  s : Rs
  A : Option Addr
  c : Nat
structure Mv where
  num : Nat
  st : List Ms
  A : Option Addr
  c : Nat
  p : Int
structure Me where
  name : List UInt8
  vs : List Mv
  A : Option Addr
  c : Nat
  p : Int
def Mv.v (m : Mv) : Rv := ⟨m.num, m.st.map Ms.s, m.p⟩
def Me.e (m : Me) : Re := ⟨m.name, m.vs.map Mv.v, m.p⟩
def Ms.C (m : Ms) : Array Value := #[.int .i64 m.s.kind, .string (str m.s.a), .string (str m.s.b), .string (str m.s.c), .string (str m.s.sep), .string (str m.s.ty), .slice m.A m.s.v.length m.c, .int .i64 m.s.p]
def Mv.C (m : Mv) : Array Value := #[.int .u64 (m.num : Nat), .slice m.A m.st.length m.c, .int .i64 m.p]
def Me.C (m : Me) : Array Value := #[.string (str m.name), .slice m.A m.vs.length m.c, .int .i64 m.p]
/-- texts that fit into memory -/
structure Lts (s : Rs) : Prop where
  a : s.a.length ≤ 140737488355328
  b : s.b.length ≤ 140737488355328
  c : s.c.length ≤ 140737488355328
  sep : s.sep.length ≤ 140737488355328
  ty : s.ty.length ≤ 140737488355328
  few : Few s.v
structure MsAt (w : World) (B : Nat) (m : Ms) : Prop where
  rn : RN w B m.A m.s.v
  lt : Lts m.s
structure MvAt (w : World) (B : Nat) (m : Mv) : Prop where
  row : Rows Ms.C 8 w B m.A m.st
  each : ∀ x ∈ m.st, MsAt w B x
  num : m.num < 18446744073709551616
  len : m.st.length ≤ 140737488355328
structure MeAt (w : World) (B : Nat) (m : Me) : Prop where
  row : Rows Mv.C 3 w B m.A m.vs
  each : ∀ x ∈ m.vs, MvAt w B x
  name : m.name.length ≤ 140737488355328
  len : m.vs.length ≤ 140737488355328
structure MtAt (w : World) (B : Nat) (A : Option Addr) (l : List Me) : Prop where
  row : Rows Me.C 3 w B A l
  each : ∀ x ∈ l, MeAt w B x
  len : l.length ≤ 140737488355328
section
variable {w w' : World} {B B' : Nat}
theorem MsAt.below {m : Ms} (h : MsAt w B m) (hb : Below B w w') : MsAt w' B m := ⟨h.rn.below hb, h.lt⟩
theorem MvAt.below {m : Mv} (h : MvAt w B m) (hb : Below B w w') : MvAt w' B m := ⟨h.row.below hb, fun x hx => (h.each x hx).below hb, h.num, h.len⟩
theorem MeAt.below {m : Me} (h : MeAt w B m) (hb : Below B w w') : MeAt w' B m := ⟨h.row.below hb, fun x hx => (h.each x hx).below hb, h.name, h.len⟩
theorem MtAt.below {A : Option Addr} {l : List Me} (h : MtAt w B A l) (hb : Below B w w') : MtAt w' B A l := ⟨h.row.below hb, fun x hx => (h.each x hx).below hb, h.len⟩
theorem MsAt.more {m : Ms} (h : MsAt w B m) (hB : B ≤ B') : MsAt w B' m := ⟨h.rn.more hB, h.lt⟩
theorem MvAt.more {m : Mv} (h : MvAt w B m) (hB : B ≤ B') : MvAt w B' m := ⟨h.row.more hB, fun x hx => (h.each x hx).more hB, h.num, h.len⟩
theorem MeAt.more {m : Me} (h : MeAt w B m) (hB : B ≤ B') : MeAt w B' m := ⟨h.row.more hB, fun x hx => (h.each x hx).more hB, h.name, h.len⟩
theorem MtAt.more {A : Option Addr} {l : List Me} (h : MtAt w B A l) (hB : B ≤ B') : MtAt w B' A l := ⟨h.row.more hB, fun x hx => (h.each x hx).more hB, h.len⟩
end
end Go.Proofs.YtipcgmaobiobbaaGreatDoor
