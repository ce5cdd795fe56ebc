/- Where the trees of layer 9 begin. No walk here. -/
import Derived.Test.YtipcgmaobiobbaaGreatDoorParFac
import Derived.Test.YtipcgmaobiobbaaGreatDoorParGb

/- Steps, versions, events as they lie in memory. No walk here. -/
namespace Go.Proofs.YtipcgmaobiobbaaGreatDoor
open Go.RowKit

structure LSt where
  s : St
  A : Option Addr
  c : Nat
def stC (s : St) (v : Value) : Array Value := #[.int .i64 (s.k : Nat), .string (str s.a), .string (str s.b), .string (str s.c), .string (str s.sep), .string (str s.ty), v, .int .i64 (s.at_ : Nat)]
def LSt.C (x : LSt) : Array Value := stC x.s (.slice x.A x.s.v.length x.c)
def StLev : Lev LSt := ⟨42, 8, LSt.C, fun w B x => OwnN w B x.A x.c x.s.v, fun x => (obk x.A).toList⟩
theorem stLev : StLev.Ok where
  size := fun _ => rfl
  one := fun x u hu => by
    show u.oneCell' = true
    have hu2 : u ∈ (stC x.s (.slice x.A x.s.v.length x.c)).toList := hu
    simp only [stC, List.mem_cons, List.not_mem_nil, or_false] at hu2
    rcases hu2 with rfl | rfl | rfl | rfl | rfl | rfl | rfl | rfl <;> rfl
  keep := fun {w w' B x} h hk => ownsRow_keep h fun b hb => hk b (by show b ∈ (obk x.A).toList; rw [hb]; simp)
  low := fun h hB => ownsRow_low h hB
  bd := fun {w B x} h b hb => by
    have hb2 : b ∈ (obk x.A).toList := hb
    exact World.ownsRow.lt h b (by rw [obk_own]; simpa using hb2)
  nd := fun {w B x} _ => by
    show ((obk x.A).toList).Nodup
    cases obk x.A <;> simp

structure LVe where
  num : Nat
  at_ : Nat
  st : List LSt
  A : Option Addr
  c : Nat
def veC (n : Nat) (v : Value) (a : Nat) : Array Value := #[.int .u64 (n : Nat), v, .int .i64 (a : Nat)]
def LVe.C (x : LVe) : Array Value := veC x.num (.slice x.A x.st.length x.c) x.at_
def LVe.ve (x : LVe) : Ve := ⟨x.num, x.st.map (·.s), x.at_⟩
def VeLev : Lev LVe := ⟨45, 3, LVe.C, fun w B x => Built StLev w B x.A x.c x.st, fun x => StLev.bls x.A x.st⟩
theorem veLev : VeLev.Ok where
  size := fun _ => rfl
  one := fun x u hu => by
    show u.oneCell' = true
    have hu2 : u ∈ (veC x.num (.slice x.A x.st.length x.c) x.at_).toList := hu
    simp only [veC, List.mem_cons, List.not_mem_nil, or_false] at hu2
    rcases hu2 with rfl | rfl | rfl <;> rfl
  keep := fun h hk => Built.keep stLev h hk
  low := fun h hB => Built.low stLev h hB
  bd := fun h => Built.bd stLev h
  nd := fun h => h.nd

structure LEv where
  name : List UInt8
  at_ : Nat
  vs : List LVe
  A : Option Addr
  c : Nat
def evC (n : List UInt8) (v : Value) (a : Nat) : Array Value := #[.string (str n), v, .int .i64 (a : Nat)]
def LEv.C (x : LEv) : Array Value := evC x.name (.slice x.A x.vs.length x.c) x.at_
def LEv.ev (x : LEv) : Ev := ⟨x.name, x.vs.map (·.ve), x.at_⟩
def EvLev : Lev LEv := ⟨48, 3, LEv.C, fun w B x => Built VeLev w B x.A x.c x.vs, fun x => VeLev.bls x.A x.vs⟩
theorem evLev : EvLev.Ok where
  size := fun _ => rfl
  one := fun x u hu => by
    show u.oneCell' = true
    have hu2 : u ∈ (evC x.name (.slice x.A x.vs.length x.c) x.at_).toList := hu
    simp only [evC, List.mem_cons, List.not_mem_nil, or_false] at hu2
    rcases hu2 with rfl | rfl | rfl <;> rfl
  keep := fun h hk => Built.keep veLev h hk
  low := fun h hB => Built.low veLev h hB
  bd := fun h => Built.bd veLev h
  nd := fun h => h.nd

def st0 : St := ⟨0, [], [], [], [], [], [], 0⟩
theorem infoSt : (Tryz.prog.info? 42).map (fun i => (i.zero, i.size, i.bytes)) = some (some (.agg (stC st0 (.slice none 0 0))), 8, 120) := by kernel_rfl
theorem infoVe : (Tryz.prog.info? 45).map (fun i => (i.zero, i.size, i.bytes)) = some (some (.agg (veC 0 (.slice none 0 0) 0)), 3, 40) := by kernel_rfl
theorem infoEv : (Tryz.prog.info? 48).map (fun i => (i.zero, i.size, i.bytes)) = some (some (.agg (evC [] (.slice none 0 0) 0)), 3, 48) := by kernel_rfl
theorem app_st {w : World} {B : Nat} {A : Option Addr} {c : Nat} {l : List LSt} (h : Built StLev w B A c l) (x : LSt) (hx : StLev.H w B x) (hd : ∀ b ∈ StLev.bl x, b ∉ StLev.bls A l) (hl : l.length ≤ 2000000) (hB : B ≤ w.heap.size) :
    ∃ g c' w', (Builtin.append_ #[43, 43] 43 #[.slice A l.length c, .slice (some ⟨w.heap.size, 0, none⟩) 1 1]).run Tryz.prog (w.alloc (.cells x.C 42)) = .ok (.slice (some ⟨g, 0, none⟩) (l.length + 1) c') w' ∧
      Built StLev w' B (some ⟨g, 0, none⟩) c' (l ++ [x]) ∧ (obk A = some g ∨ w.heap.size ≤ g) ∧ w.grownBy w' (obk A) := by
  obtain ⟨i, hi, hz, hs, hb⟩ := info_three infoSt
  exact run_app_lev stLev h 43 i _ 120 Tryz.underlying43 hi hz hs hb rfl (by decide) (by decide) x hx hd hl hB
theorem app_ve {w : World} {B : Nat} {A : Option Addr} {c : Nat} {l : List LVe} (h : Built VeLev w B A c l) (x : LVe) (hx : VeLev.H w B x) (hd : ∀ b ∈ VeLev.bl x, b ∉ VeLev.bls A l) (hl : l.length ≤ 2000000) (hB : B ≤ w.heap.size) :
    ∃ g c' w', (Builtin.append_ #[46, 46] 46 #[.slice A l.length c, .slice (some ⟨w.heap.size, 0, none⟩) 1 1]).run Tryz.prog (w.alloc (.cells x.C 45)) = .ok (.slice (some ⟨g, 0, none⟩) (l.length + 1) c') w' ∧
      Built VeLev w' B (some ⟨g, 0, none⟩) c' (l ++ [x]) ∧ (obk A = some g ∨ w.heap.size ≤ g) ∧ w.grownBy w' (obk A) := by
  obtain ⟨i, hi, hz, hs, hb⟩ := info_three infoVe
  exact run_app_lev veLev h 46 i _ 40 Tryz.underlying46 hi hz hs hb rfl (by decide) (by decide) x hx hd hl hB
theorem app_ev {w : World} {B : Nat} {A : Option Addr} {c : Nat} {l : List LEv} (h : Built EvLev w B A c l) (x : LEv) (hx : EvLev.H w B x) (hd : ∀ b ∈ EvLev.bl x, b ∉ EvLev.bls A l) (hl : l.length ≤ 2000000) (hB : B ≤ w.heap.size) :
    ∃ g c' w', (Builtin.append_ #[22, 22] 22 #[.slice A l.length c, .slice (some ⟨w.heap.size, 0, none⟩) 1 1]).run Tryz.prog (w.alloc (.cells x.C 48)) = .ok (.slice (some ⟨g, 0, none⟩) (l.length + 1) c') w' ∧
      Built EvLev w' B (some ⟨g, 0, none⟩) c' (l ++ [x]) ∧ (obk A = some g ∨ w.heap.size ≤ g) ∧ w.grownBy w' (obk A) := by
  obtain ⟨i, hi, hz, hs, hb⟩ := info_three infoEv
  exact run_app_lev evLev h 22 i _ 48 Tryz.underlying22 hi hz hs hb rfl (by decide) (by decide) x hx hd hl hB
end Go.Proofs.YtipcgmaobiobbaaGreatDoor
/- The walk of the code: an expression of its own. -/
namespace Go.Proofs.YtipcgmaobiobbaaGreatDoor
open Go.RowKit

/-- what an expression answers: its nodes, in new memory -/
def ExpAt (g : Nat) (A : Option Addr) (c : Nat) (T : List Tk) (p : PS) (w : World) (e : Ending) (w' : World) : Prop :=
  ∃ An cn l, e = .returned (.slice An l.length cn) ∧ RS w' g A c T (p.value T) ∧ Gn g w w' ∧ OwnN w' w.heap.size An cn l ∧ ((p.value T).flt = 0 → l = (p.value T).nds) ∧ l.length ≤ 2000001

set_option maxRecDepth 100000 in
set_option maxHeartbeats 2000000 in
theorem cexpression_any {w : World} {g : Nat} {A : Option Addr} {c : Nat} {T : List Tk} {p : PS} (h : RS w g A c T p) :
    Calls Tryz.prog 23 #[.pointer (some ⟨g, 0, none⟩)] w (ExpAt g A c T p w) := by
  have hgl := h.len
  have hb1 : Below w.heap.size w (w.alloc (.cells #[.pointer (some ⟨g, 0, none⟩), .slice none 0 0, .int .i64 0] 100)) := (Below.refl _ w).alloc (Nat.le_refl _) _
  have hs1 : (w.alloc (.cells #[.pointer (some ⟨g, 0, none⟩), .slice none 0 0, .int .i64 0] 100)).heap.size = w.heap.size + 1 := by simp
  have hX : XS (w.alloc (.cells #[.pointer (some ⟨g, 0, none⟩), .slice none 0 0, .int .i64 0] 100)) w.heap.size g A c T { p with nds := [], dps := [], opn := 0 } (w.heap.size + 1) none 0 [] 0 :=
    ⟨(h.below hb1).same rfl rfl rfl, heap_alloc_new w _, OwnN.nil _ _, hgl, by omega, by omega, fun _ => ⟨rfl, rfl, by decide⟩, by decide⟩
  have cs := cexpr_any T hX (.inr (Nat.zero_le _)) (Nat.zero_le _)
  have hv : exprF T { p with nds := [], dps := [], opn := 0 } = p.value T := rfl
  rw [hv] at cs
  have END : Hid (∀ d w', XIn w.heap.size g A c T { p with nds := [], dps := [], opn := 0 } (p.value T) (w.heap.size + 1) none [] 0 (w.alloc (.cells #[.pointer (some ⟨g, 0, none⟩), .slice none 0 0, .int .i64 0] 100)) w' d → ∃ (An : Option Addr) (cn : Nat) (l : List Nd), w'.cell? ⟨w.heap.size, 1, none⟩ = some (.slice An l.length cn) ∧ ExpAt g A c T p w (.returned (.slice An l.length cn)) w') := by
    intro d w' hx
    obtain ⟨An, cn, l, h1, h2, h3, _⟩ := hx
    have hmu := mu_in h1.rs.inn
    have hfew := h1.rs.few
    refine ⟨An, cn, l, h1.blk.cells.2.1, An, cn, l, rfl, h1.rs, ⟨h2.os.trans hb1.os, h2.tape.trans hb1.tape, h2.output.trans hb1.output, Nat.le_trans hb1.size h2.size, fun k hk hne => ?_⟩, ownsRow_low h1.own (by omega), fun z => (h1.ok z).1, by simp at h3; omega⟩
    refine (h2.block k (by omega) (fun e => hne (by rw [e])) (by omega) (by simp [obk])).trans (hb1.block k hk)
  clear h hX hv hb1 hs1
  go_enter Tryz.func23, Tryz.ntmps23
  go_wp2_with (go_at_call 40; refine cs.mono ?_; rintro e w2 ⟨d, rfl, hx⟩; obtain ⟨An, cn, l, c1, hE⟩ := END.out d w2 hx; have HE := Lib.hid hE; clear hx hE)
  go_ret
  exact HE.out
end Go.Proofs.YtipcgmaobiobbaaGreatDoor
/- The frame of a step that is being read, call by call. No walk of a function here. -/
namespace Go.Proofs.YtipcgmaobiobbaaGreatDoor
open Go.RowKit

/-- the frame of a step: the reader, the answer's block, the step's block, its default's nodes -/
structure SF (w0 w : World) (g : Nat) (A : Option Addr) (c : Nat) (T : List Tk) (q : PS) (b2 b4 : Nat) (x : LSt) : Prop where
  rs : RS w g A c T q
  r2 : CB w b2 42 (stC st0 (.slice none 0 0))
  s4 : CB w b4 42 x.C
  gn : Gn g w0 w
  own : StLev.H w w0.heap.size x
  g0 : g < w0.heap.size
  b20 : w0.heap.size ≤ b2
  b40 : w0.heap.size ≤ b4
  ne : b2 ≠ b4
  far : ∀ b ∈ StLev.bl x, b ≠ b4 ∧ b ≠ b2
section
variable {w0 w w' : World} {g : Nat} {A : Option Addr} {c : Nat} {T : List Tk} {q q' : PS} {b2 b4 : Nat} {x y : LSt}
theorem SF.call (h : SF w0 w g A c T q b2 b4 x) (hg : Gn g w w') (hr : RS w' g A c T q') : SF w0 w' g A c T q' b2 b4 x := by
  have := h.g0
  have := h.b20
  have := h.b40
  refine ⟨hr, h.r2.keep (hg.other h.r2.len (by omega)), h.s4.keep (hg.other h.s4.len (by omega)), h.gn.trans hg, stLev.keep h.own fun b hb => ?_, h.g0, h.b20, h.b40, h.ne, h.far⟩
  have := stLev.bd h.own b hb
  exact hg.other this.2 (by omega)
/-- a field of the step written -/
theorem SF.set (h : SF w0 w g A c T q b2 b4 x) (j : Nat) (v : Value) (hC : x.C.setIfInBounds j v = y.C) (ho : StLev.H w w0.heap.size y) (hf : ∀ b ∈ StLev.bl y, b ≠ b4 ∧ b ≠ b2) : SF w0 (w.setCell ⟨b4, j, none⟩ v) g A c T q b2 b4 y := by
  have := h.g0
  have := h.b20
  have := h.b40
  have hg : Gn b4 w (w.setCell ⟨b4, j, none⟩ v) := (Gn.refl b4 w).set j v
  have hgr := h.rs.len
  have hl4 := h.s4.len
  refine ⟨h.rs.keep (hg.below (by omega) (by omega)) (hg.other hgr (by omega)), h.r2.keep (hg.other h.r2.len h.ne), ?_, ⟨hg.os.trans h.gn.os, hg.tape.trans h.gn.tape, hg.output.trans h.gn.output, Nat.le_trans h.gn.size hg.size, fun k hk hne => (hg.other (Nat.lt_of_lt_of_le hk h.gn.size) (by omega)).trans (h.gn.block k hk hne)⟩, stLev.keep ho fun b hb => ?_, h.g0, h.b20, h.b40, h.ne, hf⟩
  · have := heap_setCell_same w b4 j _ _ v h.s4
    rw [hC] at this
    exact this
  · have := stLev.bd ho b hb
    exact hg.other this.2 (hf b hb).1
theorem SF.at_ (h : SF w0 w g A c T q b2 b4 x) (j : Nat) : w.cell? ⟨b4, j, none⟩ = x.C[j]? ∧ w.frozen? ⟨b4, j, none⟩ = false := ⟨h.s4.at_ j, h.s4.frozen j⟩

theorem sf_mark (h : SF w0 w g A c T q b2 b4 x) (m : UInt8) (hq : q.mark T m = q') : Calls Tryz.prog 65 #[.pointer (some ⟨g, 0, none⟩), .string ⟨#[m]⟩] w fun e w' => e = .returned (.tuple #[]) ∧ Hid (SF w0 w' g A c T q' b2 b4 x) := by
  rw [← hq]
  refine (mk_any h.rs m).mono ?_
  rintro e w' ⟨rfl, hr, hg⟩
  exact ⟨rfl, h.call hg hr⟩
theorem sf_word (h : SF w0 w g A c T q b2 b4 x) (s : List UInt8) (bs : ByteArray) (hs : str s = bs) (hq : q.word T s = q') : Calls Tryz.prog 63 #[.pointer (some ⟨g, 0, none⟩), .string bs] w fun e w' => ∃ a, e = .returned (.int .i64 a) ∧ Hid (SF w0 w' g A c T q' b2 b4 x) := by
  subst hs
  rw [← hq]
  refine (cword_any h.rs s).mono ?_
  rintro e w' ⟨rfl, hr, hg⟩
  exact ⟨_, rfl, h.call hg hr⟩
theorem sf_is (h : SF w0 w g A c T q b2 b4 x) (m : UInt8) {b : Bool} (hb : q.is T 4 [m] = b) : Calls Tryz.prog 71 #[.pointer (some ⟨g, 0, none⟩), .string ⟨#[m]⟩] w fun e w' => e = .returned (.bool b) ∧ Hid (SF w0 w' g A c T q b2 b4 x) := by
  refine (atm_any h.rs m).mono ?_
  rintro e w' ⟨rfl, hb'⟩
  rw [hb]
  exact ⟨rfl, h.call (Gn.of hb') (h.rs.below hb')⟩
theorem sf_take (h : SF w0 w g A c T q b2 b4 x) (h0 : q.flt = 0) (hk : (q.tok T).k ≠ 0) : Calls Tryz.prog 72 #[.pointer (some ⟨g, 0, none⟩)] w fun e w' => e = .returned (.agg (tkC (q.tok T))) ∧ Hid (SF w0 w' g A c T q.next b2 b4 x) := by
  refine (ctake_any h.rs h0 hk).mono ?_
  rintro e w' ⟨rfl, hr, hg⟩
  exact ⟨rfl, h.call hg hr⟩
/-- a name, and where it is put -/
theorem sf_name (h : SF w0 w g A c T q b2 b4 x) {nm : List UInt8} (hq : q.name T = (q', nm)) (j : Nat) (y : LSt) (u : Value) (hu : x.C[j]? = some u) (hC : x.C.setIfInBounds j (.string (str nm)) = y.C) (hA : y.A = x.A) (hc : y.c = x.c) (hv : y.s.v = x.s.v) :
    Calls Tryz.prog 64 #[.pointer (some ⟨g, 0, none⟩)] w fun e w' => e = .returned (.string (str nm)) ∧ w'.cell? ⟨b4, j, none⟩ = some u ∧ w'.frozen? ⟨b4, j, none⟩ = false ∧ Hid (SF w0 (w'.setCell ⟨b4, j, none⟩ (.string (str nm))) g A c T q' b2 b4 y) := by
  have cc := cname_any h.rs
  rw [hq] at cc
  refine cc.mono ?_
  rintro e w' ⟨rfl, hr, hg⟩
  have h2 := h.call hg hr
  have e1 : StLev.bl y = StLev.bl x := by show (obk y.A).toList = (obk x.A).toList; rw [hA]
  exact ⟨rfl, (h2.at_ j).1.trans hu, (h2.at_ j).2, h2.set j _ hC (by show OwnN _ _ y.A y.c y.s.v; rw [hA, hc, hv]; exact h2.own) (by rw [e1]; exact h2.far)⟩
theorem sf_text (h : SF w0 w g A c T q b2 b4 x) {nm : List UInt8} (hq : q.text T = (q', nm)) (j : Nat) (y : LSt) (u : Value) (hu : x.C[j]? = some u) (hC : x.C.setIfInBounds j (.string (str nm)) = y.C) (hA : y.A = x.A) (hc : y.c = x.c) (hv : y.s.v = x.s.v) :
    Calls Tryz.prog 104 #[.pointer (some ⟨g, 0, none⟩)] w fun e w' => e = .returned (.string (str nm)) ∧ w'.cell? ⟨b4, j, none⟩ = some u ∧ w'.frozen? ⟨b4, j, none⟩ = false ∧ Hid (SF w0 (w'.setCell ⟨b4, j, none⟩ (.string (str nm))) g A c T q' b2 b4 y) := by
  have cc := ctext_any h.rs
  rw [hq] at cc
  refine cc.mono ?_
  rintro e w' ⟨rfl, hr, hg⟩
  have h2 := h.call hg hr
  have e1 : StLev.bl y = StLev.bl x := by show (obk y.A).toList = (obk x.A).toList; rw [hA]
  exact ⟨rfl, (h2.at_ j).1.trans hu, (h2.at_ j).2, h2.set j _ hC (by show OwnN _ _ y.A y.c y.s.v; rw [hA, hc, hv]; exact h2.own) (by rw [e1]; exact h2.far)⟩
/-- a default, and where it is put -/
theorem sf_value (h : SF w0 w g A c T q b2 b4 x) (hx : x.s.v = [] ∧ x.A = none ∧ x.c = 0) (hq : q.value T = q') :
    Calls Tryz.prog 23 #[.pointer (some ⟨g, 0, none⟩)] w fun e w' => ∃ An cn l, e = .returned (.slice An (List.length (α := Nd) l) cn) ∧ w'.cell? ⟨b4, 6, none⟩ = some (.slice none 0 0) ∧ w'.frozen? ⟨b4, 6, none⟩ = false ∧ Hid (SF w0 (w'.setCell ⟨b4, 6, none⟩ (.slice An l.length cn)) g A c T q' b2 b4 ⟨{ x.s with v := l }, An, cn⟩ ∧ (q'.flt = 0 → l = q'.nds)) := by
  subst hq
  refine (cexpression_any h.rs).mono ?_
  rintro e w' ⟨An, cn, l, rfl, hr, hg, ho, hv, _⟩
  have h2 := h.call hg hr
  have hl4 := h.s4.len
  have e6 : x.C[6]? = some (.slice none 0 0) := by
    show (stC x.s (.slice x.A x.s.v.length x.c))[6]? = _
    rw [hx.1, hx.2.1, hx.2.2]
    rfl
  refine ⟨An, cn, l, rfl, (h2.at_ 6).1.trans e6, (h2.at_ 6).2, h2.set 6 _ rfl (ownsRow_low ho h.gn.size) (fun b hb => ?_), hv⟩
  have hb2 : obk An = some b := by
    have : b ∈ (obk An).toList := hb
    simpa using this
  have := World.ownsRow.lt ho b (by rw [obk_own]; exact hb2)
  have := h.r2.len
  omega
/-- the frame of a step that was just laid -/
theorem sf_start (hr : RS w g A c T q) (h2 : CB w b2 42 (stC st0 (.slice none 0 0))) (hg : Gn g w0 w) (g0 : g < w0.heap.size) (b20 : w0.heap.size ≤ b2) (x : LSt) (hx : x.s.v = [] ∧ x.A = none ∧ x.c = 0) :
    SF w0 (w.alloc (.cells x.C 42)) g A c T q b2 w.heap.size x := by
  have hb : Below w.heap.size w (w.alloc (.cells x.C 42)) := (Below.refl _ w).alloc (Nat.le_refl _) _
  refine ⟨hr.below hb, h2.below hb, CB.new w _ _, hg.trans (Gn.of hb), ?_, g0, b20, hg.size, by have := h2.len; omega, fun b hb => ?_⟩
  · show OwnN _ _ x.A x.c x.s.v
    rw [hx.1, hx.2.1, hx.2.2]
    exact OwnN.nil _ _
  · have hb2 : b ∈ (obk x.A).toList := hb
    rw [hx.2.1] at hb2
    simp [obk] at hb2
/-- the same where its block was there before -/
theorem sf_start2 (hr : RS w g A c T q) (h2 : CB w b2 42 (stC st0 (.slice none 0 0))) (h4 : CB w b4 42 (stC st0 (.slice none 0 0))) (hg : Gn g w0 w) (g0 : g < w0.heap.size) (b20 : w0.heap.size ≤ b2) (b40 : w0.heap.size ≤ b4) (ne : b2 ≠ b4) (x : LSt) (hx : x.s.v = [] ∧ x.A = none ∧ x.c = 0) :
    SF w0 (w.setCells b4 0 x.C.toList) g A c T q b2 b4 x := by
  have hb : Gn b4 w (w.setCells b4 0 x.C.toList) := (Turned.setCells _ 0 w (Turned.refl b4 w)).grown
  have hgr := hr.len
  have hl4 := h4.len
  refine ⟨hr.keep (hb.below (by omega) (by omega)) (hb.other hgr (by omega)), h2.keep (hb.other h2.len ne), h4.store rfl, ⟨hb.os.trans hg.os, hb.tape.trans hg.tape, hb.output.trans hg.output, Nat.le_trans hg.size hb.size, fun k hk hne => (hb.other (Nat.lt_of_lt_of_le hk hg.size) (by omega)).trans (hg.block k hk hne)⟩, ?_, g0, b20, b40, ne, fun b hb => ?_⟩
  · show OwnN _ _ x.A x.c x.s.v
    rw [hx.1, hx.2.1, hx.2.2]
    exact OwnN.nil _ _
  · have hb2 : b ∈ (obk x.A).toList := hb
    rw [hx.2.1] at hb2
    simp [obk] at hb2
theorem CB.zst {b : Nat} (h : CB w b 42 (stC st0 (.slice none 0 0))) : (w.cell? ⟨b, 0, none⟩ = some (.int .i64 0) ∧ w.cell? ⟨b, 1, none⟩ = some (.string ⟨#[]⟩) ∧ w.cell? ⟨b, 2, none⟩ = some (.string ⟨#[]⟩) ∧ w.cell? ⟨b, 3, none⟩ = some (.string ⟨#[]⟩) ∧ w.cell? ⟨b, 4, none⟩ = some (.string ⟨#[]⟩) ∧ w.cell? ⟨b, 5, none⟩ = some (.string ⟨#[]⟩) ∧ w.cell? ⟨b, 6, none⟩ = some (.slice none 0 0) ∧ w.cell? ⟨b, 7, none⟩ = some (.int .i64 0)) ∧
    (w.frozen? ⟨b, 0, none⟩ = false ∧ w.frozen? ⟨b, 1, none⟩ = false ∧ w.frozen? ⟨b, 2, none⟩ = false ∧ w.frozen? ⟨b, 3, none⟩ = false ∧ w.frozen? ⟨b, 4, none⟩ = false ∧ w.frozen? ⟨b, 5, none⟩ = false ∧ w.frozen? ⟨b, 6, none⟩ = false ∧ w.frozen? ⟨b, 7, none⟩ = false) :=
  ⟨⟨h.at_ 0, h.at_ 1, h.at_ 2, h.at_ 3, h.at_ 4, h.at_ 5, h.at_ 6, h.at_ 7⟩, h.frozen 0, h.frozen 1, h.frozen 2, h.frozen 3, h.frozen 4, h.frozen 5, h.frozen 6, h.frozen 7⟩
theorem below_al {w w' : World} {o : Obj} (hb : Below (w.alloc o).heap.size (w.alloc o) w') : Below w.heap.size w w' := ((Below.refl _ w).alloc (Nat.le_refl _) o).trans (hb.mono (by simp))
theorem cb_after {w w' : World} (hb : Below (w.alloc (.cells #[.int .i64 0, .string ⟨#[]⟩, .string ⟨#[]⟩, .string ⟨#[]⟩, .string ⟨#[]⟩, .string ⟨#[]⟩, .slice none 0 0, .int .i64 0] 42)).heap.size (w.alloc (.cells #[.int .i64 0, .string ⟨#[]⟩, .string ⟨#[]⟩, .string ⟨#[]⟩, .string ⟨#[]⟩, .string ⟨#[]⟩, .slice none 0 0, .int .i64 0] 42)) w') : Hid (CB w' w.heap.size 42 (stC st0 (.slice none 0 0))) :=
  CB.below (CB.new w 42 (stC st0 (.slice none 0 0))) hb
theorem cb_after3 {w w' : World} {b : Nat} (hs : w.heap.size = b) (hb : Below (w.alloc (.cells #[.int .i64 0, .string ⟨#[]⟩, .string ⟨#[]⟩, .string ⟨#[]⟩, .string ⟨#[]⟩, .string ⟨#[]⟩, .slice none 0 0, .int .i64 0] 42)).drew.heap.size (w.alloc (.cells #[.int .i64 0, .string ⟨#[]⟩, .string ⟨#[]⟩, .string ⟨#[]⟩, .string ⟨#[]⟩, .string ⟨#[]⟩, .slice none 0 0, .int .i64 0] 42)).drew w') : Hid (CB w' b 42 (stC st0 (.slice none 0 0))) := by
  subst hs
  exact (CB.new w 42 (stC st0 (.slice none 0 0))).keep (hb.block w.heap.size (by simp))
theorem below_al2 {w w' : World} {o : Obj} (hb : Below (w.alloc o).drew.heap.size (w.alloc o).drew w') : Below w.drew.heap.size w.drew w' := ⟨hb.os, hb.tape, hb.output, Nat.le_trans (by simp) hb.size, fun k hk => (hb.block k (Nat.lt_of_lt_of_le hk (by simp))).trans (heap_alloc_old w o hk)⟩
theorem cb_after2 {g : Nat} {w w' : World} (hg : Gn g (w.alloc (.cells #[.int .i64 0, .string ⟨#[]⟩, .string ⟨#[]⟩, .string ⟨#[]⟩, .string ⟨#[]⟩, .string ⟨#[]⟩, .slice none 0 0, .int .i64 0] 42)) w') (hne : g < w.heap.size) : Hid (CB w' w.heap.size 42 (stC st0 (.slice none 0 0))) :=
  CB.keep (CB.new w 42 (stC st0 (.slice none 0 0))) (hg.other (CB.new w _ _).len (by omega))
theorem st_nest (w : World) (b : Nat) (v0 v1 v2 v3 v4 v5 v6 v7 : Value) : w.setCells b 0 [v0, v1, v2, v3, v4, v5, v6, v7] = (((((((w.setCell ⟨b, 0, none⟩ v0).setCell ⟨b, 1, none⟩ v1).setCell ⟨b, 2, none⟩ v2).setCell ⟨b, 3, none⟩ v3).setCell ⟨b, 4, none⟩ v4).setCell ⟨b, 5, none⟩ v5).setCell ⟨b, 6, none⟩ v6).setCell ⟨b, 7, none⟩ v7 := rfl
theorem sf_start3 (hr : RS w g A c T q) (h2 : CB w b2 42 (stC st0 (.slice none 0 0))) (h4 : CB w b4 42 (stC st0 (.slice none 0 0))) (hg : Gn g w0 w) (g0 : g < w0.heap.size) (b20 : w0.heap.size ≤ b2) (b40 : w0.heap.size ≤ b4) (ne : b2 ≠ b4) (K : Nat) (k : Int) (hk : k = K) (n : List UInt8) (a : Nat) :
    SF w0 ((((((((w.setCell ⟨b4, 0, none⟩ (.int .i64 k)).setCell ⟨b4, 1, none⟩ (.string (str n))).setCell ⟨b4, 2, none⟩ (.string ⟨#[]⟩)).setCell ⟨b4, 3, none⟩ (.string ⟨#[]⟩)).setCell ⟨b4, 4, none⟩ (.string ⟨#[]⟩)).setCell ⟨b4, 5, none⟩ (.string ⟨#[]⟩)).setCell ⟨b4, 6, none⟩ (.slice none 0 0)).setCell ⟨b4, 7, none⟩ (.int .i64 (a : Nat))) g A c T q b2 b4 ⟨⟨K, n, [], [], [], [], [], a⟩, none, 0⟩ := by
  subst hk
  rw [← st_nest]
  exact sf_start2 hr h2 h4 hg g0 b20 b40 ne ⟨⟨K, n, [], [], [], [], [], a⟩, none, 0⟩ ⟨rfl, rfl, rfl⟩
/-- a token's cells behind a step laid over another block -/
theorem tb_over {w : World} {tb b : Nat} {t : Tk} (h : TBlk w tb t) (hne : tb ≠ b) (v0 v1 v2 v3 v4 v5 v6 v7 : Value) : TBlk ((((((((w.setCell ⟨b, 0, none⟩ v0).setCell ⟨b, 1, none⟩ v1).setCell ⟨b, 2, none⟩ v2).setCell ⟨b, 3, none⟩ v3).setCell ⟨b, 4, none⟩ v4).setCell ⟨b, 5, none⟩ v5).setCell ⟨b, 6, none⟩ v6).setCell ⟨b, 7, none⟩ v7) tb t := by
  rw [← st_nest]
  exact h.keep ((Turned.setCells _ 0 w (Turned.refl b w)).others tb hne)
/-- the answer stored -/
theorem SF.close (h : SF w0 w g A c T q b2 b4 x) (t : Turned b2 w w') : RS w' g A c T q ∧ Gn g w0 w' ∧ StLev.H w' w0.heap.size x := by
  have := h.g0
  have := h.b20
  have hg : Gn b2 w w' := t.grown
  have hgr := h.rs.len
  have hl2 := h.r2.len
  refine ⟨h.rs.keep (hg.below (by omega) (by omega)) (hg.other hgr (by omega)), ⟨hg.os.trans h.gn.os, hg.tape.trans h.gn.tape, hg.output.trans h.gn.output, Nat.le_trans h.gn.size hg.size, fun k hk hne => (hg.other (Nat.lt_of_lt_of_le hk h.gn.size) (by omega)).trans (h.gn.block k hk hne)⟩, stLev.keep h.own fun b hb => ?_⟩
  have := stLev.bd h.own b hb
  exact hg.other this.2 (h.far b hb).2
end
end Go.Proofs.YtipcgmaobiobbaaGreatDoor
