/- What ParseBlanks walks on: the blanks, a text put together anew, two rows that grow in turn. No walk here. -/
import Derived.Test.YtbngelinfpaefaaDoorParGl
import Derived.Test.YtbngelinfpaefaaDoorParGm
import Derived.Test.YtbngelinfpaefaaDoorParGk
import Derived.Lib.AppendStr
namespace Go.Proofs.YtbngelinfpaefaaDoor
open Go.RowKit
open Go.Lib (byteCells)

/-- the eight blanks -/
def gpL : List ByteArray := [⟨#[32]⟩, ⟨#[10]⟩, ⟨#[9]⟩, ⟨#[13]⟩, ⟨#[35, 32, 125, 34, 10]⟩, ⟨#[32, 32]⟩, ⟨#[35, 10]⟩, ⟨#[32, 35, 120, 10, 32]⟩]
def gap8 (b : UInt8) : ByteArray := (gpL[b.toNat % 8]?).getD ⟨#[32]⟩
theorem gap8_at (b : UInt8) : gpL[b.toNat % 8]? = some (gap8 b) := by
  have h : b.toNat % 8 < gpL.length := Nat.mod_lt _ (by decide)
  unfold gap8
  rw [List.getElem?_eq_getElem h]
  rfl
theorem gpL_ok : ∀ g ∈ gpL, skipS false (ls g) = (ls g).length ∧ endS false (ls g) = false ∧ (ls g).length ≤ 5 ∧ (∃ d r, ls g = d :: r ∧ isW d = false) := by
  intro g hg
  simp only [gpL, List.mem_cons, List.not_mem_nil, or_false] at hg
  rcases hg with rfl | rfl | rfl | rfl | rfl | rfl | rfl | rfl <;> exact ⟨by decide, by decide, by decide, _, _, rfl, by decide⟩
theorem gap8_ok (b : UInt8) : Gap (ls (gap8 b)) := by
  obtain ⟨h1, h2, h3, h4⟩ := gpL_ok _ (List.mem_of_getElem? (gap8_at b))
  exact ⟨h1, h2, h4, h3⟩
def padAt (P : List UInt8) (i : Nat) : UInt8 := if P.length = 0 then 0 else (P[i % P.length]?).getD 0
def zL (P : List UInt8) : Nat → List Tk → List (Tk × List UInt8)
  | _, [] => []
  | i, x :: r => (x, ls (gap8 (padAt P i))) :: zL P (i + 1) r
theorem zL_fst (P : List UInt8) (i : Nat) (T : List Tk) : (zL P i T).map (·.1) = T := by
  induction T generalizing i with
  | nil => rfl
  | cons x r ih => unfold zL; rw [List.map_cons, ih]
theorem zL_gap (P : List UInt8) (i : Nat) (T : List Tk) : ∀ y ∈ zL P i T, Gap y.2 := by
  induction T generalizing i with
  | nil => exact nofun
  | cons x r ih =>
    intro y hy
    unfold zL at hy
    rcases List.mem_cons.1 hy with rfl | hy
    · exact gap8_ok _
    · exact ih _ y hy
def plL (o : Nat) (L : List (Tk × List UInt8)) : List Nat := (spT o L).map (·.a)
theorem plL_cons (o : Nat) (x : Tk) (g : List UInt8) (r : List (Tk × List UInt8)) : plL o ((x, g) :: r) = (o + g.length) :: plL (o + g.length + (x.e - x.a)) r := rfl
theorem spL_cons (l : List UInt8) (x : Tk) (g : List UInt8) (r : List (Tk × List UInt8)) : spL l ((x, g) :: r) = (g ++ (l.drop x.a).take (x.e - x.a)) ++ spL l r := rfl
/-- tokens together are no longer than their text -/
theorem lex_sum (N : Nat) : ∀ (l : List UInt8) (off : Nat) {ts : List Tk}, l.length ≤ N → lexL l off = .ok ts → (ts.map fun x => x.e - x.a).sum ≤ l.length := by
  have base : ∀ (l : List UInt8) (off : Nat) {ts : List Tk}, skipS false l = l.length → lexL l off = .ok ts → (ts.map fun x => x.e - x.a).sum ≤ l.length := by
    intro l off ts h hl
    rw [lexL_done h] at hl
    cases hl
    show (off + l.length - (off + l.length)) + 0 ≤ _
    omega
  induction N with
  | zero =>
    intro l off ts h hl
    obtain rfl := List.eq_nil_of_length_eq_zero (by omega : l.length = 0)
    exact base _ _ rfl hl
  | succ N ih =>
    intro l off ts h hl
    rcases lex_cases l off with ⟨h1, h2⟩ | ⟨s, o, e, h1, h2, h3, h4⟩ | ⟨s, k, t, n, len, h1, h2, h3, h4, h5⟩
    · exact base _ _ h1 hl
    · rw [h4] at hl
      cases hl
    · rw [h5] at hl
      obtain ⟨ts', g1, rfl⟩ := LR.push_ok hl
      have := ih _ _ (by rw [List.length_drop]; omega) g1
      rw [List.length_drop] at this
      rw [List.map_cons, List.sum_cons]
      show off + s + len - (off + s) + _ ≤ _
      omega
theorem spL_len (l : List UInt8) (P : List UInt8) : ∀ (i : Nat) (T : List Tk), (spL l (zL P i T)).length ≤ 5 * T.length + (T.map fun x => x.e - x.a).sum
  | _, [] => Nat.le_refl _
  | i, x :: r => by
    unfold zL
    have h := spL_len l P (i + 1) r
    have g := (gap8_ok (padAt P i)).few
    have t : ((l.drop x.a).take (x.e - x.a)).length ≤ x.e - x.a := by rw [List.length_take]; exact Nat.min_le_left _ _
    rw [spL_cons, List.length_append, List.length_append, List.length_cons, List.map_cons, List.sum_cons]
    omega

/-! ### two rows that grow in turn: bytes, and places -/
def IntLev : Lev Nat := ⟨3, 1, fun p => #[.int .i64 (p : Nat)], fun _ _ _ => True, fun _ => []⟩
theorem intLev : IntLev.Ok where
  size := fun _ => rfl
  one := fun x u hu => by
    have hu2 : u ∈ [Value.int .i64 (x : Nat)] := hu
    rw [List.mem_singleton] at hu2
    rw [hu2]
    rfl
  keep := fun _ _ => trivial
  low := fun _ _ => trivial
  bd := fun _ b hb => by cases hb
  nd := fun _ => .nil
theorem int_bls (A : Option Addr) (l : List Nat) : IntLev.bls A l = (obk A).toList := by
  unfold Lev.bls
  have : l.flatMap IntLev.bl = [] := by
    induction l with
    | nil => rfl
    | cons x r ih => rw [List.flatMap_cons, ih]; rfl
  rw [this, List.append_nil]
theorem infoI : (Tryd.prog.info? 3).map (fun i => (i.zero, i.size, i.bytes)) = some (some (.int .i64 0), 1, 8) := by kernel_rfl
theorem own_blk {w : World} {B : Nat} {T : TypeId} {s : Nat} {A : Option Addr} {c n : Nat} {xs : List Value} (h : w.ownsRow B T s (.slice A n c) n xs) {k : Nat} (hk : obk A = some k) : ∃ cur, w.heap[k]? = some (.cells cur T (0, 0)) := by
  rcases h.2 with ⟨hv, _⟩ | ⟨g, cap, cur, hv, _, hg, _⟩
  · injection hv with e1 _ _
    rw [e1] at hk
    cases hk
  · injection hv with e1 _ _
    rw [e1] at hk
    have e : g = k := Option.some.inj hk
    rw [← e]
    exact ⟨cur, hg⟩
/-- rows of two types share no block -/
theorem own_ne {w : World} {B B' : Nat} {T T' : TypeId} {s s' : Nat} {A A' : Option Addr} {c n c' n' : Nat} {xs xs' : List Value} (h : w.ownsRow B T s (.slice A n c) n xs) (h' : w.ownsRow B' T' s' (.slice A' n' c') n' xs') (hT : T ≠ T') : ∀ k, obk A = some k → obk A' ≠ some k := fun k hk hk' => by
  obtain ⟨x, hx⟩ := own_blk h hk
  obtain ⟨y, hy⟩ := own_blk h' hk'
  rw [hx] at hy
  injection hy with hy
  injection hy with _ e _
  exact hT e
structure Sp (w : World) (B : Nat) (A : Option Addr) (c : Nat) (o : List UInt8) (A2 : Option Addr) (c2 : Nat) (pl : List Nat) : Prop where
  b : OwnB w B 5 A c o
  i : Built IntLev w B A2 c2 pl
  ap : ∀ k, obk A = some k → obk A2 ≠ some k
section
variable {w : World} {B : Nat} {A A2 : Option Addr} {c c2 : Nat} {o : List UInt8} {pl : List Nat}
theorem Sp.bb (h : Sp w B A c o A2 c2 pl) {k : Nat} (hk : obk A = some k) : B ≤ k ∧ k < w.heap.size := h.b.lt k (by rw [obk_own]; exact hk)
theorem Sp.ib (h : Sp w B A c o A2 c2 pl) {k : Nat} (hk : obk A2 = some k) : B ≤ k ∧ k < w.heap.size := h.i.bd intLev k (by rw [int_bls, hk]; simp)
theorem Sp.below {w' : World} (h : Sp w B A c o A2 c2 pl) (hb : Below w.heap.size w w') : Sp w' B A c o A2 c2 pl := ⟨h.b.then_ hb, h.i.below intLev hb, h.ap⟩
theorem Sp.start (w : World) (B : Nat) (hB : B ≤ w.heap.size) : Sp ((w.alloc (.cells #[] 5)).alloc (.cells #[] 3)) B (some ⟨w.heap.size, 0, none⟩) 0 [] (some ⟨w.heap.size + 1, 0, none⟩) 0 [] := by
  have h1 : OwnB (w.alloc (.cells #[] 5)) B 5 (some ⟨w.heap.size, 0, none⟩) 0 [] := ⟨rfl, .inr ⟨w.heap.size, 0, _, rfl, hB, heap_alloc_new w _, Nat.le_refl _, Nat.zero_le _, rfl, rfl⟩⟩
  have e : (w.alloc (.cells #[] 5)).heap.size = w.heap.size + 1 := by simp
  refine ⟨h1.new _, ⟨⟨rfl, .inr ⟨w.heap.size + 1, 0, #[], rfl, by omega, ?_, Nat.le_refl _, Nat.zero_le _, rfl, rfl⟩⟩, nofun, by rw [int_bls]; exact List.nodup_cons.2 ⟨by simp, .nil⟩⟩, fun k hk hk2 => ?_⟩
  · rw [← e]
    exact heap_alloc_new _ _
  · have e1 : w.heap.size = k := Option.some.inj hk
    have e2 : w.heap.size + 1 = k := Option.some.inj hk2
    omega
/-- a text more -/
theorem Sp.text (h : Sp w B A c o A2 c2 pl) (s : ByteArray) (r : List UInt8) (hr : r = o ++ ls s) (hm : r.length ≤ 140737488355328) (hB : B ≤ w.heap.size) :
    ∃ A' c' w', (Builtin.append_ #[22, 9] 22 #[.slice A o.length c, .string s]).run Tryd.prog w = .ok (.slice A' r.length c') w' ∧ Sp w' B A' c' r A2 c2 pl ∧ Below B w w' := by
  obtain ⟨i, hi, hz, hs, hb⟩ := info_three infoB
  have hl : r.length = o.length + s.size := by rw [hr, List.length_append, ls_size]
  obtain ⟨v', w', h1, h2, h3, _⟩ := Go.Lib.run_append_own_string (P := Tryd.prog) w B 22 9 22 5 i Tryd.underlying22 Tryd.underlying9 hi hz hs hb (.slice A o.length c) o.length (byteCells o) h.b s
    (by simp only [maxLen]; omega) (by omega) hB
  rw [strCells_ls, ← Go.Lib.byteCells_append, ← hr, ← hl] at h2
  rw [obk_own] at h3
  have hk : Built IntLev w' B A2 c2 pl := h.i.keep intLev fun b hb => by
    rw [int_bls] at hb
    have hb2 : obk A2 = some b := by simpa using hb
    exact grown_keep h3 (h.ib hb2).2 fun e => h.ap b e hb2
  have hB2 : Below B w w' := ⟨h3.os, h3.tape, h3.output, h3.size, fun x hx => h3.block x (by omega) fun e => by have := (h.bb e.symm).1; omega⟩
  rcases h2.2 with ⟨rfl, h0⟩ | ⟨g, cap, cur, rfl, rest⟩
  · exact ⟨none, 0, w', by rw [h1, h0], ⟨by unfold OwnB; rw [h0] at h2 ⊢; exact h2, hk, nofun⟩, hB2⟩
  · exact ⟨some ⟨g, 0, none⟩, cap, w', h1, ⟨h2, hk, own_ne h2 hk.own (by decide)⟩, hB2⟩
/-- a place more -/
theorem Sp.place (h : Sp w B A c o A2 c2 pl) (p : Nat) (hl : pl.length ≤ 2000000) (hB : B ≤ w.heap.size) :
    ∃ g c' w', (Builtin.append_ #[36, 36] 36 #[.slice A2 pl.length c2, .slice (some ⟨w.heap.size, 0, none⟩) 1 1]).run Tryd.prog (w.alloc (.cells #[.int .i64 (p : Nat)] 3)) = .ok (.slice (some ⟨g, 0, none⟩) (pl.length + 1) c') w' ∧ Sp w' B A c o (some ⟨g, 0, none⟩) c' (pl ++ [p]) ∧ Below B w w' := by
  obtain ⟨i, hi, hz, hs, hb⟩ := info_three infoI
  obtain ⟨g, c', w', hr, hb', hat, hg⟩ := run_app_lev (P := Tryd.prog) intLev h.i 36 i _ 8 Tryd.underlying36 hi hz hs hb rfl (by show 0 < 1; decide) (by decide) p trivial (fun b hb => by cases hb) hl hB
  refine ⟨g, c', w', hr, ⟨?_, hb', fun k hk hk2 => ?_⟩, ⟨hg.os, hg.tape, hg.output, hg.size, fun x hx => grown_keep hg (by omega) fun e => by have := (h.ib e).1; omega⟩⟩
  · exact ownsRow_keep h.b fun k hk => grown_keep hg (h.bb hk).2 fun e => h.ap k hk e
  · have e : g = k := Option.some.inj hk2
    subst e
    rcases hat with z | z
    · exact h.ap _ hk z
    · have := (h.bb hk).2; omega
end
theorem wpList_append_str {P : Program} {w w' : World} {ops : Array Oper} {rest : List Oper} {o : Oper} {a : Act} {Q : Exit → Act → World → Prop} (hgd : o.guard = none) (s x : Operand) (T U : TypeId)
    (ho : o.op = .call { callee := .builtin .append, args := #[s, x], argTypes := #[T, U] }) {u v v' : Value} (hs : a.eval s = u) (hx : a.eval x = v)
    (hrun : (Builtin.append_ #[T, U] o.type #[u, v]).run P w = .ok v' w') (h : wpList P ops Q rest (a.put o.dst v') w') : wpList P ops Q (o :: rest) a w :=
  wpList_plain hgd fun _ hK => by
    unfold Oper.wp execOp
    simp only [ho, resolve, invoke, builtin, Sem.run_bind, Sem.run_pure, Result.andThen_ok, List.map_toArray, List.map_cons, List.map_nil, hs, hx, hrun]
    exact hK _ _ h
theorem step_append_str {P : Program} {w w' : World} {ops : Array Oper} {o : Oper} {a : Act} {K : Act → World → Prop} {Q : Exit → Act → World → Prop} {E : Prop} (hgd : o.guard = none) (s x : Operand) (T U : TypeId)
    (ho : o.op = .call { callee := .builtin .append, args := #[s, x], argTypes := #[T, U] }) {u v v' : Value} (hs : a.eval s = u) (hx : a.eval x = v)
    (hrun : (Builtin.append_ #[T, U] o.type #[u, v]).run P w = .ok v' w') (h : K (a.put o.dst v') w') : if Region.wanted o (yielded ops a.tmps) = true then Oper.wp P o a w K Q else E := by
  have hw : Region.wanted o (yielded ops a.tmps) = true := by simp [Region.wanted, hgd]
  rw [if_pos hw]
  unfold Oper.wp execOp
  simp only [ho, resolve, invoke, builtin, Sem.run_bind, Sem.run_pure, Result.andThen_ok, List.map_toArray, List.map_cons, List.map_nil, hs, hx, hrun]
  exact h
end Go.Proofs.YtbngelinfpaefaaDoor
