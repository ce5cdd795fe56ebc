/- Trees with a mark behind every list, out of sight; trees whose places are moved. No walk here. -/
import Derived.Test.YtdkcnepjjinpdaaDoorPrBu
import Derived.Test.YtdkcnepjjinpdaaDoorPrSame
namespace Go.Proofs.YtdkcnepjjinpdaaDoor
open Go.RowKit

/-! ### the marks -/
def mkN : Rn := ⟨77, 0, 0, [], 0⟩
def mkS : Ms := ⟨⟨77, [], [], [], [], [], [], 0⟩, none, 0⟩
def mkV : Mv := ⟨77, [], none, 0, 0⟩
def mkE : Me := ⟨[109, 97, 114, 107], [], none, 0, 0⟩

/-! ### moved -/
def shN (d : Int) (x : Rn) : Rn := ⟨x.op, x.n, x.num, x.t, wrap64 (x.a + d)⟩
structure ShS (d : Int) (x y : Ms) : Prop where
  s : y.s = ⟨x.s.kind, x.s.a, x.s.b, x.s.c, x.s.sep, x.s.ty, x.s.v.map (shN d), wrap64 (x.s.p + d)⟩
structure ShV (d : Int) (x y : Mv) : Prop where
  num : y.num = x.num
  p : y.p = wrap64 (x.p + d)
  st : Rel2 (ShS d) x.st y.st
structure ShE (d : Int) (x y : Me) : Prop where
  name : y.name = x.name
  p : y.p = wrap64 (x.p + d)
  vs : Rel2 (ShV d) x.vs y.vs
theorem shN_eq (d : Int) : ∀ l : List Rn, Rel2 EqN (l.map (shN d)) l
  | [] => .nil
  | _ :: r => .cons ⟨rfl, rfl, rfl, rfl⟩ (shN_eq d r)
theorem shN_eq' (d : Int) : ∀ l : List Rn, Rel2 EqN l (l.map (shN d))
  | [] => .nil
  | _ :: r => .cons ⟨rfl, rfl, rfl, rfl⟩ (shN_eq' d r)
theorem Rel2.flip {α β : Type} {r : α → β → Prop} {q : β → α → Prop} {l : List α} {m : List β} (h : Rel2 r l m) (k : ∀ x y, r x y → q y x) : Rel2 q m l := by
  induction h with
  | nil => exact .nil
  | cons h _ ih => exact .cons (k _ _ h) ih
theorem Rel2.weak {α β : Type} {r q : α → β → Prop} {l : List α} {m : List β} (h : Rel2 r l m) (k : ∀ x y, r x y → q x y) : Rel2 q l m := h.imp fun x _ y _ => k x y
theorem ShS.eq {d : Int} {x y : Ms} (h : ShS d x y) : EqS x.s y.s := by
  rw [h.s]; exact ⟨rfl, rfl, rfl, rfl, rfl, rfl, shN_eq' d _⟩
theorem ShS.qe {d : Int} {x y : Ms} (h : ShS d x y) : EqS y.s x.s := by
  rw [h.s]; exact ⟨rfl, rfl, rfl, rfl, rfl, rfl, shN_eq d _⟩
theorem ShV.eq {d : Int} {x y : Mv} (h : ShV d x y) : EqV x.v y.v := ⟨h.num, (h.st.weak fun _ _ k => k.eq).onmap⟩
theorem ShV.qe {d : Int} {x y : Mv} (h : ShV d x y) : EqV y.v x.v := ⟨h.num.symm, (h.st.flip (q := fun a b => EqS a.s b.s) fun _ _ k => k.qe).onmap⟩
theorem ShE.eq {d : Int} {x y : Me} (h : ShE d x y) : EqE x.e y.e := ⟨h.name, (h.vs.weak fun _ _ k => k.eq).onmap⟩
theorem ShE.qe {d : Int} {x y : Me} (h : ShE d x y) : EqE y.e x.e := ⟨h.name.symm, (h.vs.flip (q := fun a b => EqV a.v b.v) fun _ _ k => k.qe).onmap⟩

/-! ### how a marked tree is read -/
structure KsAt (w : World) (B : Nat) (m : Ms) : Prop where
  rn : RN w B m.A (m.s.v ++ [mkN])
  lt : Lts m.s
  cap : m.s.v.length + 1 ≤ m.c
structure KvAt (w : World) (B : Nat) (m : Mv) : Prop where
  row : Rows Ms.C 8 w B m.A (m.st ++ [mkS])
  each : ∀ x ∈ m.st, KsAt w B x
  num : m.num < 18446744073709551616
  len : m.st.length ≤ 65536
  cap : m.st.length + 1 ≤ m.c
structure KeAt (w : World) (B : Nat) (m : Me) : Prop where
  row : Rows Mv.C 3 w B m.A (m.vs ++ [mkV])
  each : ∀ x ∈ m.vs, KvAt w B x
  name : m.name.length ≤ 140737488355328
  len : m.vs.length ≤ 65536
  cap : m.vs.length + 1 ≤ m.c
structure KtAt (w : World) (B : Nat) (A : Option Addr) (c : Nat) (l : List Me) : Prop where
  row : Rows Me.C 3 w B A (l ++ [mkE])
  each : ∀ x ∈ l, KeAt w B x
  len : l.length ≤ 65536
  cap : l.length + 1 ≤ c
theorem Rows.front {α : Type} {f : α → Array Value} {s : Nat} {w : World} {B : Nat} {A : Option Addr} {l r : List α} (h : Rows f s w B A (l ++ r)) : Rows f s w B A l := by
  rcases h with h | ⟨b, o, rfl, hb, hc⟩
  · exact .inl (List.append_eq_nil_iff.1 h).1
  · exact .inr ⟨b, o, rfl, hb, fun i x hx => hc i x (by rw [List.getElem?_append_left (List.getElem?_eq_some_iff.1 hx).1]; exact hx)⟩
section
variable {w w' : World} {B B' : Nat}
theorem KsAt.ms {m : Ms} (h : KsAt w B m) : MsAt w B m := ⟨h.rn.front, h.lt⟩
theorem KvAt.mv {m : Mv} (h : KvAt w B m) : MvAt w B m := ⟨h.row.front, fun x hx => (h.each x hx).ms, h.num, Nat.le_trans h.len (by decide)⟩
theorem KeAt.me {m : Me} (h : KeAt w B m) : MeAt w B m := ⟨h.row.front, fun x hx => (h.each x hx).mv, h.name, Nat.le_trans h.len (by decide)⟩
theorem KtAt.mt {A : Option Addr} {c : Nat} {l : List Me} (h : KtAt w B A c l) : MtAt w B A l := ⟨h.row.front, fun x hx => (h.each x hx).me, Nat.le_trans h.len (by decide)⟩
theorem KsAt.below {m : Ms} (h : KsAt w B m) (hb : Below B w w') : KsAt w' B m := ⟨h.rn.below hb, h.lt, h.cap⟩
theorem KvAt.below {m : Mv} (h : KvAt w B m) (hb : Below B w w') : KvAt w' B m := ⟨h.row.below hb, fun x hx => (h.each x hx).below hb, h.num, h.len, h.cap⟩
theorem KeAt.below {m : Me} (h : KeAt w B m) (hb : Below B w w') : KeAt w' B m := ⟨h.row.below hb, fun x hx => (h.each x hx).below hb, h.name, h.len, h.cap⟩
theorem KtAt.below {A : Option Addr} {c : Nat} {l : List Me} (h : KtAt w B A c l) (hb : Below B w w') : KtAt w' B A c l := ⟨h.row.below hb, fun x hx => (h.each x hx).below hb, h.len, h.cap⟩
theorem KsAt.more {m : Ms} (h : KsAt w B m) (hB : B ≤ B') : KsAt w B' m := ⟨h.rn.more hB, h.lt, h.cap⟩
theorem KvAt.more {m : Mv} (h : KvAt w B m) (hB : B ≤ B') : KvAt w B' m := ⟨h.row.more hB, fun x hx => (h.each x hx).more hB, h.num, h.len, h.cap⟩
theorem KeAt.more {m : Me} (h : KeAt w B m) (hB : B ≤ B') : KeAt w B' m := ⟨h.row.more hB, fun x hx => (h.each x hx).more hB, h.name, h.len, h.cap⟩
theorem KtAt.more {A : Option Addr} {c : Nat} {l : List Me} (h : KtAt w B A c l) (hB : B ≤ B') : KtAt w B' A c l := ⟨h.row.more hB, fun x hx => (h.each x hx).more hB, h.len, h.cap⟩
end

/-! ### how it is built -/
def LvS : Lev Ms := ⟨54, 8, Ms.C, fun w B x => x = mkS ∨ (OwnRn w B x.A x.c (x.s.v ++ [mkN]) ∧ Lts x.s), fun x => (obk x.A).toList⟩
theorem lvS : LvS.Ok where
  size := fun _ => rfl
  one := fun x u hu => by
    have hu2 : u ∈ x.C.toList := hu
    simp only [Ms.C, List.mem_cons, List.not_mem_nil, or_false] at hu2
    rcases hu2 with rfl | rfl | rfl | rfl | rfl | rfl | rfl | rfl <;> rfl
  keep := fun {w w' B x} h hk => by
    rcases h with h | ⟨h, hl⟩
    · exact .inl h
    · exact .inr ⟨ownsRow_keep h fun b hb => hk b (by show b ∈ (obk x.A).toList; rw [hb]; simp), hl⟩
  low := fun h hB => by
    rcases h with h | ⟨h, hl⟩
    · exact .inl h
    · exact .inr ⟨ownsRow_low h hB, hl⟩
  bd := fun {w B x} h b hb => by
    have hb2 : b ∈ (obk x.A).toList := hb
    rcases h with rfl | ⟨h, hl⟩
    · cases hb2
    · exact World.ownsRow.lt h b (by rw [obk_own]; simpa using hb2)
  nd := fun {w B x} _ => by
    show ((obk x.A).toList).Nodup
    cases obk x.A <;> simp
def LvV : Lev Mv := ⟨52, 3, Mv.C, fun w B x => x = mkV ∨ (Built LvS w B x.A x.c (x.st ++ [mkS]) ∧ mkS ∉ x.st ∧ x.num < 18446744073709551616 ∧ x.st.length ≤ 65536), fun x => LvS.bls x.A x.st⟩
theorem bls_snoc {α : Type} {L : Lev α} {A : Option Addr} {l : List α} {x : α} (h : L.bl x = []) : L.bls A (l ++ [x]) = L.bls A l := by
  unfold Lev.bls
  rw [List.flatMap_append]
  simp [h]
theorem lvV : LvV.Ok where
  size := fun _ => rfl
  one := fun x u hu => by
    have hu2 : u ∈ x.C.toList := hu
    simp only [Mv.C, List.mem_cons, List.not_mem_nil, or_false] at hu2
    rcases hu2 with rfl | rfl | rfl <;> rfl
  keep := fun {w w' B x} h hk => by
    rcases h with h | ⟨h, hl⟩
    · exact .inl h
    · exact .inr ⟨Built.keep lvS h (by rw [bls_snoc rfl]; exact hk), hl⟩
  low := fun h hB => by
    rcases h with h | ⟨h, hl⟩
    · exact .inl h
    · exact .inr ⟨Built.low lvS h hB, hl⟩
  bd := fun {w B x} h b hb => by
    rcases h with rfl | ⟨h, hl⟩
    · cases hb
    · exact Built.bd lvS h b (by rw [bls_snoc rfl]; exact hb)
  nd := fun {w B x} h => by
    rcases h with rfl | ⟨h, hl⟩
    · exact .nil
    · have := h.nd; rw [bls_snoc rfl] at this; exact this
def LvE : Lev Me := ⟨49, 3, Me.C, fun w B x => x = mkE ∨ (Built LvV w B x.A x.c (x.vs ++ [mkV]) ∧ mkV ∉ x.vs ∧ x.name.length ≤ 140737488355328 ∧ x.vs.length ≤ 65536), fun x => LvV.bls x.A x.vs⟩
theorem lvE : LvE.Ok where
  size := fun _ => rfl
  one := fun x u hu => by
    have hu2 : u ∈ x.C.toList := hu
    simp only [Me.C, List.mem_cons, List.not_mem_nil, or_false] at hu2
    rcases hu2 with rfl | rfl | rfl <;> rfl
  keep := fun {w w' B x} h hk => by
    rcases h with h | ⟨h, hl⟩
    · exact .inl h
    · exact .inr ⟨Built.keep lvV h (by rw [bls_snoc rfl]; exact hk), hl⟩
  low := fun h hB => by
    rcases h with h | ⟨h, hl⟩
    · exact .inl h
    · exact .inr ⟨Built.low lvV h hB, hl⟩
  bd := fun {w B x} h b hb => by
    rcases h with rfl | ⟨h, hl⟩
    · cases hb
    · exact Built.bd lvV h b (by rw [bls_snoc rfl]; exact hb)
  nd := fun {w B x} h => by
    rcases h with rfl | ⟨h, hl⟩
    · exact .nil
    · have := h.nd; rw [bls_snoc rfl] at this; exact this

/-! ### what is built is read -/
theorem ownsRow_cap {w : World} {B : Nat} {e : TypeId} {s : Nat} {A : Option Addr} {m c n : Nat} {xs : List Value} (h : w.ownsRow B e s (.slice A m c) n xs) (hn : 0 < n) : n ≤ c ∧ ∃ g, A = some ⟨g, 0, none⟩ := by
  rcases h.2 with ⟨_, h0⟩ | ⟨g, cap, cur, hv, hg, hc, h1, h2, h3, h4⟩
  · omega
  · injection hv with e1 e2 e3
    exact ⟨by omega, g, e1⟩
theorem Built.rows {α : Type} {L : Lev α} (O : L.Ok) {w : World} {B c : Nat} {A : Option Addr} {l : List α} (h : Built L w B A c l) : Rows L.f L.s w w.heap.size A l := by
  rcases h.own.2 with ⟨hv, h0⟩ | ⟨g, cap, cur, hv, hg, hc, rest⟩
  · exact .inl (List.length_eq_zero_iff.1 h0)
  · have ho := h.own
    injection hv with e1 e2 e3
    subst e1
    refine .inr ⟨g, 0, rfl, (Array.getElem?_eq_some_iff.1 hc).1, fun i x hx j v hv => ?_⟩
    have hj : j < L.s := by rw [← O.size x]; exact (Array.getElem?_eq_some_iff.1 hv).1
    have hf := flatR_at O.size l i x hx j hj
    rw [hv] at hf
    have := World.ownsRow.cells ho (g := g) rfl (i * L.s + j) _ hf
    rw [Addr.add_lit, Nat.zero_add] at this
    rw [Nat.zero_add]
    exact this
theorem Built.some {α : Type} {L : Lev α} {w : World} {B c : Nat} {A : Option Addr} {l : List α} (h : Built L w B A c l) (h0 : 0 < l.length) : l.length ≤ c ∧ ∃ g, A = some ⟨g, 0, none⟩ := ownsRow_cap h.own h0
theorem ks_of {w : World} {B : Nat} {x : Ms} (h : LvS.H w B x) (hx : x ≠ mkS) : KsAt w w.heap.size x := by
  rcases h with h | ⟨h, hl⟩
  · exact absurd h hx
  · have hc := ownsRow_cap h (by simp)
    rw [List.length_append] at hc
    exact ⟨h.rn, hl, hc.1⟩
theorem kv_of {w : World} {B : Nat} {x : Mv} (h : LvV.H w B x) (hx : x ≠ mkV) : KvAt w w.heap.size x := by
  rcases h with h | ⟨h, hn, hu, hl⟩
  · exact absurd h hx
  · have hc := h.some (by simp)
    rw [List.length_append] at hc
    exact ⟨h.rows lvS, fun y hy => ks_of (h.each y (List.mem_append_left _ hy)) fun e => hn (e ▸ hy), hu, hl, hc.1⟩
theorem ke_of {w : World} {B : Nat} {x : Me} (h : LvE.H w B x) (hx : x ≠ mkE) : KeAt w w.heap.size x := by
  rcases h with h | ⟨h, hn, hu, hl⟩
  · exact absurd h hx
  · have hc := h.some (by simp)
    rw [List.length_append] at hc
    exact ⟨h.rows lvV, fun y hy => kv_of (h.each y (List.mem_append_left _ hy)) fun e => hn (e ▸ hy), hu, hl, hc.1⟩
theorem kt_of {w : World} {B c : Nat} {A : Option Addr} {l : List Me} (h : Built LvE w B A c (l ++ [mkE])) (hn : mkE ∉ l) (hl : l.length ≤ 65536) : KtAt w w.heap.size A c l := by
  have hc := h.some (by simp)
  rw [List.length_append] at hc
  exact ⟨h.rows lvE, fun y hy => ke_of (h.each y (List.mem_append_left _ hy)) fun e => hn (e ▸ hy), hl, hc.1⟩

theorem few_sh {d : Int} {v : List Rn} (h : Few v) : Few (v.map (shN d)) := ⟨by rw [List.length_map]; exact h.few, fun x hx => by
    obtain ⟨y, hy, rfl⟩ := List.mem_map.1 hx
    exact h.n y hy, fun x hx => by
    obtain ⟨y, hy, rfl⟩ := List.mem_map.1 hx
    exact h.num y hy⟩
theorem take_more {α : Type} {l : List α} {k : Nat} {x : α} (h : l[k]? = some x) : l.take (k + 1) = l.take k ++ [x] := by
  obtain ⟨hk, e⟩ := List.getElem?_eq_some_iff.1 h
  rw [List.take_add_one, h]
  rfl
/-! ### one more -/
theorem OwnRn.alloc {w : World} {B c : Nat} {A : Option Addr} {l : List Rn} (h : OwnRn w B A c l) (o : Obj) : OwnRn (w.alloc o) B A c l := World.ownsRow.alloc h o
theorem app_nd {w : World} {B c n : Nat} {A : Option Addr} {l : List Rn} (h : OwnRn w B A c l) (hn : l.length = n) (x : Rn) (hl : n ≤ 70000) (hB : B ≤ w.heap.size) :
    ∃ g c' w', (Builtin.append_ #[22, 22] 22 #[.slice A n c, .slice (some ⟨w.heap.size, 0, none⟩) 1 1]).run Tryd.prog (w.alloc (.cells (rnC x) 38)) = .ok (.slice (some ⟨g, 0, none⟩) (n + 1) c') w' ∧
      OwnRn w' B (some ⟨g, 0, none⟩) c' (l ++ [x]) ∧ Below B w w' ∧ n + 1 ≤ c' := by
  subst hn
  have hr : RN (w.alloc (.cells (rnC x) 38)) (w.heap.size + 1) (some ⟨w.heap.size, 0, none⟩) [x] := .inr ⟨w.heap.size, 0, rfl, by omega, fun i y hy j v hv => by
    rcases i with _ | i
    · cases hy
      have := cell_of_row _ w.heap.size j (rnC x) 38 (0, 0) (heap_alloc_new w (.cells (rnC x) 38))
      rw [hv] at this
      simpa using this
    · simp at hy⟩
  obtain ⟨g, c', w', h1, h2, h3, h4⟩ := run_app_rn (cS := 1) (h.alloc (.cells (rnC x) 38)) hr (by simp) (by simp; omega) (by simp; omega)
  have hc := (ownsRow_cap h2 (by simp)).1
  rw [List.length_append] at hc
  exact ⟨g, c', w', h1, h2, ((Below.refl _ w).alloc hB _).trans h4, hc⟩
theorem lev_below {α : Type} {L : Lev α} (O : L.Ok) {w w' : World} {B c : Nat} {A : Option Addr} {l : List α} (h : Built L w B A c l) (hg : w.grownBy w' (obk A)) (hB : B ≤ w.heap.size) : Below B w w' :=
  ⟨hg.os, hg.tape, hg.output, hg.size, fun k hk => grown_keep hg (by omega) fun e => by have := (h.bd O k (mem_bls.2 (.inl e))).1; omega⟩
theorem infoMs : (Tryd.prog.info? 54).map (fun i => (i.zero, i.size, i.bytes)) = some (some (.agg #[.int .i64 0, .string ⟨#[]⟩, .string ⟨#[]⟩, .string ⟨#[]⟩, .string ⟨#[]⟩, .string ⟨#[]⟩, .slice none 0 0, .int .i64 0]), 8, 120) := by kernel_rfl
theorem infoMv : (Tryd.prog.info? 52).map (fun i => (i.zero, i.size, i.bytes)) = some (some (.agg #[.int .u64 0, .slice none 0 0, .int .i64 0]), 3, 40) := by kernel_rfl
theorem infoMe : (Tryd.prog.info? 49).map (fun i => (i.zero, i.size, i.bytes)) = some (some (.agg #[.string ⟨#[]⟩, .slice none 0 0, .int .i64 0]), 3, 48) := by kernel_rfl
theorem app_ms {w : World} {B c n : Nat} {A : Option Addr} {l : List Ms} (h : Built LvS w B A c l) (hn : l.length = n) (x : Ms) (hx : LvS.H w B x) (hd : ∀ b ∈ LvS.bl x, b ∉ LvS.bls A l) (hl : n ≤ 70000) (hB : B ≤ w.heap.size) :
    ∃ g c' w', (Builtin.append_ #[50, 50] 50 #[.slice A n c, .slice (some ⟨w.heap.size, 0, none⟩) 1 1]).run Tryd.prog (w.alloc (.cells x.C 54)) = .ok (.slice (some ⟨g, 0, none⟩) (n + 1) c') w' ∧
      Built LvS w' B (some ⟨g, 0, none⟩) c' (l ++ [x]) ∧ Below B w w' ∧ n + 1 ≤ c' ∧ ∀ b, b < w.heap.size → obk A ≠ some b → w'.heap[b]? = w.heap[b]? := by
  subst hn
  obtain ⟨i, hi, hz, hs, hb⟩ := info_three infoMs
  obtain ⟨g, c', w', h1, h2, _, h4⟩ := run_app_lev lvS h 50 i _ 120 Tryd.underlying50 hi hz hs hb rfl (by decide) (by decide) x hx hd (by omega) hB
  have hc := (h2.some (by simp)).1
  rw [List.length_append] at hc
  exact ⟨g, c', w', h1, h2, lev_below lvS h h4 hB, hc, fun b hb hne => grown_keep h4 hb hne⟩
theorem app_mv {w : World} {B c n : Nat} {A : Option Addr} {l : List Mv} (h : Built LvV w B A c l) (hn : l.length = n) (x : Mv) (hx : LvV.H w B x) (hd : ∀ b ∈ LvV.bl x, b ∉ LvV.bls A l) (hl : n ≤ 70000) (hB : B ≤ w.heap.size) :
    ∃ g c' w', (Builtin.append_ #[47, 47] 47 #[.slice A n c, .slice (some ⟨w.heap.size, 0, none⟩) 1 1]).run Tryd.prog (w.alloc (.cells x.C 52)) = .ok (.slice (some ⟨g, 0, none⟩) (n + 1) c') w' ∧
      Built LvV w' B (some ⟨g, 0, none⟩) c' (l ++ [x]) ∧ Below B w w' ∧ n + 1 ≤ c' ∧ ∀ b, b < w.heap.size → obk A ≠ some b → w'.heap[b]? = w.heap[b]? := by
  subst hn
  obtain ⟨i, hi, hz, hs, hb⟩ := info_three infoMv
  obtain ⟨g, c', w', h1, h2, _, h4⟩ := run_app_lev lvV h 47 i _ 40 Tryd.underlying47 hi hz hs hb rfl (by decide) (by decide) x hx hd (by omega) hB
  have hc := (h2.some (by simp)).1
  rw [List.length_append] at hc
  exact ⟨g, c', w', h1, h2, lev_below lvV h h4 hB, hc, fun b hb hne => grown_keep h4 hb hne⟩
theorem app_me {w : World} {B c n : Nat} {A : Option Addr} {l : List Me} (h : Built LvE w B A c l) (hn : l.length = n) (x : Me) (hx : LvE.H w B x) (hd : ∀ b ∈ LvE.bl x, b ∉ LvE.bls A l) (hl : n ≤ 70000) (hB : B ≤ w.heap.size) :
    ∃ g c' w', (Builtin.append_ #[28, 28] 28 #[.slice A n c, .slice (some ⟨w.heap.size, 0, none⟩) 1 1]).run Tryd.prog (w.alloc (.cells x.C 49)) = .ok (.slice (some ⟨g, 0, none⟩) (n + 1) c') w' ∧
      Built LvE w' B (some ⟨g, 0, none⟩) c' (l ++ [x]) ∧ Below B w w' ∧ n + 1 ≤ c' ∧ ∀ b, b < w.heap.size → obk A ≠ some b → w'.heap[b]? = w.heap[b]? := by
  subst hn
  obtain ⟨i, hi, hz, hs, hb⟩ := info_three infoMe
  obtain ⟨g, c', w', h1, h2, _, h4⟩ := run_app_lev lvE h 28 i _ 48 Tryd.underlying28 hi hz hs hb rfl (by decide) (by decide) x hx hd (by omega) hB
  have hc := (h2.some (by simp)).1
  rw [List.length_append] at hc
  exact ⟨g, c', w', h1, h2, lev_below lvE h h4 hB, hc, fun b hb hne => grown_keep h4 hb hne⟩
end Go.Proofs.YtdkcnepjjinpdaaDoor
