/- Two results of a function. No walk here. -/
import Derived.Test.YtipcgmaobiobbaaGreatDoorProg
import Derived.Test.YtipcgmaobiobbaaGreatDoorPrPure
import Derived.Test.YtipcgmaobiobbaaGreatDoorParGb
import Derived.Test.YtipcgmaobiobbaaGreatDoorShelf
import Derived.WalkKit
import Derived.BigCall
import Derived.BigGuard
import Derived.Deep.AppendLies
import Derived.BigQuiet
namespace Go.Proofs.YtipcgmaobiobbaaGreatDoor
open Go.RowKit

theorem results_2 {fn : Func} {t q : Tmp} (h : fn.results = #[.tmp t, .tmp q]) (tmps : Array Value) (w : World) (u v : Value)
    (hu : tmps.getD t undef = u) (hv : tmps.getD q undef = v) : (results fn tmps).run Tryz.prog w = .ok (.tuple #[u, v]) w := by
  unfold results
  rw [h]
  have hu' : tmps[t]?.getD undef = u := by simpa [Array.getD_eq_getD_getElem?] using hu
  have hv' : tmps[q]?.getD undef = v := by simpa [Array.getD_eq_getD_getElem?] using hv
  simp [hu', hv']
end Go.Proofs.YtipcgmaobiobbaaGreatDoor
/- Raw nodes in memory; what an expression is held in. No walk here. -/
namespace Go.Proofs.YtipcgmaobiobbaaGreatDoor
open Go.RowKit

/-- rows of structs below block B -/
def Rows {α : Type} (f : α → Array Value) (s : Nat) (w : World) (B : Nat) (A : Option Addr) (l : List α) : Prop :=
  l = [] ∨ ∃ b o, A = some ⟨b, o, none⟩ ∧ b < B ∧ ∀ i x, l[i]? = some x → ∀ j v, (f x)[j]? = some v → w.cell? ⟨b, o + i * s + j, none⟩ = some v
section
variable {α : Type} {f : α → Array Value} {s : Nat} {w w' : World} {B B' : Nat} {A : Option Addr} {l : List α}
theorem Rows.below (h : Rows f s w B A l) (hb : Below B w w') : Rows f s w' B A l := by
  rcases h with h | ⟨b, o, rfl, hB, hc⟩
  · exact .inl h
  · exact .inr ⟨b, o, rfl, hB, fun i x hx j v hv => (hb.cell (p := ⟨b, o + i * s + j, none⟩) hB).trans (hc i x hx j v hv)⟩
theorem Rows.more (h : Rows f s w B A l) (hB : B ≤ B') : Rows f s w B' A l := by
  rcases h with h | ⟨b, o, rfl, hb, hc⟩
  · exact .inl h
  · exact .inr ⟨b, o, rfl, by omega, hc⟩
theorem Rows.at_ (h : Rows f s w B A l) {i : Nat} {x : α} (hx : l[i]? = some x) : ∃ b o, A = some ⟨b, o, none⟩ ∧ b < B ∧ ∀ j v, (f x)[j]? = some v → w.cell? ⟨b, o + i * s + j, none⟩ = some v := by
  rcases h with rfl | ⟨b, o, rfl, hb, hc⟩
  · simp at hx
  · exact ⟨b, o, rfl, hb, fun j v hv => hc i x hx j v hv⟩
end
def rnC (x : Rn) : Array Value := #[.int .i64 x.op, .int .i64 x.n, .int .u64 (x.num : Nat), .string (str x.t), .int .i64 x.a]
/-- raw nodes below block B -/
abbrev RN (w : World) (B : Nat) (A : Option Addr) (N : List Rn) : Prop := Rows rnC 5 w B A N
theorem RN.cells {w : World} {B : Nat} {A : Option Addr} {N : List Rn} (h : RN w B A N) {i : Nat} {x : Rn} (hx : N[i]? = some x) : ∃ b o, A = some ⟨b, o, none⟩ ∧ b < B ∧
    w.cell? ⟨b, o + i * 5, none⟩ = some (.int .i64 x.op) ∧ w.cell? ⟨b, o + i * 5 + 1, none⟩ = some (.int .i64 x.n) ∧ w.cell? ⟨b, o + i * 5 + 2, none⟩ = some (.int .u64 (x.num : Nat)) ∧ w.cell? ⟨b, o + i * 5 + 3, none⟩ = some (.string (str x.t)) ∧ w.cell? ⟨b, o + i * 5 + 4, none⟩ = some (.int .i64 x.a) := by
  obtain ⟨b, o, rfl, hb, hc⟩ := h.at_ hx
  exact ⟨b, o, rfl, hb, hc 0 _ rfl, hc 1 _ rfl, hc 2 _ rfl, hc 3 _ rfl, hc 4 _ rfl⟩
/-- a block that is a row of numbers, made whole -/
def nums (l : List Nat) : Array Value := (l.map fun n => Value.int .i64 (n : Nat)).toArray
theorem nums_size (l : List Nat) : (nums l).size = l.length := by simp [nums]
theorem nums_at {w : World} {b : Nat} {l : List Nat} (h : CB w b 3 (nums l)) {i : Nat} (hi : i < l.length) : w.cell? ⟨b, i, none⟩ = some (.int .i64 ((l[i] : Nat) : Int)) := by
  rw [h.at_]
  simp [nums, hi]
theorem nums_set (l : List Nat) (i v : Nat) : (nums l).setIfInBounds i (.int .i64 (v : Nat)) = nums (l.set i v) := by
  simp [nums, List.map_set]
/-- an expression's block: its nodes, where each subtree begins, how deep it is -/
structure Xb (w : World) (x f d : Nat) (A : Option Addr) (c : Nat) (N : List Rn) (F D : List Nat) : Prop where
  cb : CB w x 119 #[.slice A N.length c, .slice (some ⟨f, 0, none⟩) N.length N.length, .slice (some ⟨d, 0, none⟩) N.length N.length]
  fb : CB w f 3 (nums F)
  db : CB w d 3 (nums D)
  fl : F.length = N.length
  dl : D.length = N.length
  ne : f ≠ d
section
variable {w w' : World} {x f d : Nat} {A : Option Addr} {c : Nat} {N : List Rn} {F D : List Nat}
theorem Xb.keep (h : Xb w x f d A c N F D) (h1 : w'.heap[x]? = w.heap[x]?) (h2 : w'.heap[f]? = w.heap[f]?) (h3 : w'.heap[d]? = w.heap[d]?) : Xb w' x f d A c N F D :=
  ⟨h.cb.keep h1, h.fb.keep h2, h.db.keep h3, h.fl, h.dl, h.ne⟩
theorem Xb.below (h : Xb w x f d A c N F D) (hb : Below w.heap.size w w') : Xb w' x f d A c N F D := h.keep (hb.block x h.cb.len) (hb.block f h.fb.len) (hb.block d h.db.len)
theorem Xb.xf (h : Xb w x f d A c N F D) : x ≠ f ∧ x ≠ d := by
  constructor
  · intro e
    have h1 := h.cb
    have h2 := h.fb
    subst e
    unfold CB at h1 h2
    rw [h1] at h2
    injection Option.some.inj h2 with _ e2 _
    exact absurd e2 (by decide)
  · intro e
    have h1 := h.cb
    have h2 := h.db
    subst e
    unfold CB at h1 h2
    rw [h1] at h2
    injection Option.some.inj h2 with _ e2 _
    exact absurd e2 (by decide)
end
/-- what is known of the subtrees so far: of each of the first i -/
def Known (N : List Rn) (F D : List Nat) (i : Nat) : Prop := ∀ j, j < i → ∃ e, peAt N j e ∧ F[j]? = some e.fi ∧ D[j]? = some e.dp
theorem Known.at_ {N : List Rn} {F D : List Nat} {i j : Nat} {e : Pe} (h : Known N F D i) (hj : j < i) (he : peAt N j e) : F[j]? = some e.fi ∧ D[j]? = some e.dp := by
  obtain ⟨e', h1, h2⟩ := h j hj
  obtain rfl := peAt_one he h1
  exact h2
end Go.Proofs.YtipcgmaobiobbaaGreatDoor
/- Rows of subtrees: in a block, of the call's own; one more appended. No walk here. -/
namespace Go.Proofs.YtipcgmaobiobbaaGreatDoor
open Go.RowKit

/-- a block with subtrees of x in front: these roots -/
def KR (w : World) (gk x : Nat) (l : List Nat) : Prop := ∃ cur, CB w gk 97 cur ∧ ∀ j (h : j < l.length), cur[j * 2]? = some (.pointer (some ⟨x, 0, none⟩)) ∧ cur[j * 2 + 1]? = some (.int .i64 ((l[j] : Nat) : Int))
section
variable {w w' : World} {gk x : Nat} {l : List Nat}
theorem KR.len (h : KR w gk x l) : gk < w.heap.size := by
  obtain ⟨cur, h, _⟩ := h
  exact h.len
theorem KR.keep (h : KR w gk x l) (hb : w'.heap[gk]? = w.heap[gk]?) : KR w' gk x l := by
  obtain ⟨cur, h, hc⟩ := h
  exact ⟨cur, h.keep hb, hc⟩
theorem KR.at_ (h : KR w gk x l) {j : Nat} (hj : j < l.length) : w.cell? ⟨gk, j * 2, none⟩ = some (.pointer (some ⟨x, 0, none⟩)) ∧ w.cell? ⟨gk, j * 2 + 1, none⟩ = some (.int .i64 ((l[j] : Nat) : Int)) ∧ w.frozen? ⟨gk, j * 2, none⟩ = false ∧ w.frozen? ⟨gk, j * 2 + 1, none⟩ = false := by
  obtain ⟨cur, h, hc⟩ := h
  obtain ⟨h1, h2⟩ := hc j hj
  exact ⟨by rw [h.at_]; exact h1, by rw [h.at_]; exact h2, h.frozen _, h.frozen _⟩
theorem KR.set (h : KR w gk x l) (i v : Nat) (v' : Int) (hv : v' = (v : Nat)) : KR ((w.setCell ⟨gk, i * 2, none⟩ (.pointer (some ⟨x, 0, none⟩))).setCell ⟨gk, i * 2 + 1, none⟩ (.int .i64 v')) gk x (l.set i v) := by
  subst hv
  obtain ⟨cur, h, hc⟩ := h
  have h1 := heap_setCell_same w gk (i * 2) _ _ (.pointer (some ⟨x, 0, none⟩)) h
  have h2 := heap_setCell_same _ gk (i * 2 + 1) _ _ (.int .i64 (v : Nat)) h1
  refine ⟨_, h2, fun j hj => ?_⟩
  rw [List.length_set] at hj
  obtain ⟨k1, k2⟩ := hc j hj
  have s1 := (Array.getElem?_eq_some_iff.1 k1).1
  have s2 := (Array.getElem?_eq_some_iff.1 k2).1
  by_cases hji : j = i
  · subst hji
    refine ⟨?_, ?_⟩
    · rw [Array.getElem?_setIfInBounds_ne (by omega), Array.getElem?_setIfInBounds_self_of_lt s1]
    · rw [Array.getElem?_setIfInBounds_self_of_lt (by rw [Array.size_setIfInBounds]; exact s2), List.getElem_set_self]
  · refine ⟨?_, ?_⟩
    · rw [Array.getElem?_setIfInBounds_ne (by omega), Array.getElem?_setIfInBounds_ne (by omega)]
      exact k1
    · rw [Array.getElem?_setIfInBounds_ne (by omega), Array.getElem?_setIfInBounds_ne (by omega), List.getElem_set_ne (by omega)]
      exact k2
end
def flatK (x : Nat) (l : List Nat) : List Value := flatR (fun r : Nat => #[.pointer (some ⟨x, 0, none⟩), .int .i64 (r : Nat)]) l
def OwnK (w : World) (B : Nat) (A : Option Addr) (c x : Nat) (l : List Nat) : Prop := w.ownsRow B 97 2 (.slice A l.length c) l.length (flatK x l)
theorem infoK : (Tryz.prog.info? 97).map (fun i => (i.zero, i.size, i.bytes)) = some (some (.agg #[.pointer none, .int .i64 0]), 2, 16) := by kernel_rfl
theorem flatK_at (x : Nat) (l : List Nat) (j : Nat) (h : j < l.length) : (flatK x l)[j * 2]? = some (.pointer (some ⟨x, 0, none⟩)) ∧ (flatK x l)[j * 2 + 1]? = some (.int .i64 ((l[j] : Nat) : Int)) := by
  have hx : l[j]? = some l[j] := List.getElem?_eq_getElem h
  have q := flatR_at (f := fun r : Nat => #[Value.pointer (some ⟨x, 0, none⟩), .int .i64 (r : Nat)]) (s := 2) (fun _ => rfl) l j l[j] hx
  exact ⟨q 0 (by decide), q 1 (by decide)⟩
theorem OwnK.kr {w : World} {B c x : Nat} {A : Option Addr} {l : List Nat} (h : OwnK w B A c x l) (h0 : 0 < l.length) : ∃ gk, A = some ⟨gk, 0, none⟩ ∧ B ≤ gk ∧ gk < w.heap.size ∧ KR w gk x l := by
  rcases h.2 with ⟨_, hz⟩ | ⟨g, cap, cur, hv, hg, hc, _, _, hs, ht⟩
  · omega
  · injection hv with e1 e2 e3
    refine ⟨g, e1, hg, (Array.getElem?_eq_some_iff.1 hc).1, cur, hc, fun j hj => ?_⟩
    obtain ⟨k1, k2⟩ := flatK_at x l j hj
    rw [← ht] at k1 k2
    rw [List.getElem?_take] at k1 k2
    split at k1
    · split at k2
      · exact ⟨by rw [← Array.getElem?_toList]; exact k1, by rw [← Array.getElem?_toList]; exact k2⟩
      · cases k2
    · cases k1
theorem OwnK.nil (w : World) (B x : Nat) : OwnK w B none 0 x [] := World.ownsRow_nil w B _ 2
theorem OwnK.keep {w w' : World} {B : Nat} {A : Option Addr} {c x : Nat} {l : List Nat} (h : OwnK w B A c x l) (hk : ∀ b, B ≤ b → b < w.heap.size → w'.heap[b]? = w.heap[b]?) : OwnK w' B A c x l :=
  ownsRow_keep h fun b hb => by
    have := World.ownsRow.lt h b (by rw [obk_own]; exact hb)
    exact hk b this.1 this.2
/-- one more, just laid and appended -/
theorem run_app_sub {w : World} {B : Nat} {A : Option Addr} {c x : Nat} {l : List Nat} (h : OwnK w B A c x l) (r : Nat) (hl : (l.length + 1) * 16 ≤ 140737488355328) (hB : B ≤ w.heap.size) :
    ∃ g c' w', (Builtin.append_ #[92, 92] 92 #[.slice A l.length c, .slice (some ⟨w.heap.size, 0, none⟩) 1 1]).run Tryz.prog (w.alloc (.cells #[.pointer (some ⟨x, 0, none⟩), .int .i64 (r : Nat)] 97)) = .ok (.slice (some ⟨g, 0, none⟩) (l.length + 1) c') w' ∧
      OwnK w' B (some ⟨g, 0, none⟩) c' x (l ++ [r]) ∧ Below B w w' := by
  obtain ⟨i, hi, hz, hs, hby⟩ := info_three infoK
  have ho := h.alloc (.cells #[.pointer (some ⟨x, 0, none⟩), .int .i64 (r : Nat)] 97)
  obtain ⟨g, c', w', hr, hown, hg, hat, hlt⟩ := run_append_lies (P := Tryz.prog) (w.alloc (.cells #[.pointer (some ⟨x, 0, none⟩), .int .i64 (r : Nat)] 97)) 92 92 B 97 i _ 2 16 Tryz.underlying92 hi hz hs hby rfl (by decide) _ l.length (flatK x l) ho ⟨w.heap.size, 0, none⟩ 1 1 [.pointer (some ⟨x, 0, none⟩), .int .i64 (r : Nat)]
    rfl (fun j u hu => by rw [Addr.add_lit, Nat.zero_add, cell_of_row _ w.heap.size _ _ 97 (0, 0) (heap_alloc_new w _), ← Array.getElem?_toList]; exact hu)
    (fun u hu => by simp only [List.mem_cons, List.not_mem_nil, or_false] at hu; rcases hu with rfl | rfl <;> rfl) (by decide) (by simp only [maxLen]; omega) (by omega) (by simp; omega) _ rfl
  refine ⟨g, c', w', hr, ?_, ?_⟩
  · unfold OwnK flatK
    rw [flatR_snoc, List.length_append]
    exact hown
  · have hg2 : w.grownBy w' (Value.slice A l.length c).ownBlock := grown_trans (below_grown ((Below.refl _ w).alloc (Nat.le_refl _) _) _) hg
    exact ⟨hg2.os, hg2.tape, hg2.output, hg2.size, fun k hk => hg2.block k (by omega) fun e => by
      have := (World.ownsRow.lt h k e.symm).1
      omega⟩
end Go.Proofs.YtipcgmaobiobbaaGreatDoor
/- The walk of the code: how many kids a node has. -/
namespace Go.Proofs.YtipcgmaobiobbaaGreatDoor
open Go.RowKit

def KidsAt (x : Rn) (w : World) (e : Ending) (w' : World) : Prop := ∃ (k : Int) (b : Bool), e = .returned (.tuple #[.int .i64 k, .bool b]) ∧ Below w.heap.size w w' ∧ (b = true → ∃ n : Nat, k = n ∧ arity x = some n) ∧ (b = false → arity x = none)
set_option maxRecDepth 100000 in
set_option maxHeartbeats 4000000 in
theorem kids1_any (w : World) (n : Int) (num : Nat) (t : List UInt8) (a : Int) : Calls Tryz.prog 67 #[.agg #[.int .i64 1, .int .i64 n, .int .u64 (num : Nat), .string (str t), .int .i64 a]] w (KidsAt ⟨1, n, num, t, a⟩ w) := by
  obtain ⟨S, hS⟩ : ∃ S, str t = S := ⟨_, rfl⟩
  rw [hS]
  obtain ⟨w1, hw1⟩ : ∃ w1, w.alloc (.cells #[.int .i64 1, .int .i64 n, .int .u64 (num : Nat), .string S, .int .i64 a] 64) = w1 := ⟨_, rfl⟩
  have b1 : Below w.heap.size w w1 := by rw [← hw1]; exact (Below.refl _ w).alloc (Nat.le_refl _) _
  have k1 : CB w1 w.heap.size 64 #[.int .i64 1, .int .i64 n, .int .u64 (num : Nat), .string S, .int .i64 a] := by rw [← hw1]; exact CB.new w _ _
  have s1 : w1.heap.size = w.heap.size + 1 := by rw [← hw1]; simp
  have c0 : w1.cell? ⟨w.heap.size, 0, none⟩ = some (.int .i64 1) := k1.at_ 0
  have c1 : w1.cell? ⟨w.heap.size, 1, none⟩ = some (.int .i64 n) := k1.at_ 1
  have c2 : w1.cell? ⟨w.heap.size, 2, none⟩ = some (.int .u64 (num : Nat)) := k1.at_ 2
  have c3 : w1.cell? ⟨w.heap.size, 3, none⟩ = some (.string S) := k1.at_ 3
  have c4 : w1.cell? ⟨w.heap.size, 4, none⟩ = some (.int .i64 a) := k1.at_ 4
  obtain ⟨w2, hw2⟩ : ∃ w2, w1.alloc (.cells #[.int .i64 1, .int .i64 0, .int .u64 (num : Nat), .string ⟨#[]⟩, .int .i64 a] 64) = w2 := ⟨_, rfl⟩
  have b2 : Below w.heap.size w w2 := by rw [← hw2]; exact b1.trans ((Below.refl _ w1).alloc (by omega) _)
  have k2 : CB w2 w.heap.size 64 #[.int .i64 1, .int .i64 n, .int .u64 (num : Nat), .string S, .int .i64 a] := by rw [← hw2]; exact k1.below ((Below.refl _ w1).alloc (Nat.le_refl _) _)
  have u2 : CB w2 (w.heap.size + 1) 64 #[.int .i64 1, .int .i64 0, .int .u64 (num : Nat), .string ⟨#[]⟩, .int .i64 a] := by rw [← s1, ← hw2]; exact CB.new w1 _ _
  have d0 : w2.cell? ⟨w.heap.size, 0, none⟩ = some (.int .i64 1) := k2.at_ 0
  have d1 : w2.cell? ⟨w.heap.size, 1, none⟩ = some (.int .i64 n) := k2.at_ 1
  have d2 : w2.cell? ⟨w.heap.size, 2, none⟩ = some (.int .u64 (num : Nat)) := k2.at_ 2
  have d3 : w2.cell? ⟨w.heap.size, 3, none⟩ = some (.string S) := k2.at_ 3
  have d4 : w2.cell? ⟨w.heap.size, 4, none⟩ = some (.int .i64 a) := k2.at_ 4
  have g0 : w2.cell? ⟨w.heap.size + 1, 0, none⟩ = some (.int .i64 1) := u2.at_ 0
  have g1 : w2.cell? ⟨w.heap.size + 1, 1, none⟩ = some (.int .i64 0) := u2.at_ 1
  have g2 : w2.cell? ⟨w.heap.size + 1, 2, none⟩ = some (.int .u64 (num : Nat)) := u2.at_ 2
  have g3 : w2.cell? ⟨w.heap.size + 1, 3, none⟩ = some (.string ⟨#[]⟩) := u2.at_ 3
  have g4 : w2.cell? ⟨w.heap.size + 1, 4, none⟩ = some (.int .i64 a) := u2.at_ 4
  clear k1 k2 u2 b1
  go_enter Tryz.func67, Tryz.ntmps67
  go_wp2
  by_cases hn : n = 0
  · subst hn
    by_cases ht : t = []
    · subst ht
      obtain rfl : S = ⟨#[]⟩ := hS.symm
      go_quiet (fail)
      go_wp2
      refine bodyPost_ret (v := .tuple #[.int .i64 0, .bool true]) (results_2 rfl _ _ _ _ rfl rfl) rfl ⟨0, true, rfl, Below.thenN b2 _, ?_, ?_⟩
      · exact fun _ => ⟨0, rfl, rfl⟩
      · exact nofun
    · have zl : (S.toList == ([] : List UInt8)) = false := by rw [← hS, ByteArray.toList_eq]; exact beq_eq_false_iff_ne.2 (by simpa [str] using ht)
      go_quiet (fail)
      go_wp2
      refine bodyPost_ret (v := .tuple #[.int .i64 0, .bool false]) (results_2 rfl _ _ _ _ rfl rfl) rfl ⟨0, false, rfl, Below.thenN b2 _, ?_, ?_⟩
      · exact nofun
      · intro _; unfold arity; dsimp only; rw [if_pos rfl, if_neg ?_]; simp only [not_and]; intros; first | contradiction | omega | simp_all
  · have zn : (n == 0) = false := beq_eq_false_iff_ne.2 hn
    go_quiet (fail)
    go_wp2
    refine bodyPost_ret (v := .tuple #[.int .i64 0, .bool false]) (results_2 rfl _ _ _ _ rfl rfl) rfl ⟨0, false, rfl, Below.thenN b2 _, ?_, ?_⟩
    · exact nofun
    · intro _; unfold arity; dsimp only; rw [if_pos rfl, if_neg ?_]; simp only [not_and]; intros; first | contradiction | omega | simp_all

set_option maxRecDepth 100000 in
set_option maxHeartbeats 4000000 in
theorem kids2_any (w : World) (n : Int) (num : Nat) (t : List UInt8) (a : Int) : Calls Tryz.prog 67 #[.agg #[.int .i64 2, .int .i64 n, .int .u64 (num : Nat), .string (str t), .int .i64 a]] w (KidsAt ⟨2, n, num, t, a⟩ w) := by
  obtain ⟨S, hS⟩ : ∃ S, str t = S := ⟨_, rfl⟩
  rw [hS]
  obtain ⟨w1, hw1⟩ : ∃ w1, w.alloc (.cells #[.int .i64 2, .int .i64 n, .int .u64 (num : Nat), .string S, .int .i64 a] 64) = w1 := ⟨_, rfl⟩
  have b1 : Below w.heap.size w w1 := by rw [← hw1]; exact (Below.refl _ w).alloc (Nat.le_refl _) _
  have k1 : CB w1 w.heap.size 64 #[.int .i64 2, .int .i64 n, .int .u64 (num : Nat), .string S, .int .i64 a] := by rw [← hw1]; exact CB.new w _ _
  have s1 : w1.heap.size = w.heap.size + 1 := by rw [← hw1]; simp
  have c0 : w1.cell? ⟨w.heap.size, 0, none⟩ = some (.int .i64 2) := k1.at_ 0
  have c1 : w1.cell? ⟨w.heap.size, 1, none⟩ = some (.int .i64 n) := k1.at_ 1
  have c2 : w1.cell? ⟨w.heap.size, 2, none⟩ = some (.int .u64 (num : Nat)) := k1.at_ 2
  have c3 : w1.cell? ⟨w.heap.size, 3, none⟩ = some (.string S) := k1.at_ 3
  have c4 : w1.cell? ⟨w.heap.size, 4, none⟩ = some (.int .i64 a) := k1.at_ 4
  obtain ⟨w2, hw2⟩ : ∃ w2, w1.alloc (.cells #[.int .i64 2, .int .i64 0, .int .u64 0, .string S, .int .i64 a] 64) = w2 := ⟨_, rfl⟩
  have b2 : Below w.heap.size w w2 := by rw [← hw2]; exact b1.trans ((Below.refl _ w1).alloc (by omega) _)
  have k2 : CB w2 w.heap.size 64 #[.int .i64 2, .int .i64 n, .int .u64 (num : Nat), .string S, .int .i64 a] := by rw [← hw2]; exact k1.below ((Below.refl _ w1).alloc (Nat.le_refl _) _)
  have u2 : CB w2 (w.heap.size + 1) 64 #[.int .i64 2, .int .i64 0, .int .u64 0, .string S, .int .i64 a] := by rw [← s1, ← hw2]; exact CB.new w1 _ _
  have d0 : w2.cell? ⟨w.heap.size, 0, none⟩ = some (.int .i64 2) := k2.at_ 0
  have d1 : w2.cell? ⟨w.heap.size, 1, none⟩ = some (.int .i64 n) := k2.at_ 1
  have d2 : w2.cell? ⟨w.heap.size, 2, none⟩ = some (.int .u64 (num : Nat)) := k2.at_ 2
  have d3 : w2.cell? ⟨w.heap.size, 3, none⟩ = some (.string S) := k2.at_ 3
  have d4 : w2.cell? ⟨w.heap.size, 4, none⟩ = some (.int .i64 a) := k2.at_ 4
  have g0 : w2.cell? ⟨w.heap.size + 1, 0, none⟩ = some (.int .i64 2) := u2.at_ 0
  have g1 : w2.cell? ⟨w.heap.size + 1, 1, none⟩ = some (.int .i64 0) := u2.at_ 1
  have g2 : w2.cell? ⟨w.heap.size + 1, 2, none⟩ = some (.int .u64 0) := u2.at_ 2
  have g3 : w2.cell? ⟨w.heap.size + 1, 3, none⟩ = some (.string S) := u2.at_ 3
  have g4 : w2.cell? ⟨w.heap.size + 1, 4, none⟩ = some (.int .i64 a) := u2.at_ 4
  clear k1 k2 u2 b1
  go_enter Tryz.func67, Tryz.ntmps67
  go_wp2
  by_cases hn : n = 0
  · subst hn
    by_cases hnum : num = 0
    · subst hnum
      go_quiet (fail)
      go_wp2
      refine bodyPost_ret (v := .tuple #[.int .i64 0, .bool true]) (results_2 rfl _ _ _ _ rfl rfl) rfl ⟨0, true, rfl, Below.thenN b2 _, ?_, ?_⟩
      · exact fun _ => ⟨0, rfl, rfl⟩
      · exact nofun
    · have znum : ((num : Int) == 0) = false := beq_eq_false_iff_ne.2 (by omega)
      go_quiet (fail)
      go_wp2
      refine bodyPost_ret (v := .tuple #[.int .i64 0, .bool false]) (results_2 rfl _ _ _ _ rfl rfl) rfl ⟨0, false, rfl, Below.thenN b2 _, ?_, ?_⟩
      · exact nofun
      · intro _; unfold arity; dsimp only; rw [if_neg (by decide), if_pos rfl, if_neg ?_]; simp only [not_and]; intros; first | contradiction | omega | simp_all
  · have zn : (n == 0) = false := beq_eq_false_iff_ne.2 hn
    go_quiet (fail)
    go_wp2
    refine bodyPost_ret (v := .tuple #[.int .i64 0, .bool false]) (results_2 rfl _ _ _ _ rfl rfl) rfl ⟨0, false, rfl, Below.thenN b2 _, ?_, ?_⟩
    · exact nofun
    · intro _; unfold arity; dsimp only; rw [if_neg (by decide), if_pos rfl, if_neg ?_]; simp only [not_and]; intros; first | contradiction | omega | simp_all

set_option maxRecDepth 100000 in
set_option maxHeartbeats 4000000 in
theorem kids3_any (w : World) (n : Int) (num : Nat) (t : List UInt8) (a : Int) : Calls Tryz.prog 67 #[.agg #[.int .i64 3, .int .i64 n, .int .u64 (num : Nat), .string (str t), .int .i64 a]] w (KidsAt ⟨3, n, num, t, a⟩ w) := by
  obtain ⟨S, hS⟩ : ∃ S, str t = S := ⟨_, rfl⟩
  rw [hS]
  obtain ⟨w1, hw1⟩ : ∃ w1, w.alloc (.cells #[.int .i64 3, .int .i64 n, .int .u64 (num : Nat), .string S, .int .i64 a] 64) = w1 := ⟨_, rfl⟩
  have b1 : Below w.heap.size w w1 := by rw [← hw1]; exact (Below.refl _ w).alloc (Nat.le_refl _) _
  have k1 : CB w1 w.heap.size 64 #[.int .i64 3, .int .i64 n, .int .u64 (num : Nat), .string S, .int .i64 a] := by rw [← hw1]; exact CB.new w _ _
  have s1 : w1.heap.size = w.heap.size + 1 := by rw [← hw1]; simp
  have c0 : w1.cell? ⟨w.heap.size, 0, none⟩ = some (.int .i64 3) := k1.at_ 0
  have c1 : w1.cell? ⟨w.heap.size, 1, none⟩ = some (.int .i64 n) := k1.at_ 1
  have c2 : w1.cell? ⟨w.heap.size, 2, none⟩ = some (.int .u64 (num : Nat)) := k1.at_ 2
  have c3 : w1.cell? ⟨w.heap.size, 3, none⟩ = some (.string S) := k1.at_ 3
  have c4 : w1.cell? ⟨w.heap.size, 4, none⟩ = some (.int .i64 a) := k1.at_ 4
  obtain ⟨w2, hw2⟩ : ∃ w2, w1.alloc (.cells #[.int .i64 3, .int .i64 0, .int .u64 0, .string ⟨#[]⟩, .int .i64 a] 64) = w2 := ⟨_, rfl⟩
  have b2 : Below w.heap.size w w2 := by rw [← hw2]; exact b1.trans ((Below.refl _ w1).alloc (by omega) _)
  have k2 : CB w2 w.heap.size 64 #[.int .i64 3, .int .i64 n, .int .u64 (num : Nat), .string S, .int .i64 a] := by rw [← hw2]; exact k1.below ((Below.refl _ w1).alloc (Nat.le_refl _) _)
  have u2 : CB w2 (w.heap.size + 1) 64 #[.int .i64 3, .int .i64 0, .int .u64 0, .string ⟨#[]⟩, .int .i64 a] := by rw [← s1, ← hw2]; exact CB.new w1 _ _
  have d0 : w2.cell? ⟨w.heap.size, 0, none⟩ = some (.int .i64 3) := k2.at_ 0
  have d1 : w2.cell? ⟨w.heap.size, 1, none⟩ = some (.int .i64 n) := k2.at_ 1
  have d2 : w2.cell? ⟨w.heap.size, 2, none⟩ = some (.int .u64 (num : Nat)) := k2.at_ 2
  have d3 : w2.cell? ⟨w.heap.size, 3, none⟩ = some (.string S) := k2.at_ 3
  have d4 : w2.cell? ⟨w.heap.size, 4, none⟩ = some (.int .i64 a) := k2.at_ 4
  have g0 : w2.cell? ⟨w.heap.size + 1, 0, none⟩ = some (.int .i64 3) := u2.at_ 0
  have g1 : w2.cell? ⟨w.heap.size + 1, 1, none⟩ = some (.int .i64 0) := u2.at_ 1
  have g2 : w2.cell? ⟨w.heap.size + 1, 2, none⟩ = some (.int .u64 0) := u2.at_ 2
  have g3 : w2.cell? ⟨w.heap.size + 1, 3, none⟩ = some (.string ⟨#[]⟩) := u2.at_ 3
  have g4 : w2.cell? ⟨w.heap.size + 1, 4, none⟩ = some (.int .i64 a) := u2.at_ 4
  clear k1 k2 u2 b1
  go_enter Tryz.func67, Tryz.ntmps67
  go_wp2
  by_cases hn : n = 0
  · subst hn
    by_cases hnum : num = 0
    · subst hnum
      by_cases ht : t = []
      · subst ht
        obtain rfl : S = ⟨#[]⟩ := hS.symm
        go_quiet (fail)
        go_wp2
        refine bodyPost_ret (v := .tuple #[.int .i64 0, .bool true]) (results_2 rfl _ _ _ _ rfl rfl) rfl ⟨0, true, rfl, Below.thenN b2 _, ?_, ?_⟩
        · exact fun _ => ⟨0, rfl, rfl⟩
        · exact nofun
      · have zl : (S.toList == ([] : List UInt8)) = false := by rw [← hS, ByteArray.toList_eq]; exact beq_eq_false_iff_ne.2 (by simpa [str] using ht)
        go_quiet (fail)
        go_wp2
        refine bodyPost_ret (v := .tuple #[.int .i64 0, .bool false]) (results_2 rfl _ _ _ _ rfl rfl) rfl ⟨0, false, rfl, Below.thenN b2 _, ?_, ?_⟩
        · exact nofun
        · intro _; unfold arity; dsimp only; rw [if_neg (by decide), if_neg (by decide), if_neg (by decide), if_neg ?_]; simp only [not_and]; intros; first | contradiction | omega | simp_all
    · have znum : ((num : Int) == 0) = false := beq_eq_false_iff_ne.2 (by omega)
      go_quiet (fail)
      go_wp2
      refine bodyPost_ret (v := .tuple #[.int .i64 0, .bool false]) (results_2 rfl _ _ _ _ rfl rfl) rfl ⟨0, false, rfl, Below.thenN b2 _, ?_, ?_⟩
      · exact nofun
      · intro _; unfold arity; dsimp only; rw [if_neg (by decide), if_neg (by decide), if_neg (by decide), if_neg ?_]; simp only [not_and]; intros; first | contradiction | omega | simp_all
  · have zn : (n == 0) = false := beq_eq_false_iff_ne.2 hn
    go_quiet (fail)
    go_wp2
    refine bodyPost_ret (v := .tuple #[.int .i64 0, .bool false]) (results_2 rfl _ _ _ _ rfl rfl) rfl ⟨0, false, rfl, Below.thenN b2 _, ?_, ?_⟩
    · exact nofun
    · intro _; unfold arity; dsimp only; rw [if_neg (by decide), if_neg (by decide), if_neg (by decide), if_neg ?_]; simp only [not_and]; intros; first | contradiction | omega | simp_all

set_option maxRecDepth 100000 in
set_option maxHeartbeats 4000000 in
theorem kids4_any (w : World) (n : Int) (num : Nat) (t : List UInt8) (a : Int) : Calls Tryz.prog 67 #[.agg #[.int .i64 4, .int .i64 n, .int .u64 (num : Nat), .string (str t), .int .i64 a]] w (KidsAt ⟨4, n, num, t, a⟩ w) := by
  obtain ⟨S, hS⟩ : ∃ S, str t = S := ⟨_, rfl⟩
  rw [hS]
  obtain ⟨w1, hw1⟩ : ∃ w1, w.alloc (.cells #[.int .i64 4, .int .i64 n, .int .u64 (num : Nat), .string S, .int .i64 a] 64) = w1 := ⟨_, rfl⟩
  have b1 : Below w.heap.size w w1 := by rw [← hw1]; exact (Below.refl _ w).alloc (Nat.le_refl _) _
  have k1 : CB w1 w.heap.size 64 #[.int .i64 4, .int .i64 n, .int .u64 (num : Nat), .string S, .int .i64 a] := by rw [← hw1]; exact CB.new w _ _
  have s1 : w1.heap.size = w.heap.size + 1 := by rw [← hw1]; simp
  have c0 : w1.cell? ⟨w.heap.size, 0, none⟩ = some (.int .i64 4) := k1.at_ 0
  have c1 : w1.cell? ⟨w.heap.size, 1, none⟩ = some (.int .i64 n) := k1.at_ 1
  have c2 : w1.cell? ⟨w.heap.size, 2, none⟩ = some (.int .u64 (num : Nat)) := k1.at_ 2
  have c3 : w1.cell? ⟨w.heap.size, 3, none⟩ = some (.string S) := k1.at_ 3
  have c4 : w1.cell? ⟨w.heap.size, 4, none⟩ = some (.int .i64 a) := k1.at_ 4
  obtain ⟨w2, hw2⟩ : ∃ w2, w1.alloc (.cells #[.int .i64 4, .int .i64 0, .int .u64 0, .string ⟨#[]⟩, .int .i64 a] 64) = w2 := ⟨_, rfl⟩
  have b2 : Below w.heap.size w w2 := by rw [← hw2]; exact b1.trans ((Below.refl _ w1).alloc (by omega) _)
  have k2 : CB w2 w.heap.size 64 #[.int .i64 4, .int .i64 n, .int .u64 (num : Nat), .string S, .int .i64 a] := by rw [← hw2]; exact k1.below ((Below.refl _ w1).alloc (Nat.le_refl _) _)
  have u2 : CB w2 (w.heap.size + 1) 64 #[.int .i64 4, .int .i64 0, .int .u64 0, .string ⟨#[]⟩, .int .i64 a] := by rw [← s1, ← hw2]; exact CB.new w1 _ _
  have d0 : w2.cell? ⟨w.heap.size, 0, none⟩ = some (.int .i64 4) := k2.at_ 0
  have d1 : w2.cell? ⟨w.heap.size, 1, none⟩ = some (.int .i64 n) := k2.at_ 1
  have d2 : w2.cell? ⟨w.heap.size, 2, none⟩ = some (.int .u64 (num : Nat)) := k2.at_ 2
  have d3 : w2.cell? ⟨w.heap.size, 3, none⟩ = some (.string S) := k2.at_ 3
  have d4 : w2.cell? ⟨w.heap.size, 4, none⟩ = some (.int .i64 a) := k2.at_ 4
  have g0 : w2.cell? ⟨w.heap.size + 1, 0, none⟩ = some (.int .i64 4) := u2.at_ 0
  have g1 : w2.cell? ⟨w.heap.size + 1, 1, none⟩ = some (.int .i64 0) := u2.at_ 1
  have g2 : w2.cell? ⟨w.heap.size + 1, 2, none⟩ = some (.int .u64 0) := u2.at_ 2
  have g3 : w2.cell? ⟨w.heap.size + 1, 3, none⟩ = some (.string ⟨#[]⟩) := u2.at_ 3
  have g4 : w2.cell? ⟨w.heap.size + 1, 4, none⟩ = some (.int .i64 a) := u2.at_ 4
  clear k1 k2 u2 b1
  go_enter Tryz.func67, Tryz.ntmps67
  go_wp2
  by_cases hn : n = 0
  · subst hn
    by_cases hnum : num = 0
    · subst hnum
      by_cases ht : t = []
      · subst ht
        obtain rfl : S = ⟨#[]⟩ := hS.symm
        go_quiet (fail)
        go_wp2
        refine bodyPost_ret (v := .tuple #[.int .i64 0, .bool true]) (results_2 rfl _ _ _ _ rfl rfl) rfl ⟨0, true, rfl, Below.thenN b2 _, ?_, ?_⟩
        · exact fun _ => ⟨0, rfl, rfl⟩
        · exact nofun
      · have zl : (S.toList == ([] : List UInt8)) = false := by rw [← hS, ByteArray.toList_eq]; exact beq_eq_false_iff_ne.2 (by simpa [str] using ht)
        go_quiet (fail)
        go_wp2
        refine bodyPost_ret (v := .tuple #[.int .i64 0, .bool false]) (results_2 rfl _ _ _ _ rfl rfl) rfl ⟨0, false, rfl, Below.thenN b2 _, ?_, ?_⟩
        · exact nofun
        · intro _; unfold arity; dsimp only; rw [if_neg (by decide), if_neg (by decide), if_neg (by decide), if_neg ?_]; simp only [not_and]; intros; first | contradiction | omega | simp_all
    · have znum : ((num : Int) == 0) = false := beq_eq_false_iff_ne.2 (by omega)
      go_quiet (fail)
      go_wp2
      refine bodyPost_ret (v := .tuple #[.int .i64 0, .bool false]) (results_2 rfl _ _ _ _ rfl rfl) rfl ⟨0, false, rfl, Below.thenN b2 _, ?_, ?_⟩
      · exact nofun
      · intro _; unfold arity; dsimp only; rw [if_neg (by decide), if_neg (by decide), if_neg (by decide), if_neg ?_]; simp only [not_and]; intros; first | contradiction | omega | simp_all
  · have zn : (n == 0) = false := beq_eq_false_iff_ne.2 hn
    go_quiet (fail)
    go_wp2
    refine bodyPost_ret (v := .tuple #[.int .i64 0, .bool false]) (results_2 rfl _ _ _ _ rfl rfl) rfl ⟨0, false, rfl, Below.thenN b2 _, ?_, ?_⟩
    · exact nofun
    · intro _; unfold arity; dsimp only; rw [if_neg (by decide), if_neg (by decide), if_neg (by decide), if_neg ?_]; simp only [not_and]; intros; first | contradiction | omega | simp_all

set_option maxRecDepth 100000 in
set_option maxHeartbeats 4000000 in
theorem kids5_any (w : World) (n : Int) (num : Nat) (t : List UInt8) (a : Int) : Calls Tryz.prog 67 #[.agg #[.int .i64 5, .int .i64 n, .int .u64 (num : Nat), .string (str t), .int .i64 a]] w (KidsAt ⟨5, n, num, t, a⟩ w) := by
  obtain ⟨S, hS⟩ : ∃ S, str t = S := ⟨_, rfl⟩
  rw [hS]
  obtain ⟨w1, hw1⟩ : ∃ w1, w.alloc (.cells #[.int .i64 5, .int .i64 n, .int .u64 (num : Nat), .string S, .int .i64 a] 64) = w1 := ⟨_, rfl⟩
  have b1 : Below w.heap.size w w1 := by rw [← hw1]; exact (Below.refl _ w).alloc (Nat.le_refl _) _
  have k1 : CB w1 w.heap.size 64 #[.int .i64 5, .int .i64 n, .int .u64 (num : Nat), .string S, .int .i64 a] := by rw [← hw1]; exact CB.new w _ _
  have s1 : w1.heap.size = w.heap.size + 1 := by rw [← hw1]; simp
  have c0 : w1.cell? ⟨w.heap.size, 0, none⟩ = some (.int .i64 5) := k1.at_ 0
  have c1 : w1.cell? ⟨w.heap.size, 1, none⟩ = some (.int .i64 n) := k1.at_ 1
  have c2 : w1.cell? ⟨w.heap.size, 2, none⟩ = some (.int .u64 (num : Nat)) := k1.at_ 2
  have c3 : w1.cell? ⟨w.heap.size, 3, none⟩ = some (.string S) := k1.at_ 3
  have c4 : w1.cell? ⟨w.heap.size, 4, none⟩ = some (.int .i64 a) := k1.at_ 4
  obtain ⟨w2, hw2⟩ : ∃ w2, w1.alloc (.cells #[.int .i64 5, .int .i64 0, .int .u64 0, .string ⟨#[]⟩, .int .i64 a] 64) = w2 := ⟨_, rfl⟩
  have b2 : Below w.heap.size w w2 := by rw [← hw2]; exact b1.trans ((Below.refl _ w1).alloc (by omega) _)
  have k2 : CB w2 w.heap.size 64 #[.int .i64 5, .int .i64 n, .int .u64 (num : Nat), .string S, .int .i64 a] := by rw [← hw2]; exact k1.below ((Below.refl _ w1).alloc (Nat.le_refl _) _)
  have u2 : CB w2 (w.heap.size + 1) 64 #[.int .i64 5, .int .i64 0, .int .u64 0, .string ⟨#[]⟩, .int .i64 a] := by rw [← s1, ← hw2]; exact CB.new w1 _ _
  have d0 : w2.cell? ⟨w.heap.size, 0, none⟩ = some (.int .i64 5) := k2.at_ 0
  have d1 : w2.cell? ⟨w.heap.size, 1, none⟩ = some (.int .i64 n) := k2.at_ 1
  have d2 : w2.cell? ⟨w.heap.size, 2, none⟩ = some (.int .u64 (num : Nat)) := k2.at_ 2
  have d3 : w2.cell? ⟨w.heap.size, 3, none⟩ = some (.string S) := k2.at_ 3
  have d4 : w2.cell? ⟨w.heap.size, 4, none⟩ = some (.int .i64 a) := k2.at_ 4
  have g0 : w2.cell? ⟨w.heap.size + 1, 0, none⟩ = some (.int .i64 5) := u2.at_ 0
  have g1 : w2.cell? ⟨w.heap.size + 1, 1, none⟩ = some (.int .i64 0) := u2.at_ 1
  have g2 : w2.cell? ⟨w.heap.size + 1, 2, none⟩ = some (.int .u64 0) := u2.at_ 2
  have g3 : w2.cell? ⟨w.heap.size + 1, 3, none⟩ = some (.string ⟨#[]⟩) := u2.at_ 3
  have g4 : w2.cell? ⟨w.heap.size + 1, 4, none⟩ = some (.int .i64 a) := u2.at_ 4
  clear k1 k2 u2 b1
  go_enter Tryz.func67, Tryz.ntmps67
  go_wp2
  by_cases hn : n = 0
  · subst hn
    by_cases hnum : num = 0
    · subst hnum
      by_cases ht : t = []
      · subst ht
        obtain rfl : S = ⟨#[]⟩ := hS.symm
        go_quiet (fail)
        go_wp2
        refine bodyPost_ret (v := .tuple #[.int .i64 1, .bool true]) (results_2 rfl _ _ _ _ rfl rfl) rfl ⟨1, true, rfl, Below.thenN b2 _, ?_, ?_⟩
        · exact fun _ => ⟨1, rfl, rfl⟩
        · exact nofun
      · have zl : (S.toList == ([] : List UInt8)) = false := by rw [← hS, ByteArray.toList_eq]; exact beq_eq_false_iff_ne.2 (by simpa [str] using ht)
        go_quiet (fail)
        go_wp2
        refine bodyPost_ret (v := .tuple #[.int .i64 1, .bool false]) (results_2 rfl _ _ _ _ rfl rfl) rfl ⟨1, false, rfl, Below.thenN b2 _, ?_, ?_⟩
        · exact nofun
        · intro _; unfold arity; dsimp only; rw [if_neg (by decide), if_neg (by decide), if_neg (by decide), if_neg ?_]; simp only [not_and]; intros; first | contradiction | omega | simp_all
    · have znum : ((num : Int) == 0) = false := beq_eq_false_iff_ne.2 (by omega)
      go_quiet (fail)
      go_wp2
      refine bodyPost_ret (v := .tuple #[.int .i64 1, .bool false]) (results_2 rfl _ _ _ _ rfl rfl) rfl ⟨1, false, rfl, Below.thenN b2 _, ?_, ?_⟩
      · exact nofun
      · intro _; unfold arity; dsimp only; rw [if_neg (by decide), if_neg (by decide), if_neg (by decide), if_neg ?_]; simp only [not_and]; intros; first | contradiction | omega | simp_all
  · have zn : (n == 0) = false := beq_eq_false_iff_ne.2 hn
    go_quiet (fail)
    go_wp2
    refine bodyPost_ret (v := .tuple #[.int .i64 1, .bool false]) (results_2 rfl _ _ _ _ rfl rfl) rfl ⟨1, false, rfl, Below.thenN b2 _, ?_, ?_⟩
    · exact nofun
    · intro _; unfold arity; dsimp only; rw [if_neg (by decide), if_neg (by decide), if_neg (by decide), if_neg ?_]; simp only [not_and]; intros; first | contradiction | omega | simp_all

set_option maxRecDepth 100000 in
set_option maxHeartbeats 4000000 in
theorem kids6_any (w : World) (n : Int) (num : Nat) (t : List UInt8) (a : Int) : Calls Tryz.prog 67 #[.agg #[.int .i64 6, .int .i64 n, .int .u64 (num : Nat), .string (str t), .int .i64 a]] w (KidsAt ⟨6, n, num, t, a⟩ w) := by
  obtain ⟨S, hS⟩ : ∃ S, str t = S := ⟨_, rfl⟩
  rw [hS]
  obtain ⟨w1, hw1⟩ : ∃ w1, w.alloc (.cells #[.int .i64 6, .int .i64 n, .int .u64 (num : Nat), .string S, .int .i64 a] 64) = w1 := ⟨_, rfl⟩
  have b1 : Below w.heap.size w w1 := by rw [← hw1]; exact (Below.refl _ w).alloc (Nat.le_refl _) _
  have k1 : CB w1 w.heap.size 64 #[.int .i64 6, .int .i64 n, .int .u64 (num : Nat), .string S, .int .i64 a] := by rw [← hw1]; exact CB.new w _ _
  have s1 : w1.heap.size = w.heap.size + 1 := by rw [← hw1]; simp
  have c0 : w1.cell? ⟨w.heap.size, 0, none⟩ = some (.int .i64 6) := k1.at_ 0
  have c1 : w1.cell? ⟨w.heap.size, 1, none⟩ = some (.int .i64 n) := k1.at_ 1
  have c2 : w1.cell? ⟨w.heap.size, 2, none⟩ = some (.int .u64 (num : Nat)) := k1.at_ 2
  have c3 : w1.cell? ⟨w.heap.size, 3, none⟩ = some (.string S) := k1.at_ 3
  have c4 : w1.cell? ⟨w.heap.size, 4, none⟩ = some (.int .i64 a) := k1.at_ 4
  obtain ⟨w2, hw2⟩ : ∃ w2, w1.alloc (.cells #[.int .i64 6, .int .i64 0, .int .u64 0, .string ⟨#[]⟩, .int .i64 a] 64) = w2 := ⟨_, rfl⟩
  have b2 : Below w.heap.size w w2 := by rw [← hw2]; exact b1.trans ((Below.refl _ w1).alloc (by omega) _)
  have k2 : CB w2 w.heap.size 64 #[.int .i64 6, .int .i64 n, .int .u64 (num : Nat), .string S, .int .i64 a] := by rw [← hw2]; exact k1.below ((Below.refl _ w1).alloc (Nat.le_refl _) _)
  have u2 : CB w2 (w.heap.size + 1) 64 #[.int .i64 6, .int .i64 0, .int .u64 0, .string ⟨#[]⟩, .int .i64 a] := by rw [← s1, ← hw2]; exact CB.new w1 _ _
  have d0 : w2.cell? ⟨w.heap.size, 0, none⟩ = some (.int .i64 6) := k2.at_ 0
  have d1 : w2.cell? ⟨w.heap.size, 1, none⟩ = some (.int .i64 n) := k2.at_ 1
  have d2 : w2.cell? ⟨w.heap.size, 2, none⟩ = some (.int .u64 (num : Nat)) := k2.at_ 2
  have d3 : w2.cell? ⟨w.heap.size, 3, none⟩ = some (.string S) := k2.at_ 3
  have d4 : w2.cell? ⟨w.heap.size, 4, none⟩ = some (.int .i64 a) := k2.at_ 4
  have g0 : w2.cell? ⟨w.heap.size + 1, 0, none⟩ = some (.int .i64 6) := u2.at_ 0
  have g1 : w2.cell? ⟨w.heap.size + 1, 1, none⟩ = some (.int .i64 0) := u2.at_ 1
  have g2 : w2.cell? ⟨w.heap.size + 1, 2, none⟩ = some (.int .u64 0) := u2.at_ 2
  have g3 : w2.cell? ⟨w.heap.size + 1, 3, none⟩ = some (.string ⟨#[]⟩) := u2.at_ 3
  have g4 : w2.cell? ⟨w.heap.size + 1, 4, none⟩ = some (.int .i64 a) := u2.at_ 4
  clear k1 k2 u2 b1
  go_enter Tryz.func67, Tryz.ntmps67
  go_wp2
  by_cases hn : n = 0
  · subst hn
    by_cases hnum : num = 0
    · subst hnum
      by_cases ht : t = []
      · subst ht
        obtain rfl : S = ⟨#[]⟩ := hS.symm
        go_quiet (fail)
        go_wp2
        refine bodyPost_ret (v := .tuple #[.int .i64 2, .bool true]) (results_2 rfl _ _ _ _ rfl rfl) rfl ⟨2, true, rfl, Below.thenN b2 _, ?_, ?_⟩
        · exact fun _ => ⟨2, rfl, rfl⟩
        · exact nofun
      · have zl : (S.toList == ([] : List UInt8)) = false := by rw [← hS, ByteArray.toList_eq]; exact beq_eq_false_iff_ne.2 (by simpa [str] using ht)
        go_quiet (fail)
        go_wp2
        refine bodyPost_ret (v := .tuple #[.int .i64 2, .bool false]) (results_2 rfl _ _ _ _ rfl rfl) rfl ⟨2, false, rfl, Below.thenN b2 _, ?_, ?_⟩
        · exact nofun
        · intro _; unfold arity; dsimp only; rw [if_neg (by decide), if_neg (by decide), if_neg (by decide), if_neg ?_]; simp only [not_and]; intros; first | contradiction | omega | simp_all
    · have znum : ((num : Int) == 0) = false := beq_eq_false_iff_ne.2 (by omega)
      go_quiet (fail)
      go_wp2
      refine bodyPost_ret (v := .tuple #[.int .i64 2, .bool false]) (results_2 rfl _ _ _ _ rfl rfl) rfl ⟨2, false, rfl, Below.thenN b2 _, ?_, ?_⟩
      · exact nofun
      · intro _; unfold arity; dsimp only; rw [if_neg (by decide), if_neg (by decide), if_neg (by decide), if_neg ?_]; simp only [not_and]; intros; first | contradiction | omega | simp_all
  · have zn : (n == 0) = false := beq_eq_false_iff_ne.2 hn
    go_quiet (fail)
    go_wp2
    refine bodyPost_ret (v := .tuple #[.int .i64 2, .bool false]) (results_2 rfl _ _ _ _ rfl rfl) rfl ⟨2, false, rfl, Below.thenN b2 _, ?_, ?_⟩
    · exact nofun
    · intro _; unfold arity; dsimp only; rw [if_neg (by decide), if_neg (by decide), if_neg (by decide), if_neg ?_]; simp only [not_and]; intros; first | contradiction | omega | simp_all

set_option maxRecDepth 100000 in
set_option maxHeartbeats 4000000 in
theorem kids7_any (w : World) (n : Int) (num : Nat) (t : List UInt8) (a : Int) : Calls Tryz.prog 67 #[.agg #[.int .i64 7, .int .i64 n, .int .u64 (num : Nat), .string (str t), .int .i64 a]] w (KidsAt ⟨7, n, num, t, a⟩ w) := by
  obtain ⟨S, hS⟩ : ∃ S, str t = S := ⟨_, rfl⟩
  rw [hS]
  obtain ⟨w1, hw1⟩ : ∃ w1, w.alloc (.cells #[.int .i64 7, .int .i64 n, .int .u64 (num : Nat), .string S, .int .i64 a] 64) = w1 := ⟨_, rfl⟩
  have b1 : Below w.heap.size w w1 := by rw [← hw1]; exact (Below.refl _ w).alloc (Nat.le_refl _) _
  have k1 : CB w1 w.heap.size 64 #[.int .i64 7, .int .i64 n, .int .u64 (num : Nat), .string S, .int .i64 a] := by rw [← hw1]; exact CB.new w _ _
  have s1 : w1.heap.size = w.heap.size + 1 := by rw [← hw1]; simp
  have c0 : w1.cell? ⟨w.heap.size, 0, none⟩ = some (.int .i64 7) := k1.at_ 0
  have c1 : w1.cell? ⟨w.heap.size, 1, none⟩ = some (.int .i64 n) := k1.at_ 1
  have c2 : w1.cell? ⟨w.heap.size, 2, none⟩ = some (.int .u64 (num : Nat)) := k1.at_ 2
  have c3 : w1.cell? ⟨w.heap.size, 3, none⟩ = some (.string S) := k1.at_ 3
  have c4 : w1.cell? ⟨w.heap.size, 4, none⟩ = some (.int .i64 a) := k1.at_ 4
  obtain ⟨w2, hw2⟩ : ∃ w2, w1.alloc (.cells #[.int .i64 7, .int .i64 0, .int .u64 0, .string ⟨#[]⟩, .int .i64 a] 64) = w2 := ⟨_, rfl⟩
  have b2 : Below w.heap.size w w2 := by rw [← hw2]; exact b1.trans ((Below.refl _ w1).alloc (by omega) _)
  have k2 : CB w2 w.heap.size 64 #[.int .i64 7, .int .i64 n, .int .u64 (num : Nat), .string S, .int .i64 a] := by rw [← hw2]; exact k1.below ((Below.refl _ w1).alloc (Nat.le_refl _) _)
  have u2 : CB w2 (w.heap.size + 1) 64 #[.int .i64 7, .int .i64 0, .int .u64 0, .string ⟨#[]⟩, .int .i64 a] := by rw [← s1, ← hw2]; exact CB.new w1 _ _
  have d0 : w2.cell? ⟨w.heap.size, 0, none⟩ = some (.int .i64 7) := k2.at_ 0
  have d1 : w2.cell? ⟨w.heap.size, 1, none⟩ = some (.int .i64 n) := k2.at_ 1
  have d2 : w2.cell? ⟨w.heap.size, 2, none⟩ = some (.int .u64 (num : Nat)) := k2.at_ 2
  have d3 : w2.cell? ⟨w.heap.size, 3, none⟩ = some (.string S) := k2.at_ 3
  have d4 : w2.cell? ⟨w.heap.size, 4, none⟩ = some (.int .i64 a) := k2.at_ 4
  have g0 : w2.cell? ⟨w.heap.size + 1, 0, none⟩ = some (.int .i64 7) := u2.at_ 0
  have g1 : w2.cell? ⟨w.heap.size + 1, 1, none⟩ = some (.int .i64 0) := u2.at_ 1
  have g2 : w2.cell? ⟨w.heap.size + 1, 2, none⟩ = some (.int .u64 0) := u2.at_ 2
  have g3 : w2.cell? ⟨w.heap.size + 1, 3, none⟩ = some (.string ⟨#[]⟩) := u2.at_ 3
  have g4 : w2.cell? ⟨w.heap.size + 1, 4, none⟩ = some (.int .i64 a) := u2.at_ 4
  clear k1 k2 u2 b1
  go_enter Tryz.func67, Tryz.ntmps67
  go_wp2
  by_cases hn : n = 0
  · subst hn
    by_cases hnum : num = 0
    · subst hnum
      by_cases ht : t = []
      · subst ht
        obtain rfl : S = ⟨#[]⟩ := hS.symm
        go_quiet (fail)
        go_wp2
        refine bodyPost_ret (v := .tuple #[.int .i64 2, .bool true]) (results_2 rfl _ _ _ _ rfl rfl) rfl ⟨2, true, rfl, Below.thenN b2 _, ?_, ?_⟩
        · exact fun _ => ⟨2, rfl, rfl⟩
        · exact nofun
      · have zl : (S.toList == ([] : List UInt8)) = false := by rw [← hS, ByteArray.toList_eq]; exact beq_eq_false_iff_ne.2 (by simpa [str] using ht)
        go_quiet (fail)
        go_wp2
        refine bodyPost_ret (v := .tuple #[.int .i64 2, .bool false]) (results_2 rfl _ _ _ _ rfl rfl) rfl ⟨2, false, rfl, Below.thenN b2 _, ?_, ?_⟩
        · exact nofun
        · intro _; unfold arity; dsimp only; rw [if_neg (by decide), if_neg (by decide), if_neg (by decide), if_neg ?_]; simp only [not_and]; intros; first | contradiction | omega | simp_all
    · have znum : ((num : Int) == 0) = false := beq_eq_false_iff_ne.2 (by omega)
      go_quiet (fail)
      go_wp2
      refine bodyPost_ret (v := .tuple #[.int .i64 2, .bool false]) (results_2 rfl _ _ _ _ rfl rfl) rfl ⟨2, false, rfl, Below.thenN b2 _, ?_, ?_⟩
      · exact nofun
      · intro _; unfold arity; dsimp only; rw [if_neg (by decide), if_neg (by decide), if_neg (by decide), if_neg ?_]; simp only [not_and]; intros; first | contradiction | omega | simp_all
  · have zn : (n == 0) = false := beq_eq_false_iff_ne.2 hn
    go_quiet (fail)
    go_wp2
    refine bodyPost_ret (v := .tuple #[.int .i64 2, .bool false]) (results_2 rfl _ _ _ _ rfl rfl) rfl ⟨2, false, rfl, Below.thenN b2 _, ?_, ?_⟩
    · exact nofun
    · intro _; unfold arity; dsimp only; rw [if_neg (by decide), if_neg (by decide), if_neg (by decide), if_neg ?_]; simp only [not_and]; intros; first | contradiction | omega | simp_all

set_option maxRecDepth 100000 in
set_option maxHeartbeats 4000000 in
theorem kids8_any (w : World) (n : Int) (num : Nat) (t : List UInt8) (a : Int) : Calls Tryz.prog 67 #[.agg #[.int .i64 8, .int .i64 n, .int .u64 (num : Nat), .string (str t), .int .i64 a]] w (KidsAt ⟨8, n, num, t, a⟩ w) := by
  obtain ⟨S, hS⟩ : ∃ S, str t = S := ⟨_, rfl⟩
  rw [hS]
  obtain ⟨w1, hw1⟩ : ∃ w1, w.alloc (.cells #[.int .i64 8, .int .i64 n, .int .u64 (num : Nat), .string S, .int .i64 a] 64) = w1 := ⟨_, rfl⟩
  have b1 : Below w.heap.size w w1 := by rw [← hw1]; exact (Below.refl _ w).alloc (Nat.le_refl _) _
  have k1 : CB w1 w.heap.size 64 #[.int .i64 8, .int .i64 n, .int .u64 (num : Nat), .string S, .int .i64 a] := by rw [← hw1]; exact CB.new w _ _
  have s1 : w1.heap.size = w.heap.size + 1 := by rw [← hw1]; simp
  have c0 : w1.cell? ⟨w.heap.size, 0, none⟩ = some (.int .i64 8) := k1.at_ 0
  have c1 : w1.cell? ⟨w.heap.size, 1, none⟩ = some (.int .i64 n) := k1.at_ 1
  have c2 : w1.cell? ⟨w.heap.size, 2, none⟩ = some (.int .u64 (num : Nat)) := k1.at_ 2
  have c3 : w1.cell? ⟨w.heap.size, 3, none⟩ = some (.string S) := k1.at_ 3
  have c4 : w1.cell? ⟨w.heap.size, 4, none⟩ = some (.int .i64 a) := k1.at_ 4
  obtain ⟨w2, hw2⟩ : ∃ w2, w1.alloc (.cells #[.int .i64 8, .int .i64 0, .int .u64 0, .string ⟨#[]⟩, .int .i64 a] 64) = w2 := ⟨_, rfl⟩
  have b2 : Below w.heap.size w w2 := by rw [← hw2]; exact b1.trans ((Below.refl _ w1).alloc (by omega) _)
  have k2 : CB w2 w.heap.size 64 #[.int .i64 8, .int .i64 n, .int .u64 (num : Nat), .string S, .int .i64 a] := by rw [← hw2]; exact k1.below ((Below.refl _ w1).alloc (Nat.le_refl _) _)
  have u2 : CB w2 (w.heap.size + 1) 64 #[.int .i64 8, .int .i64 0, .int .u64 0, .string ⟨#[]⟩, .int .i64 a] := by rw [← s1, ← hw2]; exact CB.new w1 _ _
  have d0 : w2.cell? ⟨w.heap.size, 0, none⟩ = some (.int .i64 8) := k2.at_ 0
  have d1 : w2.cell? ⟨w.heap.size, 1, none⟩ = some (.int .i64 n) := k2.at_ 1
  have d2 : w2.cell? ⟨w.heap.size, 2, none⟩ = some (.int .u64 (num : Nat)) := k2.at_ 2
  have d3 : w2.cell? ⟨w.heap.size, 3, none⟩ = some (.string S) := k2.at_ 3
  have d4 : w2.cell? ⟨w.heap.size, 4, none⟩ = some (.int .i64 a) := k2.at_ 4
  have g0 : w2.cell? ⟨w.heap.size + 1, 0, none⟩ = some (.int .i64 8) := u2.at_ 0
  have g1 : w2.cell? ⟨w.heap.size + 1, 1, none⟩ = some (.int .i64 0) := u2.at_ 1
  have g2 : w2.cell? ⟨w.heap.size + 1, 2, none⟩ = some (.int .u64 0) := u2.at_ 2
  have g3 : w2.cell? ⟨w.heap.size + 1, 3, none⟩ = some (.string ⟨#[]⟩) := u2.at_ 3
  have g4 : w2.cell? ⟨w.heap.size + 1, 4, none⟩ = some (.int .i64 a) := u2.at_ 4
  clear k1 k2 u2 b1
  go_enter Tryz.func67, Tryz.ntmps67
  go_wp2
  by_cases hn : n = 0
  · subst hn
    by_cases hnum : num = 0
    · subst hnum
      by_cases ht : t = []
      · subst ht
        obtain rfl : S = ⟨#[]⟩ := hS.symm
        go_quiet (fail)
        go_wp2
        refine bodyPost_ret (v := .tuple #[.int .i64 2, .bool true]) (results_2 rfl _ _ _ _ rfl rfl) rfl ⟨2, true, rfl, Below.thenN b2 _, ?_, ?_⟩
        · exact fun _ => ⟨2, rfl, rfl⟩
        · exact nofun
      · have zl : (S.toList == ([] : List UInt8)) = false := by rw [← hS, ByteArray.toList_eq]; exact beq_eq_false_iff_ne.2 (by simpa [str] using ht)
        go_quiet (fail)
        go_wp2
        refine bodyPost_ret (v := .tuple #[.int .i64 2, .bool false]) (results_2 rfl _ _ _ _ rfl rfl) rfl ⟨2, false, rfl, Below.thenN b2 _, ?_, ?_⟩
        · exact nofun
        · intro _; unfold arity; dsimp only; rw [if_neg (by decide), if_neg (by decide), if_neg (by decide), if_neg ?_]; simp only [not_and]; intros; first | contradiction | omega | simp_all
    · have znum : ((num : Int) == 0) = false := beq_eq_false_iff_ne.2 (by omega)
      go_quiet (fail)
      go_wp2
      refine bodyPost_ret (v := .tuple #[.int .i64 2, .bool false]) (results_2 rfl _ _ _ _ rfl rfl) rfl ⟨2, false, rfl, Below.thenN b2 _, ?_, ?_⟩
      · exact nofun
      · intro _; unfold arity; dsimp only; rw [if_neg (by decide), if_neg (by decide), if_neg (by decide), if_neg ?_]; simp only [not_and]; intros; first | contradiction | omega | simp_all
  · have zn : (n == 0) = false := beq_eq_false_iff_ne.2 hn
    go_quiet (fail)
    go_wp2
    refine bodyPost_ret (v := .tuple #[.int .i64 2, .bool false]) (results_2 rfl _ _ _ _ rfl rfl) rfl ⟨2, false, rfl, Below.thenN b2 _, ?_, ?_⟩
    · exact nofun
    · intro _; unfold arity; dsimp only; rw [if_neg (by decide), if_neg (by decide), if_neg (by decide), if_neg ?_]; simp only [not_and]; intros; first | contradiction | omega | simp_all

set_option maxRecDepth 100000 in
set_option maxHeartbeats 4000000 in
theorem kids10_any (w : World) (n : Int) (num : Nat) (t : List UInt8) (a : Int) : Calls Tryz.prog 67 #[.agg #[.int .i64 10, .int .i64 n, .int .u64 (num : Nat), .string (str t), .int .i64 a]] w (KidsAt ⟨10, n, num, t, a⟩ w) := by
  obtain ⟨S, hS⟩ : ∃ S, str t = S := ⟨_, rfl⟩
  rw [hS]
  obtain ⟨w1, hw1⟩ : ∃ w1, w.alloc (.cells #[.int .i64 10, .int .i64 n, .int .u64 (num : Nat), .string S, .int .i64 a] 64) = w1 := ⟨_, rfl⟩
  have b1 : Below w.heap.size w w1 := by rw [← hw1]; exact (Below.refl _ w).alloc (Nat.le_refl _) _
  have k1 : CB w1 w.heap.size 64 #[.int .i64 10, .int .i64 n, .int .u64 (num : Nat), .string S, .int .i64 a] := by rw [← hw1]; exact CB.new w _ _
  have s1 : w1.heap.size = w.heap.size + 1 := by rw [← hw1]; simp
  have c0 : w1.cell? ⟨w.heap.size, 0, none⟩ = some (.int .i64 10) := k1.at_ 0
  have c1 : w1.cell? ⟨w.heap.size, 1, none⟩ = some (.int .i64 n) := k1.at_ 1
  have c2 : w1.cell? ⟨w.heap.size, 2, none⟩ = some (.int .u64 (num : Nat)) := k1.at_ 2
  have c3 : w1.cell? ⟨w.heap.size, 3, none⟩ = some (.string S) := k1.at_ 3
  have c4 : w1.cell? ⟨w.heap.size, 4, none⟩ = some (.int .i64 a) := k1.at_ 4
  obtain ⟨w2, hw2⟩ : ∃ w2, w1.alloc (.cells #[.int .i64 10, .int .i64 0, .int .u64 0, .string ⟨#[]⟩, .int .i64 a] 64) = w2 := ⟨_, rfl⟩
  have b2 : Below w.heap.size w w2 := by rw [← hw2]; exact b1.trans ((Below.refl _ w1).alloc (by omega) _)
  have k2 : CB w2 w.heap.size 64 #[.int .i64 10, .int .i64 n, .int .u64 (num : Nat), .string S, .int .i64 a] := by rw [← hw2]; exact k1.below ((Below.refl _ w1).alloc (Nat.le_refl _) _)
  have u2 : CB w2 (w.heap.size + 1) 64 #[.int .i64 10, .int .i64 0, .int .u64 0, .string ⟨#[]⟩, .int .i64 a] := by rw [← s1, ← hw2]; exact CB.new w1 _ _
  have d0 : w2.cell? ⟨w.heap.size, 0, none⟩ = some (.int .i64 10) := k2.at_ 0
  have d1 : w2.cell? ⟨w.heap.size, 1, none⟩ = some (.int .i64 n) := k2.at_ 1
  have d2 : w2.cell? ⟨w.heap.size, 2, none⟩ = some (.int .u64 (num : Nat)) := k2.at_ 2
  have d3 : w2.cell? ⟨w.heap.size, 3, none⟩ = some (.string S) := k2.at_ 3
  have d4 : w2.cell? ⟨w.heap.size, 4, none⟩ = some (.int .i64 a) := k2.at_ 4
  have g0 : w2.cell? ⟨w.heap.size + 1, 0, none⟩ = some (.int .i64 10) := u2.at_ 0
  have g1 : w2.cell? ⟨w.heap.size + 1, 1, none⟩ = some (.int .i64 0) := u2.at_ 1
  have g2 : w2.cell? ⟨w.heap.size + 1, 2, none⟩ = some (.int .u64 0) := u2.at_ 2
  have g3 : w2.cell? ⟨w.heap.size + 1, 3, none⟩ = some (.string ⟨#[]⟩) := u2.at_ 3
  have g4 : w2.cell? ⟨w.heap.size + 1, 4, none⟩ = some (.int .i64 a) := u2.at_ 4
  clear k1 k2 u2 b1
  go_enter Tryz.func67, Tryz.ntmps67
  go_wp2
  by_cases hn : n = 0
  · subst hn
    by_cases hnum : num = 0
    · subst hnum
      by_cases ht : t = []
      · subst ht
        obtain rfl : S = ⟨#[]⟩ := hS.symm
        go_quiet (fail)
        go_wp2
        refine bodyPost_ret (v := .tuple #[.int .i64 2, .bool true]) (results_2 rfl _ _ _ _ rfl rfl) rfl ⟨2, true, rfl, Below.thenN b2 _, ?_, ?_⟩
        · exact fun _ => ⟨2, rfl, rfl⟩
        · exact nofun
      · have zl : (S.toList == ([] : List UInt8)) = false := by rw [← hS, ByteArray.toList_eq]; exact beq_eq_false_iff_ne.2 (by simpa [str] using ht)
        go_quiet (fail)
        go_wp2
        refine bodyPost_ret (v := .tuple #[.int .i64 2, .bool false]) (results_2 rfl _ _ _ _ rfl rfl) rfl ⟨2, false, rfl, Below.thenN b2 _, ?_, ?_⟩
        · exact nofun
        · intro _; unfold arity; dsimp only; rw [if_neg (by decide), if_neg (by decide), if_neg (by decide), if_neg ?_]; simp only [not_and]; intros; first | contradiction | omega | simp_all
    · have znum : ((num : Int) == 0) = false := beq_eq_false_iff_ne.2 (by omega)
      go_quiet (fail)
      go_wp2
      refine bodyPost_ret (v := .tuple #[.int .i64 2, .bool false]) (results_2 rfl _ _ _ _ rfl rfl) rfl ⟨2, false, rfl, Below.thenN b2 _, ?_, ?_⟩
      · exact nofun
      · intro _; unfold arity; dsimp only; rw [if_neg (by decide), if_neg (by decide), if_neg (by decide), if_neg ?_]; simp only [not_and]; intros; first | contradiction | omega | simp_all
  · have zn : (n == 0) = false := beq_eq_false_iff_ne.2 hn
    go_quiet (fail)
    go_wp2
    refine bodyPost_ret (v := .tuple #[.int .i64 2, .bool false]) (results_2 rfl _ _ _ _ rfl rfl) rfl ⟨2, false, rfl, Below.thenN b2 _, ?_, ?_⟩
    · exact nofun
    · intro _; unfold arity; dsimp only; rw [if_neg (by decide), if_neg (by decide), if_neg (by decide), if_neg ?_]; simp only [not_and]; intros; first | contradiction | omega | simp_all

set_option maxRecDepth 100000 in
set_option maxHeartbeats 4000000 in
theorem kids11_any (w : World) (n : Int) (num : Nat) (t : List UInt8) (a : Int) : Calls Tryz.prog 67 #[.agg #[.int .i64 11, .int .i64 n, .int .u64 (num : Nat), .string (str t), .int .i64 a]] w (KidsAt ⟨11, n, num, t, a⟩ w) := by
  obtain ⟨S, hS⟩ : ∃ S, str t = S := ⟨_, rfl⟩
  rw [hS]
  obtain ⟨w1, hw1⟩ : ∃ w1, w.alloc (.cells #[.int .i64 11, .int .i64 n, .int .u64 (num : Nat), .string S, .int .i64 a] 64) = w1 := ⟨_, rfl⟩
  have b1 : Below w.heap.size w w1 := by rw [← hw1]; exact (Below.refl _ w).alloc (Nat.le_refl _) _
  have k1 : CB w1 w.heap.size 64 #[.int .i64 11, .int .i64 n, .int .u64 (num : Nat), .string S, .int .i64 a] := by rw [← hw1]; exact CB.new w _ _
  have s1 : w1.heap.size = w.heap.size + 1 := by rw [← hw1]; simp
  have c0 : w1.cell? ⟨w.heap.size, 0, none⟩ = some (.int .i64 11) := k1.at_ 0
  have c1 : w1.cell? ⟨w.heap.size, 1, none⟩ = some (.int .i64 n) := k1.at_ 1
  have c2 : w1.cell? ⟨w.heap.size, 2, none⟩ = some (.int .u64 (num : Nat)) := k1.at_ 2
  have c3 : w1.cell? ⟨w.heap.size, 3, none⟩ = some (.string S) := k1.at_ 3
  have c4 : w1.cell? ⟨w.heap.size, 4, none⟩ = some (.int .i64 a) := k1.at_ 4
  obtain ⟨w2, hw2⟩ : ∃ w2, w1.alloc (.cells #[.int .i64 11, .int .i64 0, .int .u64 0, .string ⟨#[]⟩, .int .i64 a] 64) = w2 := ⟨_, rfl⟩
  have b2 : Below w.heap.size w w2 := by rw [← hw2]; exact b1.trans ((Below.refl _ w1).alloc (by omega) _)
  have k2 : CB w2 w.heap.size 64 #[.int .i64 11, .int .i64 n, .int .u64 (num : Nat), .string S, .int .i64 a] := by rw [← hw2]; exact k1.below ((Below.refl _ w1).alloc (Nat.le_refl _) _)
  have u2 : CB w2 (w.heap.size + 1) 64 #[.int .i64 11, .int .i64 0, .int .u64 0, .string ⟨#[]⟩, .int .i64 a] := by rw [← s1, ← hw2]; exact CB.new w1 _ _
  have d0 : w2.cell? ⟨w.heap.size, 0, none⟩ = some (.int .i64 11) := k2.at_ 0
  have d1 : w2.cell? ⟨w.heap.size, 1, none⟩ = some (.int .i64 n) := k2.at_ 1
  have d2 : w2.cell? ⟨w.heap.size, 2, none⟩ = some (.int .u64 (num : Nat)) := k2.at_ 2
  have d3 : w2.cell? ⟨w.heap.size, 3, none⟩ = some (.string S) := k2.at_ 3
  have d4 : w2.cell? ⟨w.heap.size, 4, none⟩ = some (.int .i64 a) := k2.at_ 4
  have g0 : w2.cell? ⟨w.heap.size + 1, 0, none⟩ = some (.int .i64 11) := u2.at_ 0
  have g1 : w2.cell? ⟨w.heap.size + 1, 1, none⟩ = some (.int .i64 0) := u2.at_ 1
  have g2 : w2.cell? ⟨w.heap.size + 1, 2, none⟩ = some (.int .u64 0) := u2.at_ 2
  have g3 : w2.cell? ⟨w.heap.size + 1, 3, none⟩ = some (.string ⟨#[]⟩) := u2.at_ 3
  have g4 : w2.cell? ⟨w.heap.size + 1, 4, none⟩ = some (.int .i64 a) := u2.at_ 4
  clear k1 k2 u2 b1
  go_enter Tryz.func67, Tryz.ntmps67
  go_wp2
  by_cases hn : n = 0
  · subst hn
    by_cases hnum : num = 0
    · subst hnum
      by_cases ht : t = []
      · subst ht
        obtain rfl : S = ⟨#[]⟩ := hS.symm
        go_quiet (fail)
        go_wp2
        refine bodyPost_ret (v := .tuple #[.int .i64 1, .bool true]) (results_2 rfl _ _ _ _ rfl rfl) rfl ⟨1, true, rfl, Below.thenN b2 _, ?_, ?_⟩
        · exact fun _ => ⟨1, rfl, rfl⟩
        · exact nofun
      · have zl : (S.toList == ([] : List UInt8)) = false := by rw [← hS, ByteArray.toList_eq]; exact beq_eq_false_iff_ne.2 (by simpa [str] using ht)
        go_quiet (fail)
        go_wp2
        refine bodyPost_ret (v := .tuple #[.int .i64 1, .bool false]) (results_2 rfl _ _ _ _ rfl rfl) rfl ⟨1, false, rfl, Below.thenN b2 _, ?_, ?_⟩
        · exact nofun
        · intro _; unfold arity; dsimp only; rw [if_neg (by decide), if_neg (by decide), if_neg (by decide), if_neg ?_]; simp only [not_and]; intros; first | contradiction | omega | simp_all
    · have znum : ((num : Int) == 0) = false := beq_eq_false_iff_ne.2 (by omega)
      go_quiet (fail)
      go_wp2
      refine bodyPost_ret (v := .tuple #[.int .i64 1, .bool false]) (results_2 rfl _ _ _ _ rfl rfl) rfl ⟨1, false, rfl, Below.thenN b2 _, ?_, ?_⟩
      · exact nofun
      · intro _; unfold arity; dsimp only; rw [if_neg (by decide), if_neg (by decide), if_neg (by decide), if_neg ?_]; simp only [not_and]; intros; first | contradiction | omega | simp_all
  · have zn : (n == 0) = false := beq_eq_false_iff_ne.2 hn
    go_quiet (fail)
    go_wp2
    refine bodyPost_ret (v := .tuple #[.int .i64 1, .bool false]) (results_2 rfl _ _ _ _ rfl rfl) rfl ⟨1, false, rfl, Below.thenN b2 _, ?_, ?_⟩
    · exact nofun
    · intro _; unfold arity; dsimp only; rw [if_neg (by decide), if_neg (by decide), if_neg (by decide), if_neg ?_]; simp only [not_and]; intros; first | contradiction | omega | simp_all

set_option maxRecDepth 100000 in
set_option maxHeartbeats 4000000 in
theorem kids12_any (w : World) (n : Int) (num : Nat) (t : List UInt8) (a : Int) : Calls Tryz.prog 67 #[.agg #[.int .i64 12, .int .i64 n, .int .u64 (num : Nat), .string (str t), .int .i64 a]] w (KidsAt ⟨12, n, num, t, a⟩ w) := by
  obtain ⟨S, hS⟩ : ∃ S, str t = S := ⟨_, rfl⟩
  rw [hS]
  obtain ⟨w1, hw1⟩ : ∃ w1, w.alloc (.cells #[.int .i64 12, .int .i64 n, .int .u64 (num : Nat), .string S, .int .i64 a] 64) = w1 := ⟨_, rfl⟩
  have b1 : Below w.heap.size w w1 := by rw [← hw1]; exact (Below.refl _ w).alloc (Nat.le_refl _) _
  have k1 : CB w1 w.heap.size 64 #[.int .i64 12, .int .i64 n, .int .u64 (num : Nat), .string S, .int .i64 a] := by rw [← hw1]; exact CB.new w _ _
  have s1 : w1.heap.size = w.heap.size + 1 := by rw [← hw1]; simp
  have c0 : w1.cell? ⟨w.heap.size, 0, none⟩ = some (.int .i64 12) := k1.at_ 0
  have c1 : w1.cell? ⟨w.heap.size, 1, none⟩ = some (.int .i64 n) := k1.at_ 1
  have c2 : w1.cell? ⟨w.heap.size, 2, none⟩ = some (.int .u64 (num : Nat)) := k1.at_ 2
  have c3 : w1.cell? ⟨w.heap.size, 3, none⟩ = some (.string S) := k1.at_ 3
  have c4 : w1.cell? ⟨w.heap.size, 4, none⟩ = some (.int .i64 a) := k1.at_ 4
  obtain ⟨w2, hw2⟩ : ∃ w2, w1.alloc (.cells #[.int .i64 12, .int .i64 0, .int .u64 0, .string ⟨#[]⟩, .int .i64 a] 64) = w2 := ⟨_, rfl⟩
  have b2 : Below w.heap.size w w2 := by rw [← hw2]; exact b1.trans ((Below.refl _ w1).alloc (by omega) _)
  have k2 : CB w2 w.heap.size 64 #[.int .i64 12, .int .i64 n, .int .u64 (num : Nat), .string S, .int .i64 a] := by rw [← hw2]; exact k1.below ((Below.refl _ w1).alloc (Nat.le_refl _) _)
  have u2 : CB w2 (w.heap.size + 1) 64 #[.int .i64 12, .int .i64 0, .int .u64 0, .string ⟨#[]⟩, .int .i64 a] := by rw [← s1, ← hw2]; exact CB.new w1 _ _
  have d0 : w2.cell? ⟨w.heap.size, 0, none⟩ = some (.int .i64 12) := k2.at_ 0
  have d1 : w2.cell? ⟨w.heap.size, 1, none⟩ = some (.int .i64 n) := k2.at_ 1
  have d2 : w2.cell? ⟨w.heap.size, 2, none⟩ = some (.int .u64 (num : Nat)) := k2.at_ 2
  have d3 : w2.cell? ⟨w.heap.size, 3, none⟩ = some (.string S) := k2.at_ 3
  have d4 : w2.cell? ⟨w.heap.size, 4, none⟩ = some (.int .i64 a) := k2.at_ 4
  have g0 : w2.cell? ⟨w.heap.size + 1, 0, none⟩ = some (.int .i64 12) := u2.at_ 0
  have g1 : w2.cell? ⟨w.heap.size + 1, 1, none⟩ = some (.int .i64 0) := u2.at_ 1
  have g2 : w2.cell? ⟨w.heap.size + 1, 2, none⟩ = some (.int .u64 0) := u2.at_ 2
  have g3 : w2.cell? ⟨w.heap.size + 1, 3, none⟩ = some (.string ⟨#[]⟩) := u2.at_ 3
  have g4 : w2.cell? ⟨w.heap.size + 1, 4, none⟩ = some (.int .i64 a) := u2.at_ 4
  clear k1 k2 u2 b1
  go_enter Tryz.func67, Tryz.ntmps67
  go_wp2
  by_cases hn : n = 0
  · subst hn
    by_cases hnum : num = 0
    · subst hnum
      by_cases ht : t = []
      · subst ht
        obtain rfl : S = ⟨#[]⟩ := hS.symm
        go_quiet (fail)
        go_wp2
        refine bodyPost_ret (v := .tuple #[.int .i64 1, .bool true]) (results_2 rfl _ _ _ _ rfl rfl) rfl ⟨1, true, rfl, Below.thenN b2 _, ?_, ?_⟩
        · exact fun _ => ⟨1, rfl, rfl⟩
        · exact nofun
      · have zl : (S.toList == ([] : List UInt8)) = false := by rw [← hS, ByteArray.toList_eq]; exact beq_eq_false_iff_ne.2 (by simpa [str] using ht)
        go_quiet (fail)
        go_wp2
        refine bodyPost_ret (v := .tuple #[.int .i64 1, .bool false]) (results_2 rfl _ _ _ _ rfl rfl) rfl ⟨1, false, rfl, Below.thenN b2 _, ?_, ?_⟩
        · exact nofun
        · intro _; unfold arity; dsimp only; rw [if_neg (by decide), if_neg (by decide), if_neg (by decide), if_neg ?_]; simp only [not_and]; intros; first | contradiction | omega | simp_all
    · have znum : ((num : Int) == 0) = false := beq_eq_false_iff_ne.2 (by omega)
      go_quiet (fail)
      go_wp2
      refine bodyPost_ret (v := .tuple #[.int .i64 1, .bool false]) (results_2 rfl _ _ _ _ rfl rfl) rfl ⟨1, false, rfl, Below.thenN b2 _, ?_, ?_⟩
      · exact nofun
      · intro _; unfold arity; dsimp only; rw [if_neg (by decide), if_neg (by decide), if_neg (by decide), if_neg ?_]; simp only [not_and]; intros; first | contradiction | omega | simp_all
  · have zn : (n == 0) = false := beq_eq_false_iff_ne.2 hn
    go_quiet (fail)
    go_wp2
    refine bodyPost_ret (v := .tuple #[.int .i64 1, .bool false]) (results_2 rfl _ _ _ _ rfl rfl) rfl ⟨1, false, rfl, Below.thenN b2 _, ?_, ?_⟩
    · exact nofun
    · intro _; unfold arity; dsimp only; rw [if_neg (by decide), if_neg (by decide), if_neg (by decide), if_neg ?_]; simp only [not_and]; intros; first | contradiction | omega | simp_all

set_option maxRecDepth 100000 in
set_option maxHeartbeats 4000000 in
theorem kids9_any (w : World) (n : Int) (num : Nat) (t : List UInt8) (a : Int) (h1 : 1 ≤ n) : Calls Tryz.prog 67 #[.agg #[.int .i64 9, .int .i64 n, .int .u64 (num : Nat), .string (str t), .int .i64 a]] w (KidsAt ⟨9, n, num, t, a⟩ w) := by
  obtain ⟨S, hS⟩ : ∃ S, str t = S := ⟨_, rfl⟩
  rw [hS]
  obtain ⟨w1, hw1⟩ : ∃ w1, w.alloc (.cells #[.int .i64 9, .int .i64 n, .int .u64 (num : Nat), .string S, .int .i64 a] 64) = w1 := ⟨_, rfl⟩
  have b1 : Below w.heap.size w w1 := by rw [← hw1]; exact (Below.refl _ w).alloc (Nat.le_refl _) _
  have k1 : CB w1 w.heap.size 64 #[.int .i64 9, .int .i64 n, .int .u64 (num : Nat), .string S, .int .i64 a] := by rw [← hw1]; exact CB.new w _ _
  have s1 : w1.heap.size = w.heap.size + 1 := by rw [← hw1]; simp
  have c0 : w1.cell? ⟨w.heap.size, 0, none⟩ = some (.int .i64 9) := k1.at_ 0
  have c1 : w1.cell? ⟨w.heap.size, 1, none⟩ = some (.int .i64 n) := k1.at_ 1
  have c2 : w1.cell? ⟨w.heap.size, 2, none⟩ = some (.int .u64 (num : Nat)) := k1.at_ 2
  have c3 : w1.cell? ⟨w.heap.size, 3, none⟩ = some (.string S) := k1.at_ 3
  have c4 : w1.cell? ⟨w.heap.size, 4, none⟩ = some (.int .i64 a) := k1.at_ 4
  obtain ⟨w2, hw2⟩ : ∃ w2, w1.alloc (.cells #[.int .i64 9, .int .i64 n, .int .u64 0, .string ⟨#[]⟩, .int .i64 a] 64) = w2 := ⟨_, rfl⟩
  have b2 : Below w.heap.size w w2 := by rw [← hw2]; exact b1.trans ((Below.refl _ w1).alloc (by omega) _)
  have k2 : CB w2 w.heap.size 64 #[.int .i64 9, .int .i64 n, .int .u64 (num : Nat), .string S, .int .i64 a] := by rw [← hw2]; exact k1.below ((Below.refl _ w1).alloc (Nat.le_refl _) _)
  have u2 : CB w2 (w.heap.size + 1) 64 #[.int .i64 9, .int .i64 n, .int .u64 0, .string ⟨#[]⟩, .int .i64 a] := by rw [← s1, ← hw2]; exact CB.new w1 _ _
  have d0 : w2.cell? ⟨w.heap.size, 0, none⟩ = some (.int .i64 9) := k2.at_ 0
  have d1 : w2.cell? ⟨w.heap.size, 1, none⟩ = some (.int .i64 n) := k2.at_ 1
  have d2 : w2.cell? ⟨w.heap.size, 2, none⟩ = some (.int .u64 (num : Nat)) := k2.at_ 2
  have d3 : w2.cell? ⟨w.heap.size, 3, none⟩ = some (.string S) := k2.at_ 3
  have d4 : w2.cell? ⟨w.heap.size, 4, none⟩ = some (.int .i64 a) := k2.at_ 4
  have g0 : w2.cell? ⟨w.heap.size + 1, 0, none⟩ = some (.int .i64 9) := u2.at_ 0
  have g1 : w2.cell? ⟨w.heap.size + 1, 1, none⟩ = some (.int .i64 n) := u2.at_ 1
  have g2 : w2.cell? ⟨w.heap.size + 1, 2, none⟩ = some (.int .u64 0) := u2.at_ 2
  have g3 : w2.cell? ⟨w.heap.size + 1, 3, none⟩ = some (.string ⟨#[]⟩) := u2.at_ 3
  have g4 : w2.cell? ⟨w.heap.size + 1, 4, none⟩ = some (.int .i64 a) := u2.at_ 4
  clear k1 k2 u2 b1
  go_enter Tryz.func67, Tryz.ntmps67
  go_wp2
  by_cases hnum : num = 0
  · subst hnum
    by_cases ht : t = []
    · subst ht
      obtain rfl : S = ⟨#[]⟩ := hS.symm
      go_quiet (fail)
      go_wp2
      refine bodyPost_ret (v := .tuple #[.int .i64 n, .bool true]) (results_2 rfl _ _ _ _ rfl rfl) rfl ⟨n, true, rfl, Below.thenN b2 _, ?_, ?_⟩
      · exact fun _ => ⟨n.toNat, by omega, by unfold arity; dsimp only; rw [if_neg (by decide), if_neg (by decide), if_pos rfl, if_pos ⟨h1, rfl, rfl⟩]⟩
      · exact nofun
    · have zl : (S.toList == ([] : List UInt8)) = false := by rw [← hS, ByteArray.toList_eq]; exact beq_eq_false_iff_ne.2 (by simpa [str] using ht)
      go_quiet (fail)
      go_wp2
      refine bodyPost_ret (v := .tuple #[.int .i64 n, .bool false]) (results_2 rfl _ _ _ _ rfl rfl) rfl ⟨n, false, rfl, Below.thenN b2 _, ?_, ?_⟩
      · exact nofun
      · intro _; unfold arity; dsimp only; rw [if_neg (by decide), if_neg (by decide), if_pos rfl, if_neg ?_]; simp only [not_and]; intros; first | contradiction | omega | simp_all
  · have znum : ((num : Int) == 0) = false := beq_eq_false_iff_ne.2 (by omega)
    go_quiet (fail)
    go_wp2
    refine bodyPost_ret (v := .tuple #[.int .i64 n, .bool false]) (results_2 rfl _ _ _ _ rfl rfl) rfl ⟨n, false, rfl, Below.thenN b2 _, ?_, ?_⟩
    · exact nofun
    · intro _; unfold arity; dsimp only; rw [if_neg (by decide), if_neg (by decide), if_pos rfl, if_neg ?_]; simp only [not_and]; intros; first | contradiction | omega | simp_all

set_option maxRecDepth 100000 in
set_option maxHeartbeats 4000000 in
theorem kids9n_any (w : World) (n : Int) (num : Nat) (t : List UInt8) (a : Int) (h1 : ¬ 1 ≤ n) : Calls Tryz.prog 67 #[.agg #[.int .i64 9, .int .i64 n, .int .u64 (num : Nat), .string (str t), .int .i64 a]] w (KidsAt ⟨9, n, num, t, a⟩ w) := by
  obtain ⟨S, hS⟩ : ∃ S, str t = S := ⟨_, rfl⟩
  rw [hS]
  obtain ⟨w1, hw1⟩ : ∃ w1, w.alloc (.cells #[.int .i64 9, .int .i64 n, .int .u64 (num : Nat), .string S, .int .i64 a] 64) = w1 := ⟨_, rfl⟩
  have b1 : Below w.heap.size w w1 := by rw [← hw1]; exact (Below.refl _ w).alloc (Nat.le_refl _) _
  have k1 : CB w1 w.heap.size 64 #[.int .i64 9, .int .i64 n, .int .u64 (num : Nat), .string S, .int .i64 a] := by rw [← hw1]; exact CB.new w _ _
  have s1 : w1.heap.size = w.heap.size + 1 := by rw [← hw1]; simp
  have c0 : w1.cell? ⟨w.heap.size, 0, none⟩ = some (.int .i64 9) := k1.at_ 0
  have c1 : w1.cell? ⟨w.heap.size, 1, none⟩ = some (.int .i64 n) := k1.at_ 1
  have c4 : w1.cell? ⟨w.heap.size, 4, none⟩ = some (.int .i64 a) := k1.at_ 4
  obtain ⟨w2, hw2⟩ : ∃ w2, w1.alloc (.cells #[.int .i64 9, .int .i64 n, .int .u64 0, .string ⟨#[]⟩, .int .i64 a] 64) = w2 := ⟨_, rfl⟩
  have b2 : Below w.heap.size w w2 := by rw [← hw2]; exact b1.trans ((Below.refl _ w1).alloc (by omega) _)
  have k2 : CB w2 w.heap.size 64 #[.int .i64 9, .int .i64 n, .int .u64 (num : Nat), .string S, .int .i64 a] := by rw [← hw2]; exact k1.below ((Below.refl _ w1).alloc (Nat.le_refl _) _)
  have d1 : w2.cell? ⟨w.heap.size, 1, none⟩ = some (.int .i64 n) := k2.at_ 1
  have hlt : n < 1 := by omega
  clear k1 k2 b1
  go_enter Tryz.func67, Tryz.ntmps67
  go_wp2
  refine bodyPost_ret (v := .tuple #[.int .i64 0, .bool false]) (results_2 rfl _ _ _ _ rfl rfl) rfl ⟨0, false, rfl, b2, nofun, ?_⟩
  intro _
  unfold arity
  dsimp only
  rw [if_neg (by decide), if_neg (by decide), if_pos rfl, if_neg (fun k => absurd k.1 (by omega))]

set_option maxRecDepth 100000 in
set_option maxHeartbeats 4000000 in
theorem kidsN_any (w : World) (op n : Int) (num : Nat) (t : List UInt8) (a : Int) (h : ¬ (1 ≤ op ∧ op ≤ 12)) : Calls Tryz.prog 67 #[.agg #[.int .i64 op, .int .i64 n, .int .u64 (num : Nat), .string (str t), .int .i64 a]] w (KidsAt ⟨op, n, num, t, a⟩ w) := by
  obtain ⟨S, hS⟩ : ∃ S, str t = S := ⟨_, rfl⟩
  rw [hS]
  obtain ⟨w1, hw1⟩ : ∃ w1, w.alloc (.cells #[.int .i64 op, .int .i64 n, .int .u64 (num : Nat), .string S, .int .i64 a] 64) = w1 := ⟨_, rfl⟩
  have b1 : Below w.heap.size w w1 := by rw [← hw1]; exact (Below.refl _ w).alloc (Nat.le_refl _) _
  have k1 : CB w1 w.heap.size 64 #[.int .i64 op, .int .i64 n, .int .u64 (num : Nat), .string S, .int .i64 a] := by rw [← hw1]; exact CB.new w _ _
  have s1 : w1.heap.size = w.heap.size + 1 := by rw [← hw1]; simp
  have c0 : w1.cell? ⟨w.heap.size, 0, none⟩ = some (.int .i64 op) := k1.at_ 0
  have c4 : w1.cell? ⟨w.heap.size, 4, none⟩ = some (.int .i64 a) := k1.at_ 4
  obtain ⟨w2, hw2⟩ : ∃ w2, w1.alloc (.cells #[.int .i64 op, .int .i64 0, .int .u64 0, .string ⟨#[]⟩, .int .i64 a] 64) = w2 := ⟨_, rfl⟩
  have b2 : Below w.heap.size w w2 := by rw [← hw2]; exact b1.trans ((Below.refl _ w1).alloc (by omega) _)
  have k2 : CB w2 w.heap.size 64 #[.int .i64 op, .int .i64 n, .int .u64 (num : Nat), .string S, .int .i64 a] := by rw [← hw2]; exact k1.below ((Below.refl _ w1).alloc (Nat.le_refl _) _)
  have d0 : w2.cell? ⟨w.heap.size, 0, none⟩ = some (.int .i64 op) := k2.at_ 0
  have q : ∀ k : Int, 1 ≤ k → k ≤ 12 → (op == k) = false := fun k h1 h2 => beq_eq_false_iff_ne.2 (by omega)
  have q1 := q 1 (by decide) (by decide)
  have q2 := q 2 (by decide) (by decide)
  have q3 := q 3 (by decide) (by decide)
  have q4 := q 4 (by decide) (by decide)
  have q5 := q 5 (by decide) (by decide)
  have q6 := q 6 (by decide) (by decide)
  have q7 := q 7 (by decide) (by decide)
  have q8 := q 8 (by decide) (by decide)
  have q9 := q 9 (by decide) (by decide)
  have q10 := q 10 (by decide) (by decide)
  have q11 := q 11 (by decide) (by decide)
  have q12 := q 12 (by decide) (by decide)
  clear k1 k2 b1 q
  go_enter Tryz.func67, Tryz.ntmps67
  go_wp2
  refine bodyPost_ret (v := .tuple #[.int .i64 0, .bool false]) (results_2 rfl _ _ _ _ rfl rfl) rfl ⟨0, false, rfl, b2, nofun, ?_⟩
  intro _
  unfold arity
  dsimp only
  rw [if_neg (by omega), if_neg (by omega), if_neg (by omega)]
  split
  · rw [if_neg (by omega), if_neg (by omega), if_neg (by omega)]
  · rfl

theorem kidsOf_any (w : World) (x : Rn) : Calls Tryz.prog 67 #[.agg #[.int .i64 x.op, .int .i64 x.n, .int .u64 (x.num : Nat), .string (str x.t), .int .i64 x.a]] w (KidsAt x w) := by
  obtain ⟨op, n, num, t, a⟩ := x
  by_cases h : 1 ≤ op ∧ op ≤ 12
  · have hc : op = 1 ∨ op = 2 ∨ op = 3 ∨ op = 4 ∨ op = 5 ∨ op = 6 ∨ op = 7 ∨ op = 8 ∨ op = 9 ∨ op = 10 ∨ op = 11 ∨ op = 12 := by omega
    rcases hc with rfl | rfl | rfl | rfl | rfl | rfl | rfl | rfl | rfl | rfl | rfl | rfl
    · exact kids1_any w n num t a
    · exact kids2_any w n num t a
    · exact kids3_any w n num t a
    · exact kids4_any w n num t a
    · exact kids5_any w n num t a
    · exact kids6_any w n num t a
    · exact kids7_any w n num t a
    · exact kids8_any w n num t a
    · by_cases h1 : 1 ≤ n
      · exact kids9_any w n num t a h1
      · exact kids9n_any w n num t a h1
    · exact kids10_any w n num t a
    · exact kids11_any w n num t a
    · exact kids12_any w n num t a
  · exact kidsN_any w op n num t a h
end Go.Proofs.YtipcgmaobiobbaaGreatDoor
