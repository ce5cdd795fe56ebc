/- Words on memory that every book rests on: which blocks may have turned; a row of entries. No walk here. -/
import Derived.WalkKit
import Derived.WalkSpells
import Derived.WalkLawsBesides
import Derived.Handy
import Derived.Lib.Hide
namespace Go.Proofs.Ytgdeeojamnbakaa
open Go.RowKit

/-- Of what was there only the blocks of S may have turned. -/
structure Only (S : List Nat) (w w' : World) : Prop where
  os : w'.os = w.os
  tape : w'.tape = w.tape
  output : w'.output = w.output
  size : w.heap.size ≤ w'.heap.size
  block : ∀ k, k < w.heap.size → k ∉ S → w'.heap[k]? = w.heap[k]?

theorem Only.refl (S : List Nat) (w : World) : Only S w w := ⟨rfl, rfl, rfl, Nat.le_refl _, fun _ _ _ => rfl⟩

theorem Only.of_below {w w' : World} (S : List Nat) (h : Below w.heap.size w w') : Only S w w' :=
  ⟨h.os, h.tape, h.output, h.size, fun k hk _ => h.block k hk⟩

theorem Only.below {w w' : World} (h : Only [] w w') : Below w.heap.size w w' :=
  ⟨h.os, h.tape, h.output, h.size, fun k hk => h.block k hk (by simp)⟩

theorem Only.weaken {S T : List Nat} {w w' : World} (h : Only S w w') (hs : ∀ k, k < w.heap.size → k ∈ S → k ∈ T) : Only T w w' :=
  ⟨h.os, h.tape, h.output, h.size, fun k hk hn => h.block k hk (fun hm => hn (hs k hk hm))⟩

/-- Two steps: the second may have turned what the first has made. -/
theorem Only.trans {S T U : List Nat} {a b c : World} (h : Only S a b) (g : Only T b c) (hs : ∀ k, k < a.heap.size → k ∈ S → k ∈ U) (ht : ∀ k, k < a.heap.size → k ∈ T → k ∈ U) : Only U a c :=
  ⟨g.os.trans h.os, g.tape.trans h.tape, g.output.trans h.output, Nat.le_trans h.size g.size, fun k hk hn =>
    (g.block k (Nat.lt_of_lt_of_le hk h.size) (fun hm => hn (ht k hk hm))).trans (h.block k hk (fun hm => hn (hs k hk hm)))⟩

theorem Only.same {S : List Nat} {a b c : World} (h : Only S a b) (g : Only S b c) : Only S a c := h.trans g (fun _ _ m => m) (fun _ _ m => m)

theorem Only.step {S : List Nat} {a b c : World} (h : Only S a b) (g : Below b.heap.size b c) : Only S a c := h.same (Only.of_below S g)

theorem Below.only {S : List Nat} {a b c : World} (h : Below a.heap.size a b) (g : Only S b c) : Only S a c := (Only.of_below S h).same g

theorem Below.both {a b c : World} (h : Below a.heap.size a b) (g : Below b.heap.size b c) : Below a.heap.size a c := h.trans (g.mono h.size)

theorem Only.cell {S : List Nat} {w w' : World} (h : Only S w w') {b o : Nat} (hb : b < w.heap.size) (hs : b ∉ S) : w'.cell? ⟨b, o, none⟩ = w.cell? ⟨b, o, none⟩ :=
  World.cell?_of_block (w := w) (a := ⟨b, o, none⟩) (h.block b hb hs)

theorem Below.drewN' (w : World) (d : Nat) : Below w.heap.size w (w.drewN d) := ⟨rfl, rfl, rfl, Nat.le_refl _, fun _ _ => rfl⟩

/-- A cell of a block that is known whole. -/
theorem cell_in {w : World} {b : Nat} {xs : Array Value} {t : TypeId} (h : w.heap[b]? = some (.cells xs t (0, 0))) (o : Nat) {v : Value} (hv : xs[o]? = some v) : w.cell? ⟨b, o, none⟩ = some v := by
  rw [cell_of_row w b o xs t (0, 0) h]
  simpa using hv

theorem lt_of_block {w : World} {b : Nat} {o : Obj} (h : w.heap[b]? = some o) : b < w.heap.size := (Array.getElem?_eq_some_iff.1 h).1

/-- What a row owns stays as long as its block does. -/
theorem rows_kept {w w' : World} {base : Nat} {e : TypeId} {size : Nat} {v : Value} {n : Nat} {xs : List Value} (h : w.ownsRow base e size v n xs)
    (hk : ∀ g, v.ownBlock = some g → w'.heap[g]? = w.heap[g]?) : w'.ownsRow base e size v n xs := by
  refine ⟨h.1, ?_⟩
  rcases h.2 with hn | ⟨g, cap, cur, rfl, hb, hg, rest⟩
  · exact .inl hn
  · exact .inr ⟨g, cap, cur, rfl, hb, by rw [hk g rfl]; exact hg, rest⟩

theorem ret_int {k : IntKind} {a b : Int} (h : a = b) : Ending.returned (.int k a) = .returned (.int k b) := by rw [h]
theorem ret_pair {k : IntKind} {a b c d : Int} (h : a = c) (g : b = d) : Ending.returned (.tuple #[.int k a, .int k b]) = .returned (.tuple #[.int k c, .int k d]) := by rw [h, g]
theorem ret_bool {a b : Bool} (h : a = b) : Ending.returned (.bool a) = .returned (.bool b) := by rw [h]

theorem cell_new {w : World} {a : Addr} {v : Value} (h : w.cell? a = some v) (o : Obj) : (w.alloc o).cell? a = some v :=
  cell_later (Below.alloc (Below.refl _ _) (Nat.le_refl _) _) h

theorem frozen_new {w : World} {a : Addr} {x : Bool} (hb : a.block < w.heap.size) (h : w.frozen? a = x) (o : Obj) : (w.alloc o).frozen? a = x :=
  (World.frozen?_of_block (w := w) (heap_alloc_old w o hb)).trans h

/-- Four cells of one block written over. -/
theorem four_set {w : World} {B : Nat} {r0 r1 r2 r3 : Value} (x0 x1 x2 x3 : Value) (h0 : w.cell? ⟨B, 0, none⟩ = some r0) (h1 : w.cell? ⟨B, 1, none⟩ = some r1) (h2 : w.cell? ⟨B, 2, none⟩ = some r2) (h3 : w.cell? ⟨B, 3, none⟩ = some r3) :
    ((((w.setCell ⟨B, 0, none⟩ x0).setCell ⟨B, 1, none⟩ x1).setCell ⟨B, 2, none⟩ x2).setCell ⟨B, 3, none⟩ x3).cell? ⟨B, 0, none⟩ = some x0 ∧
    ((((w.setCell ⟨B, 0, none⟩ x0).setCell ⟨B, 1, none⟩ x1).setCell ⟨B, 2, none⟩ x2).setCell ⟨B, 3, none⟩ x3).cell? ⟨B, 1, none⟩ = some x1 ∧
    ((((w.setCell ⟨B, 0, none⟩ x0).setCell ⟨B, 1, none⟩ x1).setCell ⟨B, 2, none⟩ x2).setCell ⟨B, 3, none⟩ x3).cell? ⟨B, 2, none⟩ = some x2 ∧
    ((((w.setCell ⟨B, 0, none⟩ x0).setCell ⟨B, 1, none⟩ x1).setCell ⟨B, 2, none⟩ x2).setCell ⟨B, 3, none⟩ x3).cell? ⟨B, 3, none⟩ = some x3 := by
  have k1 : (w.setCell ⟨B, 0, none⟩ x0).cell? ⟨B, 1, none⟩ = some r1 := by rw [World.cell?_setCell_other _ _ _ _ (by simp), h1]
  have k2 : ((w.setCell ⟨B, 0, none⟩ x0).setCell ⟨B, 1, none⟩ x1).cell? ⟨B, 2, none⟩ = some r2 := by rw [World.cell?_setCell_other _ _ _ _ (by simp), World.cell?_setCell_other _ _ _ _ (by simp), h2]
  have k3 : (((w.setCell ⟨B, 0, none⟩ x0).setCell ⟨B, 1, none⟩ x1).setCell ⟨B, 2, none⟩ x2).cell? ⟨B, 3, none⟩ = some r3 := by
    rw [World.cell?_setCell_other _ _ _ _ (by simp), World.cell?_setCell_other _ _ _ _ (by simp), World.cell?_setCell_other _ _ _ _ (by simp), h3]
  refine ⟨?_, ?_, ?_, World.cell?_setCell_same _ _ _ k3⟩
  · rw [World.cell?_setCell_other _ _ _ _ (by simp), World.cell?_setCell_other _ _ _ _ (by simp), World.cell?_setCell_other _ _ _ _ (by simp)]
    exact World.cell?_setCell_same _ _ _ h0
  · rw [World.cell?_setCell_other _ _ _ _ (by simp), World.cell?_setCell_other _ _ _ _ (by simp)]
    exact World.cell?_setCell_same _ _ _ k1
  · rw [World.cell?_setCell_other _ _ _ _ (by simp)]
    exact World.cell?_setCell_same _ _ _ k2

/-- An entry. -/
structure Ent where
  fam : Int
  num : Int
  name : ByteArray
  size : Int

def Ent.row (e : Ent) : List Value := [.int .i64 e.fam, .int .i64 e.num, .string e.name, .int .i64 e.size]
def Ent.val (e : Ent) : Value := .agg #[.int .i64 e.fam, .int .i64 e.num, .string e.name, .int .i64 e.size]
def flat : List Ent → List Value
  | [] => []
  | e :: r => .int .i64 e.fam :: .int .i64 e.num :: .string e.name :: .int .i64 e.size :: flat r

theorem flat_length (es : List Ent) : (flat es).length = es.length * 4 := by
  induction es with
  | nil => rfl
  | cons e r ih => simp [flat, ih]; omega

theorem flat_one (es : List Ent) : ∀ u ∈ flat es, u.oneCell' = true := by
  induction es with
  | nil => intro u hu; simp [flat] at hu
  | cons e r ih =>
    intro u hu
    simp only [flat, List.mem_cons] at hu
    rcases hu with rfl | rfl | rfl | rfl | hu
    · rfl
    · rfl
    · rfl
    · rfl
    · exact ih u hu

theorem flat_append (a b : List Ent) : flat (a ++ b) = flat a ++ flat b := by
  induction a with
  | nil => rfl
  | cons e r ih => simp [flat, ih]

theorem flat_at (es : List Ent) : ∀ (k : Nat) (e : Ent), es[k]? = some e →
    (flat es)[k * 4]? = some (.int .i64 e.fam) ∧ (flat es)[k * 4 + 1]? = some (.int .i64 e.num) ∧ (flat es)[k * 4 + 2]? = some (.string e.name) ∧ (flat es)[k * 4 + 3]? = some (.int .i64 e.size) := by
  induction es with
  | nil => intro k e h; simp at h
  | cons x r ih =>
    intro k e h
    cases k with
    | zero => simp at h; subst h; simp [flat]
    | succ k =>
      have := ih k e (by simpa using h)
      rw [show (k + 1) * 4 = k * 4 + 4 from by omega, show k * 4 + 4 + 1 = k * 4 + 1 + 4 from by omega, show k * 4 + 4 + 2 = k * 4 + 2 + 4 from by omega, show k * 4 + 4 + 3 = k * 4 + 3 + 4 from by omega]
      simpa [flat] using this

/-- The cells of entry k of a row. -/
theorem rows_at {w : World} {base g n cap : Nat} {t : TypeId} {es : List Ent} (h : w.ownsRow base t 4 (.slice (some ⟨g, 0, none⟩) n cap) n (flat es)) {k : Nat} {e : Ent} (hk : es[k]? = some e) :
    w.cell? ⟨g, k * 4, none⟩ = some (.int .i64 e.fam) ∧ w.cell? ⟨g, k * 4 + 1, none⟩ = some (.int .i64 e.num) ∧ w.cell? ⟨g, k * 4 + 2, none⟩ = some (.string e.name) ∧ w.cell? ⟨g, k * 4 + 3, none⟩ = some (.int .i64 e.size) := by
  have hc := fun j u hj => h.cells (g := g) rfl j u hj
  have ha : ∀ j, ((⟨g, 0, none⟩ : Addr).add j) = ⟨g, j, none⟩ := by intro j; unfold Addr.add; split <;> simp_all
  simp only [ha] at hc
  obtain ⟨h0, h1, h2, h3⟩ := flat_at es k e hk
  exact ⟨hc _ _ h0, hc _ _ h1, hc _ _ h2, hc _ _ h3⟩

theorem rows_form {w : World} {base : Nat} {t : TypeId} {v : Value} {n : Nat} {xs : List Value} (h : w.ownsRow base t 4 v n xs) :
    (v = .slice none 0 0 ∧ n = 0) ∨ ∃ g cap, v = .slice (some ⟨g, 0, none⟩) n cap ∧ g < w.heap.size ∧ n ≤ cap ∧ cap ≤ maxLen := by
  rcases h.2 with hn | ⟨g, cap, cur, rfl, hb, hg, hc, hm, _⟩
  · exact .inl hn
  · exact .inr ⟨g, cap, rfl, lt_of_block hg, hc, hm⟩

/-- A book of the program: its block, all blocks that it rests on, its entries, which families are closed (by number). -/
def Book (w : World) (b : Nat) (S : List Nat) (es : List Ent) (cl : Nat → Bool) : Prop :=
  ∃ v : Value, w.heap[b]? = some (.cells #[v, .bool (cl 0), .bool (cl 1), .bool (cl 2), .bool (cl 3), .bool (cl 4), .bool (cl 5)] 55 (0, 0)) ∧
    w.ownsRow 0 40 4 v es.length (flat es) ∧ v.ownBlock ≠ some b ∧ S = b :: v.ownBlock.toList ∧ es.length ≤ 64

theorem Book.flag {w : World} {b : Nat} {S : List Nat} {es : List Ent} {cl : Nat → Bool} (h : Book w b S es cl) (j : Nat) (hj : j < 6) : w.cell? ⟨b, 1 + j, none⟩ = some (.bool (cl j)) := by
  obtain ⟨v, hh, _, _, _, _⟩ := h
  refine cell_in hh (1 + j) ?_
  match j, hj with
  | 0, _ => rfl
  | 1, _ => rfl
  | 2, _ => rfl
  | 3, _ => rfl
  | 4, _ => rfl
  | 5, _ => rfl

theorem Book.unfrozen {w : World} {b : Nat} {S : List Nat} {es : List Ent} {cl : Nat → Bool} (h : Book w b S es cl) (o : Nat) : w.frozen? ⟨b, o, none⟩ = false := by
  obtain ⟨v, hh, _, _, _, _⟩ := h
  simp [World.frozen?, hh]

theorem Book.small {w : World} {b : Nat} {S : List Nat} {es : List Ent} {cl : Nat → Bool} (h : Book w b S es cl) : es.length ≤ 64 := by
  obtain ⟨v, _, _, _, _, h64⟩ := h
  exact h64

/-- One flag written. -/
theorem Book.flagged {w : World} {b : Nat} {S : List Nat} {es : List Ent} {cl : Nat → Bool} (h : Book w b S es cl) (j : Nat) (hj : j < 6) (x : Bool) :
    Book (w.setCell ⟨b, 1 + j, none⟩ (.bool x)) b S es (fun i => if i = j then x else cl i) := by
  obtain ⟨v, hh, hr, ha, rfl, h64⟩ := h
  refine ⟨v, ?_, rows_kept hr (fun g hg => heap_setCell_other w _ g _ (by rintro rfl; exact ha hg)), ha, rfl, h64⟩
  rw [heap_setCell_same w b (1 + j) _ _ _ hh]
  match j, hj with
  | 0, _ => rfl
  | 1, _ => rfl
  | 2, _ => rfl
  | 3, _ => rfl
  | 4, _ => rfl
  | 5, _ => rfl

theorem Only.setCell (w : World) (b o : Nat) (x : Value) : Only [b] w (w.setCell ⟨b, o, none⟩ x) :=
  ⟨rfl, rfl, rfl, by simp, fun k _ hk => heap_setCell_other w _ k _ (by simpa using hk)⟩

theorem Book.mem {w : World} {b : Nat} {S : List Nat} {es : List Ent} {cl : Nat → Bool} (h : Book w b S es cl) : ∀ k ∈ S, k < w.heap.size := by
  obtain ⟨v, hh, hr, _, rfl, _⟩ := h
  intro k hk
  rcases List.mem_cons.1 hk with rfl | hk
  · exact lt_of_block hh
  · cases hv : v.ownBlock with
    | none => simp [hv] at hk
    | some g => simp [hv] at hk; subst hk; exact (hr.lt _ hv).2

theorem Book.kept {w w' : World} {b : Nat} {S : List Nat} {es : List Ent} {cl : Nat → Bool} (h : Book w b S es cl) (hk : ∀ k ∈ S, w'.heap[k]? = w.heap[k]?) : Book w' b S es cl := by
  obtain ⟨v, hh, hr, ha, rfl, h64⟩ := h
  refine ⟨v, ?_, rows_kept hr (fun g hg => hk g (by simp [hg])), ha, rfl, h64⟩
  rw [hk b (by simp)]
  exact hh

theorem Book.below {w w' : World} {b : Nat} {S : List Nat} {es : List Ent} {cl : Nat → Bool} (h : Book w b S es cl) (hB : Below w.heap.size w w') : Book w' b S es cl :=
  h.kept fun k hk => hB.block k (h.mem k hk)

theorem Book.only {w w' : World} {b : Nat} {S T : List Nat} {es : List Ent} {cl : Nat → Bool} (h : Book w b S es cl) (hB : Only T w w') (hd : ∀ k ∈ S, k ∉ T) : Book w' b S es cl :=
  h.kept fun k hk => hB.block k (h.mem k hk) (hd k hk)

/-- One entry appended: the book behind it. -/
theorem Book.grown {w3 w4 : World} {b : Nat} {S : List Nat} {es : List Ent} {cl : Nat → Bool} (h : Book w3 b S es cl) (hl : es.length < 64) (x : Ent) (o : Obj) (v : Value)
    (hv : w3.cell? ⟨b, 0, none⟩ = some v) (hgrow : (w3.alloc o).grownBy w4 v.ownBlock) (gg cap : Nat)
    (hown : w4.ownsRow 0 40 4 (.slice (some ⟨gg, 0, none⟩) (es.length + 1) cap) (es.length + 1) (flat es ++ flat [x])) (hat : v.ownBlock = some gg ∨ gg = w3.heap.size + 1) :
    Book (w4.setCell ⟨b, 0, none⟩ (.slice (some ⟨gg, 0, none⟩) (es.length + 1) cap)) b [b, gg] (es ++ [x]) cl ∧
      Only S w3 (w4.setCell ⟨b, 0, none⟩ (.slice (some ⟨gg, 0, none⟩) (es.length + 1) cap)) ∧ ∀ k ∈ [b, gg], k ∈ S ∨ w3.heap.size ≤ k := by
  obtain ⟨v', hh, hr, ha, rfl, h64⟩ := h
  obtain rfl : v' = v := by
    have := cell_in hh 0 (v := v') rfl
    rw [hv] at this
    exact (Option.some.inj this).symm
  have hb := lt_of_block hh
  have hne : gg ≠ b := by
    rintro rfl
    rcases hat with h | h
    · exact ha h
    · omega
  have hh4 : w4.heap[b]? = w3.heap[b]? := (hgrow.block b (by simp; omega) (Ne.symm ha)).trans (heap_alloc_old w3 o hb)
  have hn : (es ++ [x]).length = es.length + 1 := by simp
  refine ⟨⟨.slice (some ⟨gg, 0, none⟩) (es.length + 1) cap, ?_, ?_, ?_, rfl, by omega⟩, ⟨?_, ?_, ?_, ?_, ?_⟩, ?_⟩
  · rw [heap_setCell_same w4 b 0 _ _ _ (hh4.trans hh)]
    rfl
  · rw [hn, flat_append]
    exact rows_kept hown (fun g hg => heap_setCell_other w4 _ g _ (by rintro rfl; simp [Value.ownBlock] at hg; exact hne hg))
  · simpa [Value.ownBlock] using hne
  · exact hgrow.os
  · exact hgrow.tape
  · exact hgrow.output
  · have := hgrow.size
    simp at this ⊢
    omega
  · intro k hk hm
    have hkb : k ≠ b := by rintro rfl; simp at hm
    have hkv : some k ≠ v'.ownBlock := by intro e; rw [← e] at hm; simp at hm
    rw [heap_setCell_other w4 _ k _ hkb]
    exact (hgrow.block k (by simp; omega) hkv).trans (heap_alloc_old w3 o hk)
  · intro k hk
    simp only [List.mem_cons, List.not_mem_nil, or_false] at hk
    rcases hk with rfl | rfl
    · simp
    · rcases hat with h | h
      · simp [h]
      · right; omega

end Go.Proofs.Ytgdeeojamnbakaa
