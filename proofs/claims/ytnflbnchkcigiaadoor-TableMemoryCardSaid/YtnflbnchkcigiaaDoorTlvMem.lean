/- Words on memory for lists of fields: what stands there, kept while the world only grows. No walk here. -/
import Derived.Test.YtnflbnchkcigiaaDoorTlvPure
import Derived.Test.YtnflbnchkcigiaaDoorTaGa
namespace Go.Proofs.YtnflbnchkcigiaaDoor
open Go.RowKit

/-- a value's parts as the machine holds them; a field's -/
def vvC (v : Val) : Array Value := #[.int .i64 v.k, .int .u64 v.n, .string v.s]
def ffC (f : Fd) : Array Value := #[.int .i64 f.t, .int .i64 f.v.k, .int .u64 f.v.n, .string f.v.s]

/-- a field's four cells from this place on -/
def FCell (w : World) (g o : Nat) (f : Fd) : Prop :=
  w.cell? ⟨g, o, none⟩ = some (.int .i64 f.t) ∧ w.cell? ⟨g, o + 1, none⟩ = some (.int .i64 f.v.k) ∧ w.cell? ⟨g, o + 2, none⟩ = some (.int .u64 f.v.n) ∧ w.cell? ⟨g, o + 3, none⟩ = some (.string f.v.s)
/-- at the address A stand these fields, below block B -/
def FRow (w : World) (B : Nat) (A : Option Addr) (l : List Fd) : Prop :=
  l = [] ∨ ∃ g o, A = some ⟨g, o, none⟩ ∧ g < B ∧ ∀ (i : Nat) (f : Fd), l[i]? = some f → FCell w g (o + i * 4) f

section
variable {w w' : World} {B B' : Nat} {A : Option Addr} {l : List Fd}
theorem FCell.keep {g o : Nat} {f : Fd} (h : FCell w g o f) (hk : ∀ j, w'.cell? ⟨g, j, none⟩ = w.cell? ⟨g, j, none⟩) : FCell w' g o f :=
  ⟨(hk _).trans h.1, (hk _).trans h.2.1, (hk _).trans h.2.2.1, (hk _).trans h.2.2.2⟩
theorem FRow.nil : FRow w B A [] := .inl rfl
theorem FRow.at_ (h : FRow w B A l) (hl : 0 < l.length) : ∃ g o, A = some ⟨g, o, none⟩ ∧ g < B ∧ ∀ (i : Nat) (f : Fd), l[i]? = some f → FCell w g (o + i * 4) f := by
  rcases h with rfl | h
  · simp at hl
  · exact h
theorem FRow.keep (h : FRow w B A l) (hk : ∀ b o, b < B → w'.cell? ⟨b, o, none⟩ = w.cell? ⟨b, o, none⟩) : FRow w' B A l := by
  rcases h with rfl | ⟨g, o, rfl, hg, hc⟩
  · exact .inl rfl
  · exact .inr ⟨g, o, rfl, hg, fun i f hf => (hc i f hf).keep fun j => hk g j hg⟩
theorem FRow.more (h : FRow w B A l) (hB : B ≤ B') : FRow w B' A l := by
  rcases h with rfl | ⟨g, o, rfl, hg, hc⟩
  · exact .inl rfl
  · exact .inr ⟨g, o, rfl, by omega, hc⟩
theorem FRow.below (h : FRow w B A l) (hb : Below B w w') : FRow w' B A l := h.keep fun _ _ hp => hb.cell hp
theorem FRow.then_ (h : FRow w w.heap.size A l) (hb : Below w.heap.size w w') : FRow w' w'.heap.size A l := (h.below hb).more hb.size
theorem FRow.take (h : FRow w B A l) (k : Nat) : FRow w B A (l.take k) := by
  rcases h with rfl | ⟨g, o, rfl, hg, hc⟩
  · exact .inl (by simp)
  · refine .inr ⟨g, o, rfl, hg, fun i f hf => hc i f ?_⟩
    rw [List.getElem?_take] at hf
    split at hf
    · exact hf
    · cases hf
theorem FRow.drop (h : FRow w B A l) {k cap : Nat} (hc : l.length ≤ cap) (_hk : k ≤ l.length) : FRow w B (if cap = k then A else A.map (·.add (k * 4))) (l.drop k) := by
  rcases Nat.lt_or_ge k l.length with hl | hl
  · obtain ⟨g, o, rfl, hg, hcell⟩ := h.at_ (by omega)
    rw [if_neg (by omega)]
    refine .inr ⟨g, o + k * 4, by simp [Addr.add_lit], hg, fun i f hf => ?_⟩
    rw [List.getElem?_drop] at hf
    have := hcell (k + i) f hf
    rwa [show o + (k + i) * 4 = o + k * 4 + i * 4 by omega] at this
  · exact .inl (by rw [List.drop_eq_nil_of_le hl])
end

/-- every number is one of 64 bits, every text of a size that is met -/
def Good (l : List Fd) : Prop := ∀ f ∈ l, Fit f.v ∧ f.v.s.size ≤ 140737488355328
/-- how many bytes of texts -/
def texts (l : List Fd) : Nat := (l.map fun f => f.v.s.size).sum
/-- not heavy -/
structure Light (l : List Fd) : Prop where
  len : l.length ≤ 1048576
  txt : texts l ≤ 33554432

theorem Light.big {l : List Fd} (h : Light l) : l.length ≤ 140737488355328 := by have := h.len; omega
theorem Good.at_ {l : List Fd} {i : Nat} {f : Fd} (h : Good l) (hi : l[i]? = some f) : Fit f.v ∧ f.v.s.size ≤ 140737488355328 := h f (List.mem_of_getElem? hi)
theorem Good.fit {l : List Fd} (h : Good l) : ∀ f ∈ l, Fit f.v := fun f hf => (h f hf).1
theorem Good.take {l : List Fd} (h : Good l) (k : Nat) : Good (l.take k) := fun f hf => h f (List.mem_of_mem_take hf)
theorem Good.drop {l : List Fd} (h : Good l) (k : Nat) : Good (l.drop k) := fun f hf => h f (List.mem_of_mem_drop hf)
theorem texts_nil : texts [] = 0 := rfl
theorem texts_cons (f : Fd) (r : List Fd) : texts (f :: r) = f.v.s.size + texts r := by unfold texts; rw [List.map_cons, List.sum_cons]
theorem texts_app (a b : List Fd) : texts (a ++ b) = texts a + texts b := by unfold texts; rw [List.map_append, List.sum_append]
theorem texts_snoc (a : List Fd) (f : Fd) : texts (a ++ [f]) = texts a + f.v.s.size := by rw [texts_app, texts_cons, texts_nil]; omega
theorem texts_part (l : List Fd) (k : Nat) : texts l = texts (l.take k) + texts (l.drop k) := by rw [← texts_app, List.take_append_drop]
theorem Light.take {l : List Fd} (h : Light l) (k : Nat) : Light (l.take k) := ⟨by rw [List.length_take]; have := h.len; omega, by have := texts_part l k; have := h.txt; omega⟩
theorem Light.drop {l : List Fd} (h : Light l) (k : Nat) : Light (l.drop k) := ⟨by rw [List.length_drop]; have := h.len; omega, by have := texts_part l k; have := h.txt; omega⟩
theorem take_snoc {l : List Fd} {i : Nat} {f : Fd} (hi : l[i]? = some f) : l.take (i + 1) = l.take i ++ [f] := by
  rw [List.take_add_one, hi]; rfl

theorem pay_le {v : Val} (h : Fit v) : (pay v).length ≤ v.s.size + 10 := by
  unfold pay
  split
  · have := pnum_range h
    have := Go.Lib.uvarint_length64 (x := (pnum v).toNat) (by omega)
    omega
  · rw [← Lib.size_eq]; omega
theorem key_le {f : Fd} {last : Int} (h : canF f last = true) (h0 : 0 ≤ last) : 0 ≤ keyF f ∧ keyF f ≤ 524285 := by
  obtain ⟨h1, h2, h3⟩ := can_parts h
  have := ok_kind h3
  unfold keyF; omega
theorem fb_le {f : Fd} {last : Int} (h : canF f last = true) (h0 : 0 ≤ last) (hf : Fit f.v) (hs : f.v.s.size ≤ 140737488355328) : (fb f).length ≤ f.v.s.size + 30 := by
  have h1 := key_le h h0
  have h2 := pay_le hf
  have h3 := Go.Lib.uvarint_length64 (x := (keyF f).toNat) (by omega)
  have h4 := Go.Lib.uvarint_length64 (x := (pay f.v).length) (by omega)
  unfold fb; rw [List.length_append, List.length_append]; omega
theorem enc_le {l : List Fd} : ∀ {last : Int}, 0 ≤ last → Is last l → Good l → (enc l).length ≤ texts l + 30 * l.length := by
  induction l with
  | nil => intro last _ _ _; simp [enc_nil]
  | cons f r ih =>
    intro last h0 h hg
    have h1 := fb_le h.1 h0 h.2.1 (hg f (by simp)).2
    have h2 := ih (last := f.t) (by have := (can_parts h.1).1; omega) h.2.2 (fun g hg' => hg g (by simp [hg']))
    rw [enc_cons, List.length_append, texts_cons, List.length_cons]; omega
/-- what a record's bytes have, its texts have at most -/
theorem texts_enc {l : List Fd} : ∀ {last : Int}, Is last l → texts l ≤ (enc l).length := by
  induction l with
  | nil => intro last _; simp [texts_nil]
  | cons f r ih =>
    intro last h
    have h2 := ih h.2.2
    have h3 : f.v.s.size ≤ (pay f.v).length := by
      by_cases hk : isNum f.v.k = true
      · have := ok_num (can_parts h.1).2.2 hk
        rw [this]; exact Nat.zero_le _
      · unfold pay; rw [if_neg hk, ← Lib.size_eq]; omega
    rw [texts_cons, enc_cons, List.length_append, fb]
    simp only [List.length_append]; omega
theorem texts_mem {l : List Fd} {f : Fd} (h : f ∈ l) : f.v.s.size ≤ texts l := by
  induction l with
  | nil => cases h
  | cons g r ih =>
    rw [texts_cons]
    rcases List.mem_cons.1 h with rfl | h
    · omega
    · have := ih h; omega
/-- a record of at most so many bytes is good and light -/
theorem is_good {l : List Fd} (h : Is 0 l) (hm : (enc l).length ≤ 33554432) : Good l ∧ Light l := by
  have h1 := texts_enc h
  have h2 := is_few h
  refine ⟨fun f hf => ⟨is_fit h f hf, ?_⟩, ⟨by omega, by omega⟩⟩
  have := texts_mem hf
  omega
end Go.Proofs.YtnflbnchkcigiaaDoor
