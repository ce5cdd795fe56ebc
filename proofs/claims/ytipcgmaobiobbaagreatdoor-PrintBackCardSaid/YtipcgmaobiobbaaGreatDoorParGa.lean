/- Words on memory for rows of bytes: a slice that reads as bytes, a row of the call's own. No walk here. -/
import Derived.WalkKit
import Derived.WalkSpells
import Derived.WalkLawsBesides
import Derived.Handy
import Derived.Lib.Hide
import Derived.Lib.VarintMem
import Derived.Laws.BytesArg
import Derived.Laws.OwnMore
import Derived.Deep.Draws
import Derived.Lib.Index
import Derived.Lib.IndexLaws
import Derived.Lib.IndexBytes
namespace Go.Proofs.YtipcgmaobiobbaaGreatDoor
open Go.RowKit
open Go.Lib (byteCells)

theorem ret_int {k : IntKind} {a b : Int} (h : a = b) : Ending.returned (.int k a) = .returned (.int k b) := by rw [h]
theorem ret_bool {a b : Bool} (h : a = b) : Ending.returned (.bool a) = .returned (.bool b) := by rw [h]
theorem Below.both {a b c : World} (h : Below a.heap.size a b) (g : Below b.heap.size b c) : Below a.heap.size a c := h.trans (g.mono h.size)
theorem Below.newN (w : World) (d : Nat) : Below w.heap.size w (w.drewN d) := ⟨rfl, rfl, rfl, Nat.le_refl _, fun _ _ => rfl⟩
theorem Below.thenN {B : Nat} {a w : World} (h : Below B a w) (n : Nat) : Below B a (w.drewN n) := ⟨h.os, h.tape, h.output, h.size, h.block⟩
theorem Below.cells {W w1 : World} (hb : Below W.heap.size W w1) : (∀ b o, b < W.heap.size → w1.cell? ⟨b, o, none⟩ = W.cell? ⟨b, o, none⟩) ∧ (∀ b o, b < W.heap.size → w1.frozen? ⟨b, o, none⟩ = W.frozen? ⟨b, o, none⟩) :=
  ⟨fun b o h => hb.cell (p := ⟨b, o, none⟩) h, fun b o h => hb.frozen (p := ⟨b, o, none⟩) h⟩

/-- At the address A stand the bytes l, below block B. -/
def Byt (w : World) (B : Nat) (A : Option Addr) (l : List UInt8) : Prop :=
  l = [] ∨ ∃ b o, A = some ⟨b, o, none⟩ ∧ b < B ∧ ∀ j (h : j < l.length), w.cell? ⟨b, o + j, none⟩ = some (.int .u8 (l[j].toNat : Nat))

section
variable {w w' : World} {B B' : Nat} {A : Option Addr} {l : List UInt8}
theorem Byt.nil : Byt w B A [] := .inl rfl
theorem Byt.at_ (h : Byt w B A l) (hl : 0 < l.length) : ∃ b o, A = some ⟨b, o, none⟩ ∧ b < B ∧ ∀ j (h : j < l.length), w.cell? ⟨b, o + j, none⟩ = some (.int .u8 (l[j].toNat : Nat)) := by
  rcases h with rfl | h
  · simp at hl
  · exact h
theorem Byt.keep (h : Byt w B A l) (hk : ∀ b o, b < B → w'.cell? ⟨b, o, none⟩ = w.cell? ⟨b, o, none⟩) : Byt w' B A l := by
  rcases h with rfl | ⟨b, o, rfl, hb, hc⟩
  · exact .inl rfl
  · exact .inr ⟨b, o, rfl, hb, fun j hj => (hk b _ hb).trans (hc j hj)⟩
theorem Byt.more (h : Byt w B A l) (hB : B ≤ B') : Byt w B' A l := by
  rcases h with rfl | ⟨b, o, rfl, hb, hc⟩
  · exact .inl rfl
  · exact .inr ⟨b, o, rfl, by omega, hc⟩
theorem Byt.below (h : Byt w B A l) (hb : Below B w w') : Byt w' B A l := h.keep fun _ _ hp => hb.cell hp
/-- the whole step: what stood below the heap's end stands there still -/
theorem Byt.then_ (h : Byt w w.heap.size A l) (hb : Below w.heap.size w w') : Byt w' w'.heap.size A l := (h.below hb).more hb.size
theorem Byt.drewN (h : Byt w B A l) (k : Nat) : Byt (w.drewN k) B A l := h
theorem Byt.take (h : Byt w B A l) (k : Nat) : Byt w B A (l.take k) := by
  rcases h with rfl | ⟨b, o, rfl, hb, hc⟩
  · exact .inl (by simp)
  · exact .inr ⟨b, o, rfl, hb, fun j hj => by
      simp only [List.length_take] at hj
      rw [List.getElem_take]; exact hc j (by omega)⟩
theorem Byt.drop (h : Byt w B A l) {k cap : Nat} (hc : l.length ≤ cap) (_hk : k ≤ l.length) : Byt w B (if cap = k then A else A.map (·.add k)) (l.drop k) := by
  rcases Nat.lt_or_ge k l.length with hl | hl
  · obtain ⟨b, o, rfl, hb, hcell⟩ := h.at_ (by omega)
    rw [if_neg (by omega)]
    refine .inr ⟨b, o + k, by simp [Addr.add_lit], hb, fun j hj => ?_⟩
    simp only [List.length_drop] at hj
    rw [List.getElem_drop, Nat.add_assoc]
    exact hcell (k + j) (by omega)
  · exact .inl (by rw [List.drop_eq_nil_of_le hl])

theorem byteCells_get (l : List UInt8) (j : Nat) (h : j < l.length) : (byteCells l)[j]? = some (.int .u8 (l[j].toNat : Nat)) := by
  simp [byteCells, List.getElem?_eq_getElem h]
theorem byteCells_one (l : List UInt8) : ∀ v ∈ byteCells l, v.oneCell' = true := by
  intro v hv
  obtain ⟨b, _, rfl⟩ := List.mem_map.1 hv
  rfl

/-- What a row of the call's own holds reads as its bytes. -/
theorem Byt.own {base : Nat} {e : TypeId} {n c : Nat} (h : w.ownsRow base e 1 (.slice A n c) l.length (byteCells l)) : n = l.length ∧ Byt w w.heap.size A l := by
  rcases h.2 with ⟨hv, hx⟩ | ⟨g, cap, cur, hv, hb, hg, hnc, hm, htk⟩
  · injection hv with h1 h2 h3
    exact ⟨h2.trans hx.symm, .inl (List.eq_nil_of_length_eq_zero hx)⟩
  · injection hv with h1 h2 h3
    refine ⟨h2, ?_⟩
    rcases Nat.eq_zero_or_pos l.length with h0 | h0
    · exact .inl (List.eq_nil_of_length_eq_zero h0)
    · subst h1
      refine .inr ⟨g, 0, rfl, (Array.getElem?_eq_some_iff.1 hg).1, fun j hj => ?_⟩
      have := h.cells (g := g) rfl j _ (byteCells_get l j hj)
      simpa [Addr.add_lit] using this

/-- The string of the bytes. -/
def str (l : List UInt8) : ByteArray := ⟨l.toArray⟩
theorem str_list (a : List UInt8) : (str a).toList = a := by rw [ByteArray.toList_eq]; rfl
theorem str_eq (a b : List UInt8) : ((str a).toList == (str b).toList) = decide (a = b) := by
  rw [str_list, str_list]
  by_cases h : a = b
  · simp [h]
  · simp [h]

theorem run_str {P : Program} (h : Byt w B A l) (src e dst : TypeId) (hs : P.underlying src = some (.slice e)) (he : P.underlying e = some (.int .u8)) (hd : P.underlying dst = some .string) (c : Nat) :
    (convert src dst (.slice A l.length c)).run P w = .ok (.string (str l)) w := by
  rcases Nat.eq_zero_or_pos l.length with h0 | h0
  · have hl := List.eq_nil_of_length_eq_zero h0
    subst hl
    rcases A with _ | a
    · exact run_convert_bytes_nil w src e hs he _ _ dst hd
    · have hc : (loadCells a 0).run P w = .ok (([] : List Int).map (Value.int .u8)).toArray w := by
        have := run_loadCells_list (P := P) w a [] (fun j v hj => by simp at hj)
        simpa using this
      rw [run_convert_bytes_string w src dst e _ _ c hs he hd]
      exact run_bytesToString w a 0 c [] hc
  · obtain ⟨b, o, rfl, _, hc⟩ := h.at_ h0
    have := run_convert_bytes_arg (P := P) w src e hs he b o l.length c (l.map fun x => (x.toNat : Int)) (by simp) (fun i hi => by
      rw [hc i hi]; simp [List.getD, List.getElem?_eq_getElem hi]) dst hd
    rw [this]
    simp [strOfNums, str, Function.comp_def]
end

end Go.Proofs.YtipcgmaobiobbaaGreatDoor
/- Plain functions of layer 7: where a text stands in another, what is ahead and behind, texts put together, repeated, read from digits of base 16. No walk here. -/
namespace Go.Proofs.YtipcgmaobiobbaaGreatDoor
open Go.RowKit

/-- the bytes of a text -/
abbrev ls (s : ByteArray) : List UInt8 := s.data.toList

theorem ls_size (s : ByteArray) : (ls s).length = s.size := (Lib.size_eq s).symm
theorem str_ls (s : ByteArray) : str (ls s) = s := by
  obtain ⟨d⟩ := s
  simp [str, ls]
theorem ls_str (l : List UInt8) : ls (str l) = l := by simp [ls, str]
theorem str_size (l : List UInt8) : (str l).size = l.length := by rw [← ls_size, ls_str]
theorem ls_inj {a b : ByteArray} (h : ls a = ls b) : a = b := by rw [← str_ls a, ← str_ls b, h]
theorem str_inj {a b : List UInt8} (h : str a = str b) : a = b := by rw [← ls_str a, ← ls_str b, h]
theorem beq_ls (a b : ByteArray) : (a.toList == b.toList) = decide (a = b) := by
  have := str_eq (ls a) (ls b)
  rw [str_ls, str_ls] at this
  rw [this]
  by_cases h : a = b
  · subst h; simp
  · rw [decide_eq_false h, decide_eq_false fun e => h (ls_inj e)]
theorem ls_extract (s : ByteArray) (a b : Nat) : ls (s.extract a b) = (((ls s).drop a).take (b - a)) := Lib.extract_data s a b
theorem ls_append (a b : ByteArray) : ls (a ++ b) = ls a ++ ls b := by simp [ls]

/-- where sep stands in s first -/
def ix (s sep : ByteArray) : Int := if sep.size = 0 then -1 else Lib.index (ls s) (ls sep)

/-- sep stands at k -/
def At (s sep : ByteArray) (k : Nat) : Prop := k + sep.size ≤ s.size ∧ s.extract k (k + sep.size) = sep

theorem occ_at {s sep : ByteArray} (h0 : sep.size ≠ 0) (k : Nat) : Lib.occAt (ls s) (ls sep) k = true ↔ At s sep k := by
  constructor
  · intro h
    rcases Lib.occAt_room h with hr | hr
    · rw [ls_size, ls_size] at hr
      refine ⟨hr, ?_⟩
      rw [Lib.occ_of_piece s sep k hr, beq_ls] at h
      simpa using h
    · exact absurd (by rw [← ls_size, hr]; rfl) h0
  · rintro ⟨hr, he⟩
    rw [Lib.occ_of_piece s sep k hr, beq_ls, he]
    simp

/-- it stands at k, and nowhere earlier -/
def First (s sep : ByteArray) (k : Nat) : Prop := At s sep k ∧ ∀ j, j < k → ¬ At s sep j

theorem ix_empty {s sep : ByteArray} (h : sep.size = 0) : ix s sep = -1 := if_pos h
theorem ix_first {s sep : ByteArray} (h0 : sep.size ≠ 0) {k : Nat} (h : First s sep k) : ix s sep = k := by
  unfold ix
  rw [if_neg h0]
  refine Lib.index_first (by rw [ls_size]; have := h.1.1; omega) ((occ_at h0 k).2 h.1) fun j hj => ?_
  cases hc : Lib.occAt (ls s) (ls sep) j with
  | false => rfl
  | true => exact absurd ((occ_at h0 j).1 hc) (h.2 j hj)
theorem ix_none {s sep : ByteArray} (h : ∀ k, ¬ At s sep k) : ix s sep = -1 := by
  by_cases h0 : sep.size = 0
  · exact ix_empty h0
  · unfold ix
    rw [if_neg h0]
    refine Lib.index_none fun j _ => ?_
    cases hc : Lib.occAt (ls s) (ls sep) j with
    | false => rfl
    | true => exact absurd ((occ_at h0 j).1 hc) (h j)

theorem least {p : Nat → Prop} (h : ∃ k, p k) : ∃ k, p k ∧ ∀ j, j < k → ¬ p j := by
  obtain ⟨k, hk⟩ := h
  induction k using Nat.strongRecOn with
  | ind k ih =>
    by_cases hj : ∃ j, j < k ∧ p j
    · obtain ⟨j, hlt, hp⟩ := hj
      exact ih j hlt hp
    · exact ⟨k, hk, fun j hlt hp => hj ⟨j, hlt, hp⟩⟩

theorem ix_cases (s sep : ByteArray) : (ix s sep = -1 ∧ (sep.size = 0 ∨ ∀ k, ¬ At s sep k)) ∨ (∃ k : Nat, ix s sep = k ∧ sep.size ≠ 0 ∧ First s sep k) := by
  by_cases h0 : sep.size = 0
  · exact .inl ⟨ix_empty h0, .inl h0⟩
  · by_cases h : ∃ k, At s sep k
    · obtain ⟨k, hk⟩ := least h
      exact .inr ⟨k, ix_first h0 hk, h0, hk⟩
    · have hn : ∀ k, ¬ At s sep k := fun k hk => h ⟨k, hk⟩
      exact .inl ⟨ix_none hn, .inr hn⟩

/-- what is ahead, what is behind -/
def hd (s sep : ByteArray) : ByteArray := if ix s sep = -1 then s else s.extract 0 (ix s sep).toNat
def tl (s sep : ByteArray) : ByteArray := if ix s sep = -1 then ByteArray.empty else s.extract ((ix s sep).toNat + sep.size) s.size

theorem hd_none {s sep : ByteArray} (h : ix s sep = -1) : hd s sep = s := if_pos h
theorem tl_none {s sep : ByteArray} (h : ix s sep = -1) : tl s sep = ByteArray.empty := if_pos h
theorem hd_at {s sep : ByteArray} {k : Nat} (h : ix s sep = k) : hd s sep = s.extract 0 k := by
  unfold hd
  rw [if_neg (by omega), h]
  rfl
theorem tl_at {s sep : ByteArray} {k : Nat} (h : ix s sep = k) : tl s sep = s.extract (k + sep.size) s.size := by
  unfold tl
  rw [if_neg (by omega), h]
  rfl

/-- texts one behind the other -/
def catL (xs : List ByteArray) : List UInt8 := (xs.map ls).flatten
def cat (xs : List ByteArray) : ByteArray := str (catL xs)
theorem catL_cons (x : ByteArray) (r : List ByteArray) : catL (x :: r) = ls x ++ catL r := rfl
theorem catL_nil : catL [] = [] := rfl
theorem catL_append (a b : List ByteArray) : catL (a ++ b) = catL a ++ catL b := by simp [catL]
def lens (xs : List ByteArray) : Nat := (catL xs).length
theorem lens_cons (x : ByteArray) (r : List ByteArray) : lens (x :: r) = x.size + lens r := by
  unfold lens
  rw [catL_cons, List.length_append, ls_size]
theorem catL_take (xs : List ByteArray) (k : Nat) (h : k < xs.length) : catL (xs.take (k + 1)) = catL (xs.take k) ++ ls xs[k] := by
  rw [List.take_succ_eq_append_getElem h, catL_append]
  simp [catL]
theorem lens_take (xs : List ByteArray) (k : Nat) (h : k < xs.length) : lens (xs.take (k + 1)) = lens (xs.take k) + xs[k].size := by
  unfold lens
  rw [catL_take xs k h, List.length_append, ls_size]
theorem lens_take_le (xs : List ByteArray) (k : Nat) : lens (xs.take k) ≤ lens xs := by
  have h : catL xs = catL (xs.take k) ++ catL (xs.drop k) := by rw [← catL_append, List.take_append_drop]
  unfold lens
  rw [h, List.length_append]
  omega
theorem cat_one (s : ByteArray) : cat [s] = s := by unfold cat; rw [catL_cons, catL_nil, List.append_nil, str_ls]
theorem cat_three (a b c : ByteArray) : cat [a, b, c] = a ++ b ++ c := by
  apply ls_inj
  unfold cat
  rw [ls_str, ls_append, ls_append, catL_cons, catL_cons, catL_cons, catL_nil, List.append_nil, List.append_assoc]
theorem lens_three (a b c : ByteArray) : lens [a, b, c] = a.size + b.size + c.size := by
  rw [lens_cons, lens_cons, lens_cons]
  show _ + (_ + (_ + 0)) = _
  omega

/-- what was cut, put together again -/
theorem halves {s sep : ByteArray} {k : Nat} (h : At s sep k) : s.extract 0 k ++ sep ++ s.extract (k + sep.size) s.size = s := by
  apply ls_inj
  have h1 := h.1
  have h2 := congrArg ls h.2
  rw [ls_extract] at h2
  rw [ls_append, ls_append, ls_extract, ls_extract]
  rw [show k + sep.size - k = sep.size by omega] at h2
  rw [← h2]
  have e : (ls s).drop (k + sep.size) = ((ls s).drop k).drop sep.size := by rw [List.drop_drop]
  rw [List.take_of_length_le (l := (ls s).drop (k + sep.size)) (by rw [List.length_drop, ls_size]; omega), e, List.append_assoc, List.take_append_drop, List.drop_zero, Nat.sub_zero, List.take_append_drop]

/-- s n times -/
def rpL (s : ByteArray) (n : Nat) : List UInt8 := catL (List.replicate n s)
def rp (s : ByteArray) (n : Nat) : ByteArray := str (rpL s n)
theorem rpL_len (s : ByteArray) (n : Nat) : (rpL s n).length = n * s.size := by
  induction n with
  | zero => simp [rpL, catL]
  | succ n ih =>
    unfold rpL at ih ⊢
    rw [List.replicate_succ, catL_cons, List.length_append, ls_size, ih, Nat.add_mul]
    omega
theorem rpL_succ (s : ByteArray) (n : Nat) : rpL s (n + 1) = rpL s n ++ ls s := by
  unfold rpL
  rw [List.replicate_succ', catL_append, catL_cons, catL_nil, List.append_nil]
theorem rpL_add (s : ByteArray) (n m : Nat) : rpL s (n + m) = rpL s n ++ rpL s m := by
  unfold rpL
  rw [← List.replicate_append_replicate, catL_append]
theorem rp_size (s : ByteArray) (n : Nat) : (rp s n).size = n * s.size := by unfold rp; rw [str_size, rpL_len]
theorem rp_add (s : ByteArray) (n m : Nat) : rp s (n + m) = rp s n ++ rp s m := by
  apply ls_inj
  unfold rp
  rw [ls_append, ls_str, ls_str, ls_str, rpL_add]
theorem rp_empty {s : ByteArray} (h : s.size = 0) (n : Nat) : rp s n = ByteArray.empty := by
  apply ls_inj
  unfold rp
  rw [ls_str]
  have : (rpL s n).length = 0 := by rw [rpL_len, h, Nat.mul_zero]
  rw [List.eq_nil_of_length_eq_zero this]
  rfl
theorem rp_zero (s : ByteArray) : rp s 0 = ByteArray.empty := rfl

/-- what Rep answers -/
def repT (s : ByteArray) (n : Nat) : ByteArray := if n * s.size ≤ 4096 then rp s n else ByteArray.empty
def repE (s : ByteArray) (n : Nat) : Int := if n * s.size ≤ 4096 then 0 else 2

/-- what a digit says; 16 of none -/
def dv (c : Nat) : Nat := if 48 ≤ c ∧ c ≤ 57 then c - 48 else if 97 ≤ c ∧ c ≤ 102 then c - 87 else if 65 ≤ c ∧ c ≤ 70 then c - 55 else 16
theorem dv_le (c : Nat) : dv c ≤ 16 := by
  unfold dv
  split
  · omega
  · split
    · omega
    · split <;> omega

/-- the bytes that digits say -/
def hexL : List UInt8 → Option (List UInt8)
  | [] => some []
  | [_] => none
  | a :: b :: r => if dv a.toNat = 16 ∨ dv b.toNat = 16 then none else (hexL r).map fun t => UInt8.ofNat (16 * dv a.toNat + dv b.toNat) :: t
theorem hexL_odd : ∀ {l : List UInt8}, l.length % 2 ≠ 0 → hexL l = none
  | [], h => absurd rfl h
  | [_], _ => rfl
  | a :: b :: r, h => by
    have ih : hexL r = none := hexL_odd (by simp only [List.length_cons] at h; omega)
    unfold hexL
    rw [ih]
    simp
theorem hexL_len : ∀ {l t : List UInt8}, hexL l = some t → 2 * t.length = l.length
  | [], t, h => by
    have : [] = t := Option.some.inj h
    subst this; rfl
  | [_], t, h => by cases h
  | a :: b :: r, t, h => by
    unfold hexL at h
    split at h
    · cases h
    · obtain ⟨u, hu, rfl⟩ := Option.map_eq_some_iff.1 h
      have := hexL_len hu
      simp only [List.length_cons]
      omega
/-- one pair more -/
theorem hexL_drop (l : List UInt8) (k : Nat) (h : k + 1 < l.length) : hexL (l.drop k) = if dv (l[k]'(by omega)).toNat = 16 ∨ dv l[k + 1].toNat = 16 then none else (hexL (l.drop (k + 2))).map fun t => UInt8.ofNat (16 * dv (l[k]'(by omega)).toNat + dv l[k + 1].toNat) :: t := by
  rw [List.drop_eq_getElem_cons (by omega), List.drop_eq_getElem_cons h]
  rfl

/-- what Hex answers -/
def hexT (s : ByteArray) : ByteArray := match hexL (ls s) with | some t => str t | none => ByteArray.empty
def hexE (s : ByteArray) : Int := match hexL (ls s) with | some _ => 0 | none => 111
theorem hex_some {s : ByteArray} {t : List UInt8} (h : hexL (ls s) = some t) : hexT s = str t ∧ hexE s = 0 := by unfold hexT hexE; rw [h]; exact ⟨rfl, rfl⟩
theorem hex_none {s : ByteArray} (h : hexL (ls s) = none) : hexT s = ByteArray.empty ∧ hexE s = 111 := by unfold hexT hexE; rw [h]; exact ⟨rfl, rfl⟩
end Go.Proofs.YtipcgmaobiobbaaGreatDoor
/- Plain functions of layer 8: blanks and remarks, tokens, the tokens of a text, a text written as one. No walk here. -/
namespace Go.Proofs.YtipcgmaobiobbaaGreatDoor
open Go.RowKit

def isBl (c : UInt8) : Bool := decide (c.toNat = 32 ∨ c.toNat = 9 ∨ c.toNat = 10 ∨ c.toNat = 13)
def isD (c : UInt8) : Bool := decide (48 ≤ c.toNat ∧ c.toNat ≤ 57)
def isL (c : UInt8) : Bool := decide (c.toNat = 95 ∨ (97 ≤ c.toNat ∧ c.toNat ≤ 122) ∨ (65 ≤ c.toNat ∧ c.toNat ≤ 90))
def isW (c : UInt8) : Bool := isL c || isD c
def isM (c : UInt8) : Bool := decide (c.toNat = 123 ∨ c.toNat = 125 ∨ c.toNat = 40 ∨ c.toNat = 41 ∨ c.toNat = 58 ∨ c.toNat = 59 ∨ c.toNat = 44 ∨ c.toNat = 61 ∨ c.toNat = 43 ∨ c.toNat = 45 ∨ c.toNat = 42)

/-- how many bytes of blanks and remarks stand ahead; the first argument: whether a remark is open -/
def skipS : Bool → List UInt8 → Nat
  | _, [] => 0
  | m, c :: r => if m = true ∧ c.toNat ≠ 10 then skipS true r + 1 else if isBl c then skipS false r + 1 else if c.toNat = 35 then skipS true r + 1 else 0
/-- whether a remark is open behind them -/
def endS : Bool → List UInt8 → Bool
  | m, [] => m
  | m, c :: r => if m = true ∧ c.toNat ≠ 10 then endS true r else if isBl c then endS false r else if c.toNat = 35 then endS true r else false

def wordN (l : List UInt8) : Nat := (l.takeWhile isW).length
def numN (l : List UInt8) : Nat := (l.takeWhile isD).length
def numV (l : List UInt8) : Nat := l.foldl (fun x c => x * 10 + (c.toNat - 48)) 0

/-- what stands behind an opening quote -/
inductive Tx where
  | done (l : List UInt8) (n : Nat)
  | esc (o : Nat)
  | wide
def Tx.push (c : UInt8) (k : Nat) : Tx → Tx
  | .done l n => .done (c :: l) (n + k)
  | .esc o => .esc (o + k)
  | .wide => .wide
def txS : List UInt8 → Tx
  | [] => .wide
  | c :: r =>
    if c.toNat = 10 then .wide
    else if c.toNat = 34 then .done [] 1
    else if c.toNat = 92 then
      match r with
      | [] => .esc 0
      | d :: r2 =>
        if d.toNat = 92 ∨ d.toNat = 34 then (txS r2).push d 2
        else if d.toNat = 110 then (txS r2).push 10 2
        else if d.toNat = 116 then (txS r2).push 9 2
        else if d.toNat = 120 then
          match r2 with
          | [] => .esc 0
          | [_] => .esc 0
          | a :: b :: r3 => if dv a.toNat = 16 ∨ dv b.toNat = 16 then .esc 0 else (txS r3).push (UInt8.ofNat (16 * dv a.toNat + dv b.toNat)) 4
        else .esc 0
    else (txS r).push c 1

/-- what the escape stands for whose backslash stands ahead of r, and how many bytes of r it has -/
def escD (d : UInt8) (r : List UInt8) : Option (UInt8 × Nat) :=
  if d.toNat = 92 ∨ d.toNat = 34 then some (d, 1)
  else if d.toNat = 110 then some (10, 1)
  else if d.toNat = 116 then some (9, 1)
  else if d.toNat = 120 then
    match r with
    | a :: b :: _ => if dv a.toNat = 16 ∨ dv b.toNat = 16 then none else some (UInt8.ofNat (16 * dv a.toNat + dv b.toNat), 3)
    | _ => none
  else none
def escX : List UInt8 → Option (UInt8 × Nat)
  | [] => none
  | d :: r => escD d r

theorem skip_cons (m : Bool) (c : UInt8) (r : List UInt8) : skipS m (c :: r) = if m = true ∧ c.toNat ≠ 10 then skipS true r + 1 else if isBl c then skipS false r + 1 else if c.toNat = 35 then skipS true r + 1 else 0 := rfl
theorem end_cons (m : Bool) (c : UInt8) (r : List UInt8) : endS m (c :: r) = if m = true ∧ c.toNat ≠ 10 then endS true r else if isBl c then endS false r else if c.toNat = 35 then endS true r else false := rfl
theorem tx_nil : txS [] = .wide := rfl
theorem tx_line {c : UInt8} (r : List UInt8) (h : c.toNat = 10) : txS (c :: r) = .wide := by unfold txS; rw [if_pos h]
theorem tx_close {c : UInt8} (r : List UInt8) (h : c.toNat = 34) : txS (c :: r) = .done [] 1 := by unfold txS; rw [if_neg (by omega), if_pos h]
theorem tx_plain {c : UInt8} (r : List UInt8) (h1 : c.toNat ≠ 10) (h2 : c.toNat ≠ 34) (h3 : c.toNat ≠ 92) : txS (c :: r) = (txS r).push c 1 := by
  conv => lhs; unfold txS
  rw [if_neg h1, if_neg h2, if_neg h3]
theorem tx_esc {c : UInt8} (r : List UInt8) (h : c.toNat = 92) : txS (c :: r) = match escX r with | none => .esc 0 | some (x, k) => (txS (r.drop k)).push x (k + 1) := by
  conv => lhs; unfold txS
  rw [if_neg (by omega), if_neg (by omega), if_pos h]
  cases r with
  | nil => rfl
  | cons d r2 =>
    show _ = match escD d r2 with | none => _ | some (x, k) => _
    unfold escD
    dsimp only
    split
    · rfl
    · split
      · rfl
      · split
        · rfl
        · split
          · cases r2 with
            | nil => rfl
            | cons a r3 =>
              cases r3 with
              | nil => rfl
              | cons b r4 =>
                dsimp only
                split <;> rfl
          · rfl
theorem escX_len {r : List UInt8} {x : UInt8} {k : Nat} (h : escX r = some (x, k)) : 1 ≤ k ∧ k ≤ r.length := by
  cases r with
  | nil => cases h
  | cons d r2 =>
    change escD d r2 = _ at h
    unfold escD at h
    simp only [List.length_cons]
    split at h
    · simp only [Option.some.injEq, Prod.mk.injEq] at h; omega
    · split at h
      · simp only [Option.some.injEq, Prod.mk.injEq] at h; omega
      · split at h
        · simp only [Option.some.injEq, Prod.mk.injEq] at h; omega
        · split at h
          · split at h
            · split at h
              · cases h
              · simp only [Option.some.injEq, Prod.mk.injEq] at h
                simp only [List.length_cons]; omega
            · cases h
          · cases h
theorem escX_join {r : List UInt8} {x : UInt8} {k : Nat} (h : escX r = some (x, k)) (y : List UInt8) : escX (r.take k ++ y) = some (x, k) := by
  cases r with
  | nil => cases h
  | cons d r2 =>
    have hk := escX_len h
    obtain ⟨j, rfl⟩ : ∃ j, k = j + 1 := ⟨k - 1, by omega⟩
    rw [List.take_succ_cons, List.cons_append]
    change escD d r2 = _ at h
    show escD d _ = _
    unfold escD at h ⊢
    split at h
    · rename_i q; rw [if_pos q]; exact h
    · rename_i q; rw [if_neg q]
      split at h
      · rename_i q; rw [if_pos q]; exact h
      · rename_i q; rw [if_neg q]
        split at h
        · rename_i q; rw [if_pos q]; exact h
        · rename_i q; rw [if_neg q]
          split at h
          · rename_i q; rw [if_pos q]
            split at h
            · split at h
              · cases h
              · rename_i a b r4 q2
                have h' := h
                simp only [Option.some.injEq, Prod.mk.injEq] at h'
                obtain rfl : j = 2 := by omega
                rw [List.take_succ_cons, List.take_succ_cons, List.take_zero]
                simp only [List.cons_append, List.nil_append]
                rw [if_neg q2]; exact h
            · cases h
          · cases h
/-- an escape that is none is none with a newline behind it -/
theorem escX_none {r : List UInt8} (h : escX r = none) (m : List UInt8) {n : UInt8} (hn : n.toNat = 10) : escX (r ++ n :: m) = none := by
  have d16 : dv n.toNat = 16 := by rw [hn]; rfl
  cases r with
  | nil =>
    rw [List.nil_append]
    show escD n m = none
    unfold escD
    rw [if_neg (by omega), if_neg (by omega), if_neg (by omega), if_neg (by omega)]
  | cons d r2 =>
    rw [List.cons_append]
    change escD d r2 = _ at h
    show escD d _ = _
    unfold escD at h ⊢
    split at h
    · cases h
    · rename_i q; rw [if_neg q]
      split at h
      · cases h
      · rename_i q; rw [if_neg q]
        split at h
        · cases h
        · rename_i q; rw [if_neg q]
          split at h
          · rename_i q; rw [if_pos q]
            match r2, h with
            | [], _ =>
              cases m with
              | nil => rfl
              | cons b m2 => simp only [List.nil_append]; rw [if_pos (.inl d16)]
            | [a], _ => simp only [List.cons_append, List.nil_append]; rw [if_pos (.inr d16)]
            | a :: b :: r4, h =>
              simp only [List.cons_append]
              dsimp only at h
              split at h
              · rename_i q2; rw [if_pos q2]
              · cases h
          · rename_i q; rw [if_neg q]

/-- a token ahead, or its fault -/
inductive TR where
  | tok (k : Nat) (t : List UInt8) (n : Nat) (len : Nat)
  | bad (o : Nat) (e : Nat)
def tokL : List UInt8 → TR
  | [] => .bad 0 80
  | c :: r =>
    if isL c then (if 64 < wordN (c :: r) then .bad 0 111 else .tok 1 ((c :: r).take (wordN (c :: r))) 0 (wordN (c :: r)))
    else if isD c then (if 18446744073709551615 < numV ((c :: r).take (numN (c :: r))) then .bad 0 111 else .tok 2 [] (numV ((c :: r).take (numN (c :: r)))) (numN (c :: r)))
    else if c.toNat = 34 then
      match txS r with
      | .done l n => .tok 3 l 0 (n + 1)
      | .esc o => .bad (o + 1) 82
      | .wide => .bad 0 81
    else if isM c then .tok 4 [c] 0 1
    else .bad 0 80

/-- a token with its place -/
structure Tk where
  k : Nat
  t : List UInt8
  n : Nat
  a : Nat
  e : Nat
deriving DecidableEq
inductive LR where
  | ok (l : List Tk)
  | bad (at_ : Nat) (e : Nat)
deriving DecidableEq
def LR.push (x : Tk) : LR → LR
  | .ok l => .ok (x :: l)
  | .bad a e => .bad a e
def LR.pre (l : List Tk) : LR → LR
  | .ok r => .ok (l ++ r)
  | .bad a e => .bad a e
theorem LR.pre_nil (x : LR) : x.pre [] = x := by cases x <;> rfl
theorem LR.pre_push (l : List Tk) (t : Tk) (x : LR) : (x.push t).pre l = x.pre (l ++ [t]) := by cases x <;> simp [LR.push, LR.pre]

def endTk (n : Nat) : Tk := ⟨0, [], 0, n, n⟩
/-- the tokens of what stands from place off on -/
def lexF : Nat → List UInt8 → Nat → LR
  | 0, _, off => .ok [endTk off]
  | f + 1, l, off =>
    if skipS false l = l.length then .ok [endTk (off + l.length)]
    else match tokL (l.drop (skipS false l)) with
      | .bad o e => .bad (off + skipS false l + o) e
      | .tok k t n len => (lexF f (l.drop (skipS false l + len)) (off + skipS false l + len)).push ⟨k, t, n, off + skipS false l, off + skipS false l + len⟩
def lexL (l : List UInt8) (off : Nat) : LR := lexF (l.length + 1) l off

theorem skipS_le (m : Bool) (l : List UInt8) : skipS m l ≤ l.length := by
  induction l generalizing m with
  | nil => exact Nat.le_refl _
  | cons c r ih =>
    unfold skipS
    simp only [List.length_cons]
    split
    · have := ih true; omega
    · split
      · have := ih false; omega
      · split
        · have := ih true; omega
        · omega

theorem Tx.push_done {c : UInt8} {k : Nat} {x : Tx} {l : List UInt8} {n : Nat} (h : x.push c k = .done l n) : ∃ l' n', x = .done l' n' ∧ l = c :: l' ∧ n = n' + k := by
  cases x <;> simp [Tx.push] at h
  exact ⟨_, _, rfl, h.1.symm, h.2.symm⟩
theorem Tx.push_esc {c : UInt8} {k o : Nat} {x : Tx} (h : x.push c k = .esc o) : ∃ o', x = .esc o' ∧ o = o' + k := by
  cases x <;> simp [Tx.push] at h
  exact ⟨_, rfl, h.symm⟩
theorem Tx.push_wide {c : UInt8} {k : Nat} {x : Tx} (h : x.push c k = .wide) : x = .wide := by
  cases x <;> simp [Tx.push] at h
  rfl

theorem txS_len (l : List UInt8) {t : List UInt8} {n : Nat} (h : txS l = .done t n) : 1 ≤ n ∧ n ≤ l.length := by
  match l, h with
  | [], h => cases h
  | c :: r, h =>
    by_cases h1 : c.toNat = 10
    · rw [tx_line r h1] at h; cases h
    · by_cases h2 : c.toNat = 34
      · rw [tx_close r h2] at h
        simp only [Tx.done.injEq] at h
        simp only [List.length_cons]; omega
      · by_cases h3 : c.toNat = 92
        · rw [tx_esc r h3] at h
          split at h
          · cases h
          · rename_i x k he
            have hk := escX_len he
            obtain ⟨l', n', e1, _, e3⟩ := Tx.push_done h
            have := txS_len (r.drop k) e1
            rw [List.length_drop] at this
            simp only [List.length_cons]; omega
        · rw [tx_plain r h1 h2 h3] at h
          obtain ⟨l', n', e1, _, e3⟩ := Tx.push_done h
          have := txS_len r e1
          simp only [List.length_cons]; omega
termination_by l.length
decreasing_by
  all_goals (simp only [List.length_cons, List.length_drop]; omega)

theorem wordN_le (l : List UInt8) : wordN l ≤ l.length := by unfold wordN; exact (List.takeWhile_prefix _).length_le
theorem numN_le (l : List UInt8) : numN l ≤ l.length := by unfold numN; exact (List.takeWhile_prefix _).length_le
theorem wordN_pos {c : UInt8} {r : List UInt8} (h : isL c = true) : 1 ≤ wordN (c :: r) := by
  unfold wordN
  rw [List.takeWhile_cons_of_pos (by unfold isW; rw [h]; rfl)]
  simp
theorem numN_pos {c : UInt8} {r : List UInt8} (h : isD c = true) : 1 ≤ numN (c :: r) := by
  unfold numN
  rw [List.takeWhile_cons_of_pos h]
  simp

theorem tokL_len {l t : List UInt8} {k n len : Nat} (h : tokL l = .tok k t n len) : 1 ≤ len ∧ len ≤ l.length := by
  cases l with
  | nil => cases h
  | cons c r =>
    simp only [tokL] at h
    split at h
    · rename_i hL
      split at h
      · cases h
      · simp only [TR.tok.injEq] at h
        obtain ⟨_, _, _, rfl⟩ := h
        exact ⟨wordN_pos hL, wordN_le _⟩
    · split at h
      · rename_i hD
        split at h
        · cases h
        · simp only [TR.tok.injEq] at h
          obtain ⟨_, _, _, rfl⟩ := h
          exact ⟨numN_pos hD, numN_le _⟩
      · split at h
        · split at h
          · rename_i h1
            simp only [TR.tok.injEq] at h
            obtain ⟨_, _, _, rfl⟩ := h
            have := txS_len r h1
            simp only [List.length_cons]; omega
          · cases h
          · cases h
        · split at h
          · simp only [TR.tok.injEq] at h
            obtain ⟨_, _, _, rfl⟩ := h
            simp
          · cases h

/-- what is left over gives the same at any greater count -/
theorem lexF_more (f : Nat) : ∀ (l : List UInt8) (off g : Nat), l.length < f → f ≤ g → lexF g l off = lexF f l off := by
  induction f with
  | zero => intro l off g h; omega
  | succ f ih =>
    intro l off g hf hg
    obtain ⟨g, rfl⟩ : ∃ g', g = g' + 1 := ⟨g - 1, by omega⟩
    unfold lexF
    split
    · rfl
    · split
      · rfl
      · rename_i k t n len h
        have hl := tokL_len h
        rw [List.length_drop] at hl
        rw [ih _ _ g (by rw [List.length_drop]; omega) (by omega)]

theorem lexL_done {l : List UInt8} {off : Nat} (h : skipS false l = l.length) : lexL l off = .ok [endTk (off + l.length)] := by
  unfold lexL lexF
  rw [if_pos h]
theorem lexL_bad {l : List UInt8} {off o e : Nat} (h0 : skipS false l ≠ l.length) (h : tokL (l.drop (skipS false l)) = .bad o e) : lexL l off = .bad (off + skipS false l + o) e := by
  unfold lexL lexF
  rw [if_neg h0, h]
theorem lexL_tok {l : List UInt8} {off k n len : Nat} {t : List UInt8} (h0 : skipS false l ≠ l.length) (h : tokL (l.drop (skipS false l)) = .tok k t n len) :
    lexL l off = (lexL (l.drop (skipS false l + len)) (off + skipS false l + len)).push ⟨k, t, n, off + skipS false l, off + skipS false l + len⟩ := by
  have hl := tokL_len h
  rw [List.length_drop] at hl
  have hs := skipS_le false l
  unfold lexL
  conv => lhs; unfold lexF
  rw [if_neg h0, h]
  dsimp only
  rw [lexF_more ((l.drop (skipS false l + len)).length + 1) _ _ l.length (by omega) (by rw [List.length_drop]; omega)]
end Go.Proofs.YtipcgmaobiobbaaGreatDoor
/- Laws of blanks and tokens: what stands ahead and behind. No walk here. -/
namespace Go.Proofs.YtipcgmaobiobbaaGreatDoor
open Go.RowKit

theorem skip_append {m : Bool} {a : List UInt8} (b : List UInt8) (h : skipS m a = a.length) : skipS m (a ++ b) = a.length + skipS (endS m a) b := by
  induction a generalizing m with
  | nil => simp [endS]
  | cons c r ih =>
    rw [List.cons_append, skip_cons, end_cons]
    rw [skip_cons] at h
    simp only [List.length_cons] at h ⊢
    split at h
    · rename_i q
      rw [if_pos q, if_pos q, ih (by omega)]; omega
    · rename_i q
      rw [if_neg q, if_neg q]
      split at h
      · rename_i q2
        rw [if_pos q2, if_pos q2, ih (by omega)]; omega
      · rename_i q2
        rw [if_neg q2, if_neg q2]
        split at h
        · rename_i q3
          rw [if_pos q3, if_pos q3, ih (by omega)]; omega
        · omega
theorem skip_part {m : Bool} {a : List UInt8} (b : List UInt8) (h : skipS m a ≠ a.length) : skipS m (a ++ b) = skipS m a := by
  induction a generalizing m with
  | nil => exact absurd rfl h
  | cons c r ih =>
    rw [List.cons_append, skip_cons, skip_cons]
    rw [skip_cons] at h
    simp only [List.length_cons] at h
    split
    · rename_i q
      rw [if_pos q] at h
      rw [ih (by omega)]
    · rename_i q
      rw [if_neg q] at h
      split
      · rename_i q2
        rw [if_pos q2] at h
        rw [ih (by omega)]
      · rename_i q2
        rw [if_neg q2] at h
        split
        · rename_i q3
          rw [if_pos q3] at h
          rw [ih (by omega)]
        · rfl
theorem skip_take (m : Bool) (l : List UInt8) : skipS m (l.take (skipS m l)) = skipS m l := by
  have hle := skipS_le m l
  have hl : (l.take (skipS m l)).length = skipS m l := by rw [List.length_take]; omega
  by_cases h : skipS m (l.take (skipS m l)) = (l.take (skipS m l)).length
  · rw [h, hl]
  · have := skip_part (l.drop (skipS m l)) h
    rw [List.take_append_drop] at this
    omega
/-- what stands behind the byte that ends the blanks plays no part -/
theorem skip_cut {m : Bool} {l : List UInt8} {j : Nat} (y : List UInt8) (h : skipS m l < j) (hj : j ≤ l.length) : skipS m (l.take j ++ y) = skipS m l := by
  have hl : (l.take j).length = j := by rw [List.length_take]; omega
  have hn : skipS m (l.take j) ≠ (l.take j).length := fun e => by
    have := skip_append (l.drop j) e
    rw [List.take_append_drop, hl] at this
    omega
  have h2 := skip_part (l.drop j) hn
  rw [List.take_append_drop] at h2
  rw [skip_part y hn, ← h2]

/-- the list doesn't go on with such a byte -/
def Bd (p : UInt8 → Bool) (y : List UInt8) : Prop := ∀ d r, y = d :: r → p d = false
theorem Bd.nil (p : UInt8 → Bool) : Bd p [] := fun _ _ h => by cases h
theorem Bd.cons {p : UInt8 → Bool} {d : UInt8} (r : List UInt8) (h : p d = false) : Bd p (d :: r) := fun _ _ e => by cases e; exact h
theorem Bd.app {p : UInt8 → Bool} {a b : List UInt8} (ha : Bd p a) (hb : Bd p b) : Bd p (a ++ b) := by
  cases a with
  | nil => exact hb
  | cons c r => exact Bd.cons _ (ha c r rfl)
theorem Bd.take {p : UInt8 → Bool} {a : List UInt8} (ha : Bd p a) (k : Nat) : Bd p (a.take k) := by
  cases a with
  | nil => simpa using Bd.nil p
  | cons c r =>
    cases k with
    | zero => simpa using Bd.nil p
    | succ k => rw [List.take_succ_cons]; exact Bd.cons _ (ha c r rfl)
theorem Bd.digit {y : List UInt8} (h : Bd isW y) : Bd isD y := fun d r e => by
  have := h d r e
  unfold isW at this
  rw [Bool.or_eq_false_iff] at this
  exact this.2

theorem tw_take (p : UInt8 → Bool) (l : List UInt8) : l.take (l.takeWhile p).length = l.takeWhile p := (List.prefix_iff_eq_take.1 (List.takeWhile_prefix p)).symm
theorem tw_mem (p : UInt8 → Bool) (l : List UInt8) : ∀ c ∈ l.takeWhile p, p c = true := by
  induction l with
  | nil => simp
  | cons d r ih =>
    intro c hc
    rw [List.takeWhile_cons] at hc
    split at hc
    · rename_i hd
      rcases List.mem_cons.1 hc with rfl | h
      · exact hd
      · exact ih c h
    · cases hc
theorem tw_join {p : UInt8 → Bool} {x : List UInt8} (h : ∀ c ∈ x, p c = true) {y : List UInt8} (hy : Bd p y) : (x ++ y).takeWhile p = x := by
  rw [List.takeWhile_append_of_pos h]
  cases y with
  | nil => simp
  | cons d r => rw [List.takeWhile_cons_of_neg (by simp [hy d r rfl]), List.append_nil]
theorem tw_rest (p : UInt8 → Bool) (l : List UInt8) : Bd p (l.drop (l.takeWhile p).length) := by
  induction l with
  | nil => simpa using Bd.nil p
  | cons c r ih =>
    rw [List.takeWhile_cons]
    split
    · simpa using ih
    · rename_i h
      simpa using Bd.cons r (by simpa using h)
theorem tw_more {p : UInt8 → Bool} (l : List UInt8) {y : List UInt8} (hy : Bd p y) : (l ++ y).takeWhile p = l.takeWhile p := by
  induction l with
  | nil =>
    cases y with
    | nil => rfl
    | cons d r => rw [List.nil_append, List.takeWhile_cons_of_neg (by simp [hy d r rfl])]; rfl
  | cons c r ih =>
    rw [List.cons_append, List.takeWhile_cons, List.takeWhile_cons, ih]

theorem tx_join (r : List UInt8) {t : List UInt8} {n : Nat} (y : List UInt8) (h : txS r = .done t n) : txS (r.take n ++ y) = .done t n := by
  match r, h with
  | [], h => cases h
  | c :: r, h =>
    by_cases h1 : c.toNat = 10
    · rw [tx_line r h1] at h; cases h
    · by_cases h2 : c.toNat = 34
      · rw [tx_close r h2] at h
        simp only [Tx.done.injEq] at h
        obtain ⟨rfl, rfl⟩ := h
        rw [List.take_succ_cons, List.cons_append, tx_close _ h2]
      · by_cases h3 : c.toNat = 92
        · rw [tx_esc r h3] at h
          split at h
          · cases h
          · rename_i x k he
            have hk := escX_len he
            obtain ⟨l', n', e1, rfl, rfl⟩ := Tx.push_done h
            have ih := tx_join (r.drop k) y e1
            have hs : r.take (n' + k) = r.take k ++ (r.drop k).take n' := by rw [Nat.add_comm, List.take_add]
            rw [show n' + (k + 1) = (n' + k) + 1 by omega, List.take_succ_cons, List.cons_append, tx_esc _ h3, hs, List.append_assoc, escX_join he]
            dsimp only
            rw [List.drop_left' (by rw [List.length_take]; omega), ih]
            rfl
        · rw [tx_plain r h1 h2 h3] at h
          obtain ⟨l', n', e1, rfl, rfl⟩ := Tx.push_done h
          have ih := tx_join r y e1
          rw [List.take_succ_cons, List.cons_append, tx_plain _ h1 h2 h3, ih]
          rfl
termination_by r.length
decreasing_by
  all_goals (simp only [List.length_cons, List.length_drop]; omega)

/-- a token is the same whatever stands behind it, as long as that doesn't go on with it -/
theorem tok_join {l t : List UInt8} {k n len : Nat} (h : tokL l = .tok k t n len) {y : List UInt8} (h1 : k = 1 → Bd isW y) (h2 : k = 2 → Bd isD y) : tokL (l.take len ++ y) = .tok k t n len := by
  cases l with
  | nil => cases h
  | cons c r =>
    have hl := tokL_len h
    simp only [tokL] at h
    split at h
    · rename_i qL
      split at h
      · cases h
      · rename_i q64
        simp only [TR.tok.injEq] at h
        obtain ⟨rfl, rfl, rfl, rfl⟩ := h
        have hw := tw_join (tw_mem isW (c :: r)) (h1 rfl)
        have hx : (c :: r).take (wordN (c :: r)) = (c :: r).takeWhile isW := tw_take isW _
        have hwn : wordN ((c :: r).take (wordN (c :: r)) ++ y) = wordN (c :: r) := by
          rw [hx]; unfold wordN; rw [hw]
        obtain ⟨x', hx'⟩ : ∃ x', (c :: r).take (wordN (c :: r)) = c :: x' := ⟨r.take (wordN (c :: r) - 1), by
          obtain ⟨j, hj⟩ : ∃ j, wordN (c :: r) = j + 1 := ⟨wordN (c :: r) - 1, by omega⟩
          rw [hj, List.take_succ_cons]; rfl⟩
        have hlx : (c :: x').length = wordN (c :: r) := by rw [← hx', List.length_take]; omega
        rw [hx'] at hwn ⊢
        rw [List.cons_append] at hwn ⊢
        simp only [tokL]
        rw [if_pos qL, hwn, if_neg q64, ← List.cons_append, ← hlx, List.take_left]
    · rename_i qL
      split at h
      · rename_i qD
        split at h
        · cases h
        · rename_i qbig
          simp only [TR.tok.injEq] at h
          obtain ⟨rfl, rfl, rfl, rfl⟩ := h
          have hw := tw_join (tw_mem isD (c :: r)) (h2 rfl)
          have hx : (c :: r).take (numN (c :: r)) = (c :: r).takeWhile isD := tw_take isD _
          have hwn : numN ((c :: r).take (numN (c :: r)) ++ y) = numN (c :: r) := by
            rw [hx]; unfold numN; rw [hw]
          obtain ⟨x', hx'⟩ : ∃ x', (c :: r).take (numN (c :: r)) = c :: x' := ⟨r.take (numN (c :: r) - 1), by
            obtain ⟨j, hj⟩ : ∃ j, numN (c :: r) = j + 1 := ⟨numN (c :: r) - 1, by omega⟩
            rw [hj, List.take_succ_cons]; rfl⟩
          have hlx : (c :: x').length = numN (c :: r) := by rw [← hx', List.length_take]; omega
          rw [hx'] at hwn qbig ⊢
          rw [List.cons_append] at hwn ⊢
          simp only [tokL]
          have ht : (c :: (x' ++ y)).take (numN (c :: r)) = c :: x' := by rw [← List.cons_append, ← hlx, List.take_left]
          rw [if_neg qL, if_pos qD, hwn, ht, if_neg qbig]
      · rename_i qD
        split at h
        · rename_i q34
          split at h
          · rename_i h3
            simp only [TR.tok.injEq] at h
            obtain ⟨rfl, rfl, rfl, rfl⟩ := h
            rw [List.take_succ_cons, List.cons_append]
            simp only [tokL]
            rw [if_neg qL, if_neg qD, if_pos q34, tx_join r y h3]
          · cases h
          · cases h
        · rename_i q34
          split at h
          · rename_i qM
            simp only [TR.tok.injEq] at h
            obtain ⟨rfl, rfl, rfl, rfl⟩ := h
            rw [List.take_succ_cons, List.take_zero, List.cons_append]
            simp only [tokL]
            rw [if_neg qL, if_neg qD, if_neg q34, if_pos qM]
          · cases h

theorem tok_rest {l t : List UInt8} {k n len : Nat} (h : tokL l = .tok k t n len) : (k = 1 → Bd isW (l.drop len)) ∧ (k = 2 → Bd isD (l.drop len)) := by
  cases l with
  | nil => cases h
  | cons c r =>
    simp only [tokL] at h
    split at h
    · split at h
      · cases h
      · simp only [TR.tok.injEq] at h
        obtain ⟨rfl, rfl, rfl, rfl⟩ := h
        exact ⟨fun _ => tw_rest isW _, fun e => by omega⟩
    · split at h
      · split at h
        · cases h
        · simp only [TR.tok.injEq] at h
          obtain ⟨rfl, rfl, rfl, rfl⟩ := h
          exact ⟨fun e => by omega, fun _ => tw_rest isD _⟩
      · split at h
        · split at h
          · simp only [TR.tok.injEq] at h
            obtain ⟨rfl, rfl, rfl, rfl⟩ := h
            exact ⟨fun e => by omega, fun e => by omega⟩
          · cases h
          · cases h
        · split at h
          · simp only [TR.tok.injEq] at h
            obtain ⟨rfl, rfl, rfl, rfl⟩ := h
            exact ⟨fun e => by omega, fun e => by omega⟩
          · cases h
end Go.Proofs.YtipcgmaobiobbaaGreatDoor
/- Laws of a text's tokens: put behind blanks, ahead of more, cut. No walk here. -/
namespace Go.Proofs.YtipcgmaobiobbaaGreatDoor
open Go.RowKit

theorem nl_word {n : UInt8} (hn : n.toNat = 10) : isW n = false := by
  unfold isW isL isD
  rw [hn]
  decide

/-! ### faults, and a newline behind -/
theorem tx_wide_more (r : List UInt8) (h : txS r = .wide) (m : List UInt8) {n : UInt8} (hn : n.toNat = 10) : txS (r ++ n :: m) = .wide := by
  match r, h with
  | [], _ => rw [List.nil_append, tx_line m hn]
  | c :: r, h =>
    rw [List.cons_append]
    by_cases h1 : c.toNat = 10
    · rw [tx_line _ h1]
    · by_cases h2 : c.toNat = 34
      · rw [tx_close r h2] at h; cases h
      · by_cases h3 : c.toNat = 92
        · rw [tx_esc r h3] at h
          split at h
          · cases h
          · rename_i x k he
            have hk := escX_len he
            have hr : r = r.take k ++ r.drop k := (List.take_append_drop k r).symm
            have ih := tx_wide_more (r.drop k) (Tx.push_wide h) m hn
            rw [tx_esc _ h3]
            have he2 := escX_join he (r.drop k ++ n :: m)
            rw [← List.append_assoc, List.take_append_drop] at he2
            rw [he2]
            dsimp only
            rw [List.drop_append_of_le_length (by omega), ih]
            rfl
        · rw [tx_plain r h1 h2 h3] at h
          rw [tx_plain _ h1 h2 h3, tx_wide_more r (Tx.push_wide h) m hn]
          rfl
termination_by r.length
decreasing_by
  all_goals (simp only [List.length_cons, List.length_drop]; omega)

theorem tx_esc_more (r : List UInt8) {o : Nat} (h : txS r = .esc o) (m : List UInt8) {n : UInt8} (hn : n.toNat = 10) : txS (r ++ n :: m) = .esc o := by
  match r, h with
  | [], h => cases h
  | c :: r, h =>
    rw [List.cons_append]
    by_cases h1 : c.toNat = 10
    · rw [tx_line _ h1] at h; cases h
    · by_cases h2 : c.toNat = 34
      · rw [tx_close r h2] at h; cases h
      · by_cases h3 : c.toNat = 92
        · rw [tx_esc r h3] at h
          split at h
          · rename_i he
            rw [tx_esc _ h3, escX_none he m hn]
            exact h
          · rename_i x k he
            have hk := escX_len he
            obtain ⟨o', e1, rfl⟩ := Tx.push_esc h
            have ih := tx_esc_more (r.drop k) e1 m hn
            rw [tx_esc _ h3]
            have he2 := escX_join he (r.drop k ++ n :: m)
            rw [← List.append_assoc, List.take_append_drop] at he2
            rw [he2]
            dsimp only
            rw [List.drop_append_of_le_length (by omega), ih]
            rfl
        · rw [tx_plain r h1 h2 h3] at h
          obtain ⟨o', e1, rfl⟩ := Tx.push_esc h
          rw [tx_plain _ h1 h2 h3, tx_esc_more r e1 m hn]
          rfl
termination_by r.length
decreasing_by
  all_goals (simp only [List.length_cons, List.length_drop]; omega)

/-- up to a wrong escape a text has no end -/
theorem tx_esc_take (r : List UInt8) {o : Nat} (h : txS r = .esc o) : o < r.length ∧ txS (r.take o) = .wide := by
  match r, h with
  | [], h => cases h
  | c :: r, h =>
    by_cases h1 : c.toNat = 10
    · rw [tx_line _ h1] at h; cases h
    · by_cases h2 : c.toNat = 34
      · rw [tx_close r h2] at h; cases h
      · by_cases h3 : c.toNat = 92
        · rw [tx_esc r h3] at h
          split at h
          · simp only [Tx.esc.injEq] at h
            subst h
            exact ⟨by simp, by rw [List.take_zero, tx_nil]⟩
          · rename_i x k he
            have hk := escX_len he
            obtain ⟨o', e1, rfl⟩ := Tx.push_esc h
            obtain ⟨i1, i2⟩ := tx_esc_take (r.drop k) e1
            rw [List.length_drop] at i1
            have hs : r.take (o' + k) = r.take k ++ (r.drop k).take o' := by rw [Nat.add_comm, List.take_add]
            refine ⟨by simp only [List.length_cons]; omega, ?_⟩
            rw [show o' + (k + 1) = (o' + k) + 1 by omega, List.take_succ_cons, tx_esc _ h3, hs, escX_join he]
            dsimp only
            rw [List.drop_left' (by rw [List.length_take]; omega), i2]
            rfl
        · rw [tx_plain r h1 h2 h3] at h
          obtain ⟨o', e1, rfl⟩ := Tx.push_esc h
          obtain ⟨i1, i2⟩ := tx_esc_take r e1
          refine ⟨by simp only [List.length_cons]; omega, ?_⟩
          rw [List.take_succ_cons, tx_plain _ h1 h2 h3, i2]
          rfl
termination_by r.length
decreasing_by
  all_goals (simp only [List.length_cons, List.length_drop]; omega)

/-- the fault of a token: with a newline behind it, and what stands ahead of it -/
theorem tok_bad {l : List UInt8} {o e : Nat} (h : tokL l = .bad o e) (h0 : l ≠ []) (m : List UInt8) {n : UInt8} (hn : n.toNat = 10) :
    tokL (l ++ n :: m) = .bad o e ∧ ((e = 82 ∧ 1 ≤ o ∧ o < l.length ∧ tokL (l.take o) = .bad 0 81) ∨ (e ≠ 82 ∧ o = 0)) := by
  cases l with
  | nil => exact absurd rfl h0
  | cons c r =>
    have bw : Bd isW (n :: m) := Bd.cons m (nl_word hn)
    have hwn : wordN (c :: (r ++ n :: m)) = wordN (c :: r) := by
      unfold wordN
      rw [← List.cons_append, tw_more _ bw]
    have hnn : numN (c :: (r ++ n :: m)) = numN (c :: r) := by
      unfold numN
      rw [← List.cons_append, tw_more _ bw.digit]
    have htk : (c :: (r ++ n :: m)).take (numN (c :: r)) = (c :: r).take (numN (c :: r)) := by
      rw [← List.cons_append, List.take_append_of_le_length (numN_le _)]
    rw [List.cons_append]
    simp only [tokL] at h ⊢
    split at h
    · rename_i q
      rw [if_pos q]
      split at h
      · rename_i q2
        simp only [TR.bad.injEq] at h
        obtain ⟨rfl, rfl⟩ := h
        rw [hwn, if_pos q2]
        exact ⟨rfl, .inr ⟨by omega, rfl⟩⟩
      · cases h
    · rename_i q
      rw [if_neg q]
      split at h
      · rename_i qd
        rw [if_pos qd]
        split at h
        · rename_i q2
          simp only [TR.bad.injEq] at h
          obtain ⟨rfl, rfl⟩ := h
          rw [hnn, htk, if_pos q2]
          exact ⟨rfl, .inr ⟨by omega, rfl⟩⟩
        · cases h
      · rename_i qd
        rw [if_neg qd]
        split at h
        · rename_i q34
          rw [if_pos q34]
          split at h
          · cases h
          · rename_i o' ht
            simp only [TR.bad.injEq] at h
            obtain ⟨rfl, rfl⟩ := h
            obtain ⟨i1, i2⟩ := tx_esc_take r ht
            rw [tx_esc_more r ht m hn]
            refine ⟨rfl, .inl ⟨rfl, by omega, by simp only [List.length_cons]; omega, ?_⟩⟩
            rw [List.take_succ_cons]
            show (if isL c then _ else _) = _
            rw [if_neg q, if_neg qd, if_pos q34, i2]
          · rename_i ht
            simp only [TR.bad.injEq] at h
            obtain ⟨rfl, rfl⟩ := h
            rw [tx_wide_more r ht m hn]
            exact ⟨rfl, .inr ⟨by omega, rfl⟩⟩
        · rename_i q34
          rw [if_neg q34]
          split at h
          · cases h
          · rename_i qm
            rw [if_neg qm]
            simp only [TR.bad.injEq] at h
            obtain ⟨rfl, rfl⟩ := h
            exact ⟨rfl, .inr ⟨by omega, rfl⟩⟩

/-! ### a text's tokens -/
/-- a text's first token, or its fault, or its end -/
theorem lex_cases (l : List UInt8) (off : Nat) :
    (skipS false l = l.length ∧ lexL l off = .ok [endTk (off + l.length)]) ∨
    (∃ s o e, skipS false l = s ∧ s < l.length ∧ tokL (l.drop s) = .bad o e ∧ lexL l off = .bad (off + s + o) e) ∨
    (∃ s k t n len, skipS false l = s ∧ s + len ≤ l.length ∧ 1 ≤ len ∧ tokL (l.drop s) = .tok k t n len ∧ lexL l off = (lexL (l.drop (s + len)) (off + s + len)).push ⟨k, t, n, off + s, off + s + len⟩) := by
  have hs := skipS_le false l
  by_cases h : skipS false l = l.length
  · exact .inl ⟨h, lexL_done h⟩
  · cases ht : tokL (l.drop (skipS false l)) with
    | bad o e => exact .inr (.inl ⟨_, o, e, rfl, by omega, ht, lexL_bad h ht⟩)
    | tok k t n len =>
      have hl := tokL_len ht
      rw [List.length_drop] at hl
      exact .inr (.inr ⟨_, k, t, n, len, rfl, by omega, hl.1, ht, lexL_tok h ht⟩)

theorem LR.push_ok {x : Tk} {r : LR} {ts : List Tk} (h : r.push x = .ok ts) : ∃ ts', r = .ok ts' ∧ ts = x :: ts' := by
  cases r <;> simp [LR.push] at h
  exact ⟨_, rfl, h.symm⟩
theorem LR.push_bad {x : Tk} {r : LR} {a e : Nat} (h : r.push x = .bad a e) : r = .bad a e := by
  cases r <;> simp [LR.push] at h
  simp [h.1, h.2]

/-- blanks ahead change the places alone -/
theorem lex_gap {b : List UInt8} (h : skipS false b = b.length) (he : endS false b = false) (l : List UInt8) (off : Nat) : lexL (b ++ l) off = lexL l (off + b.length) := by
  have hsk : skipS false (b ++ l) = b.length + skipS false l := by rw [skip_append l h, he]
  have hdr : ∀ j, (b ++ l).drop (b.length + j) = l.drop j := fun j => by rw [← List.drop_drop, List.drop_left]
  rcases lex_cases l (off + b.length) with ⟨h1, h2⟩ | ⟨s, o, e, h1, h2, h3, h4⟩ | ⟨s, k, t, n, len, h1, h2, h3, h4, h5⟩
  · rw [h2, lexL_done (by rw [hsk, h1, List.length_append]), List.length_append, Nat.add_assoc]
  · rw [h4, lexL_bad (o := o) (e := e) (by rw [hsk, h1, List.length_append]; omega) (by rw [hsk, h1, hdr]; exact h3), hsk, h1]
    congr 1
    omega
  · rw [h5, lexL_tok (k := k) (t := t) (n := n) (len := len) (by rw [hsk, h1, List.length_append]; omega) (by rw [hsk, h1, hdr]; exact h4), hsk, h1, Nat.add_assoc b.length, hdr]
    simp only [Nat.add_assoc]

/-- a token without its place -/
def core (x : Tk) : Nat × List UInt8 × Nat × Nat := (x.k, x.t, x.n, x.e - x.a)
def cores : LR → Option (List (Nat × List UInt8 × Nat × Nat))
  | .ok l => some (l.map core)
  | .bad _ _ => none
theorem cores_push (x : Tk) (r : LR) : cores (r.push x) = (cores r).map (core x :: ·) := by cases r <;> rfl

/-- tokens hang on the place in no other way -/
theorem lex_core (N : Nat) : ∀ (l : List UInt8) (off off' : Nat), l.length ≤ N → cores (lexL l off) = cores (lexL l off') := by
  induction N with
  | zero =>
    intro l off off' h
    obtain rfl := List.eq_nil_of_length_eq_zero (by omega : l.length = 0)
    rw [lexL_done rfl, lexL_done rfl]
    simp [cores, core, endTk]
  | succ N ih =>
    intro l off off' h
    rcases lex_cases l off with ⟨h1, h2⟩ | ⟨s, o, e, h1, h2, h3, h4⟩ | ⟨s, k, t, n, len, h1, h2, h3, h4, h5⟩
    · rw [h2, lexL_done h1]
      simp [cores, core, endTk]
    · rw [h4, lexL_bad (o := o) (e := e) (by omega) (by rw [h1]; exact h3)]
      rfl
    · rw [h5, lexL_tok (off := off') (k := k) (t := t) (n := n) (len := len) (by omega) (by rw [h1]; exact h4), h1, cores_push, cores_push,
        ih (l.drop (s + len)) (off + s + len) (off' + s + len) (by rw [List.length_drop]; omega)]
      have e : core ⟨k, t, n, off + s, off + s + len⟩ = core ⟨k, t, n, off' + s, off' + s + len⟩ := by
        simp only [core]
        rw [show off + s + len - (off + s) = len by omega, show off' + s + len - (off' + s) = len by omega]
      rw [e]

/-- how the tokens of a text begin, with something else behind its first token -/
theorem lex_first {l : List UInt8} {s k n len : Nat} {t : List UInt8} (h1 : skipS false l = s) (h2 : s + len ≤ l.length) (h3 : 1 ≤ len) (h4 : tokL (l.drop s) = .tok k t n len) {y : List UInt8} (hw : k = 1 → Bd isW y) (hd : k = 2 → Bd isD y) (off : Nat) :
    lexL (l.take (s + len) ++ y) off = (lexL y (off + s + len)).push ⟨k, t, n, off + s, off + s + len⟩ := by
  have hsk : skipS false (l.take (s + len) ++ y) = s := by rw [skip_cut y (by omega) h2, h1]
  have hl : (l.take (s + len)).length = s + len := by rw [List.length_take]; omega
  have hdr : (l.take (s + len) ++ y).drop s = (l.drop s).take len ++ y := by
    rw [List.drop_append_of_le_length (by omega), List.drop_take, Nat.add_sub_cancel_left]
  have htk := tok_join h4 hw hd
  rw [lexL_tok (k := k) (t := t) (n := n) (len := len) (by rw [hsk, List.length_append]; omega) (by rw [hsk, hdr]; exact htk), hsk, List.drop_left' hl]

/-- a gap behind changes no token -/
theorem lex_tail {z : List UInt8} (hz : ∀ m, skipS m z = z.length) (hb : Bd isW z) (N : Nat) : ∀ (l : List UInt8) (off : Nat) {ts : List Tk}, l.length ≤ N → lexL l off = .ok ts → cores (lexL (l ++ z) off) = some (ts.map core) := by
  induction N with
  | zero =>
    intro l off ts h hl
    obtain rfl := List.eq_nil_of_length_eq_zero (by omega : l.length = 0)
    rw [lexL_done rfl] at hl
    obtain rfl := LR.ok.inj hl
    rw [List.nil_append, lexL_done (hz false)]
    simp [cores, core, endTk]
  | succ N ih =>
    intro l off ts h hl
    rcases lex_cases l off with ⟨h1, h2⟩ | ⟨s, o, e, h1, h2, h3, h4⟩ | ⟨s, k, t, n, len, h1, h2, h3, h4, h5⟩
    · rw [h2] at hl
      obtain rfl := LR.ok.inj hl
      rw [lexL_done (by rw [skip_append z h1, hz, List.length_append])]
      simp [cores, core, endTk]
    · rw [h4] at hl; cases hl
    · rw [h5] at hl
      obtain ⟨ts', g1, rfl⟩ := LR.push_ok hl
      have hrest := tok_rest h4
      rw [List.drop_drop] at hrest
      have e : l ++ z = l.take (s + len) ++ (l.drop (s + len) ++ z) := by rw [← List.append_assoc, List.take_append_drop]
      rw [e, lex_first h1 h2 h3 h4 (fun q => (hrest.1 q).app hb) (fun q => (hrest.2 q).app hb.digit), cores_push, ih (l.drop (s + len)) _ (by rw [List.length_drop]; omega) g1]
      rfl

/-- it begins with a byte that no word goes on with -/
def Sep (b : List UInt8) : Prop := ∃ d r, b = d :: r ∧ isW d = false
theorem Sep.bd {b : List UInt8} (h : Sep b) (y : List UInt8) : Bd isW (b ++ y) := by
  obtain ⟨d, r, rfl, hd⟩ := h
  exact Bd.cons _ hd

/-- blanks put behind a token change no token -/
theorem lex_cut {b : List UInt8} (h0 : skipS false b = b.length) (he : endS false b = false) (hb : Sep b) (N : Nat) : ∀ (l : List UInt8) (off : Nat) {ts : List Tk} (i : Nat) (x : Tk), l.length ≤ N → lexL l off = .ok ts → i + 1 < ts.length → ts[i]? = some x →
    off ≤ x.e ∧ x.e ≤ off + l.length ∧ cores (lexL (l.take (x.e - off) ++ (b ++ l.drop (x.e - off))) off) = some (ts.map core) := by
  induction N with
  | zero =>
    intro l off ts i x h hl hi
    obtain rfl := List.eq_nil_of_length_eq_zero (by omega : l.length = 0)
    rw [lexL_done rfl] at hl
    obtain rfl := LR.ok.inj hl
    simp at hi
  | succ N ih =>
    intro l off ts i x h hl hi hx
    rcases lex_cases l off with ⟨h1, h2⟩ | ⟨s, o, e, h1, h2, h3, h4⟩ | ⟨s, k, t, n, len, h1, h2, h3, h4, h5⟩
    · rw [h2] at hl
      obtain rfl := LR.ok.inj hl
      simp at hi
    · rw [h4] at hl; cases hl
    · rw [h5] at hl
      obtain ⟨ts', g1, rfl⟩ := LR.push_ok hl
      have hrest := tok_rest h4
      rw [List.drop_drop] at hrest
      have hll : (l.drop (s + len)).length = l.length - (s + len) := List.length_drop
      cases i with
      | zero =>
        simp only [List.getElem?_cons_zero, Option.some.injEq] at hx
        subst hx
        refine ⟨by show off ≤ off + s + len; omega, by show off + s + len ≤ _; omega, ?_⟩
        rw [show off + s + len - off = s + len by omega, lex_first h1 h2 h3 h4 (fun _ => hb.bd _) (fun _ => (hb.bd _).digit), cores_push, lex_gap h0 he, lex_core _ _ _ (off + s + len) (Nat.le_refl _), g1]
        rfl
      | succ i =>
        simp only [List.getElem?_cons_succ] at hx
        simp only [List.length_cons] at hi
        obtain ⟨j1, j2, j3⟩ := ih (l.drop (s + len)) (off + s + len) i x (by omega) g1 (by omega) hx
        refine ⟨by omega, by omega, ?_⟩
        have hq : x.e - off = (s + len) + (x.e - (off + s + len)) := by omega
        have hdd : l.drop (s + len + (x.e - (off + s + len))) = (l.drop (s + len)).drop (x.e - (off + s + len)) := List.drop_drop.symm
        rw [hq, List.take_add, List.append_assoc, hdd, lex_first h1 h2 h3 h4 (fun q => ((hrest.1 q).take _).app (hb.bd _)) (fun q => ((hrest.2 q).take _).app (hb.bd _).digit), cores_push, j3]
        rfl
end Go.Proofs.YtipcgmaobiobbaaGreatDoor
/- Laws of a text's tokens: faults, names, a text written as one. No walk here. -/
namespace Go.Proofs.YtipcgmaobiobbaaGreatDoor
open Go.RowKit

theorem skip_sub {l : List UInt8} {s : Nat} (h : skipS false l = s) (h2 : s < l.length) (y : List UInt8) : skipS false (l ++ y) = s := by
  rw [skip_part y (by omega), h]

/-- what is faulty stays so, whatever lines stand behind -/
theorem lex_bad_more (m : List UInt8) {n : UInt8} (hn : n.toNat = 10) (N : Nat) : ∀ (l : List UInt8) (off : Nat) {a e : Nat}, l.length ≤ N → lexL l off = .bad a e → lexL (l ++ n :: m) off = .bad a e := by
  induction N with
  | zero =>
    intro l off a e h hl
    obtain rfl := List.eq_nil_of_length_eq_zero (by omega : l.length = 0)
    rw [lexL_done rfl] at hl; cases hl
  | succ N ih =>
    intro l off a e h hl
    rcases lex_cases l off with ⟨h1, h2⟩ | ⟨s, o, e', h1, h2, h3, h4⟩ | ⟨s, k, t, n', len, h1, h2, h3, h4, h5⟩
    · rw [h2] at hl; cases hl
    · rw [h4] at hl
      have hsk := skip_sub h1 h2 (n :: m)
      have ht := (tok_bad h3 (by intro e0; have := congrArg List.length e0; rw [List.length_drop] at this; simp at this; omega) m hn).1
      rw [lexL_bad (o := o) (e := e') (by rw [hsk, List.length_append]; omega) (by rw [hsk, List.drop_append_of_le_length (by omega)]; exact ht), hsk]
      exact hl
    · rw [h5] at hl
      have g1 := LR.push_bad hl
      have hrest := tok_rest h4
      rw [List.drop_drop] at hrest
      have bn : Bd isW (n :: m) := Bd.cons m (nl_word hn)
      have e : l ++ n :: m = l.take (s + len) ++ (l.drop (s + len) ++ n :: m) := by rw [← List.append_assoc, List.take_append_drop]
      rw [e, lex_first h1 h2 h3 h4 (fun q => (hrest.1 q).app bn) (fun q => (hrest.2 q).app bn.digit), ih (l.drop (s + len)) _ (by rw [List.length_drop]; omega) g1]
      rfl

/-- ahead of a fault there are tokens, or a text that isn't ended -/
theorem lex_bad_front (N : Nat) : ∀ (l : List UInt8) (off : Nat) {a e : Nat}, l.length ≤ N → lexL l off = .bad a e →
    off ≤ a ∧ a < off + l.length ∧ (e = 82 → ∃ j, j < a ∧ lexL (l.take (a - off)) off = .bad j 81) ∧ (e ≠ 82 → ∃ ts, lexL (l.take (a - off)) off = .ok ts) := by
  induction N with
  | zero =>
    intro l off a e h hl
    obtain rfl := List.eq_nil_of_length_eq_zero (by omega : l.length = 0)
    rw [lexL_done rfl] at hl; cases hl
  | succ N ih =>
    intro l off a e h hl
    rcases lex_cases l off with ⟨h1, h2⟩ | ⟨s, o, e', h1, h2, h3, h4⟩ | ⟨s, k, t, n', len, h1, h2, h3, h4, h5⟩
    · rw [h2] at hl; cases hl
    · rw [h4] at hl
      simp only [LR.bad.injEq] at hl
      obtain ⟨rfl, rfl⟩ := hl
      have hd : (l.drop s).length = l.length - s := List.length_drop
      rcases (tok_bad h3 (by intro e0; rw [e0] at hd; simp at hd; omega) [] (n := 10) rfl).2 with ⟨rfl, q1, q2, q3⟩ | ⟨q1, rfl⟩
      · refine ⟨by omega, by omega, fun _ => ⟨off + s, by omega, ?_⟩, fun hne => absurd rfl hne⟩
        have hsk : skipS false (l.take (s + o)) = s := by
          have := skip_cut (m := false) (l := l) (j := s + o) [] (by omega) (by omega)
          rw [List.append_nil, h1] at this
          exact this
        rw [show off + s + o - off = s + o by omega, lexL_bad (o := 0) (e := 81) (by rw [hsk, List.length_take]; omega) (by rw [hsk, List.drop_take, Nat.add_sub_cancel_left]; exact q3), hsk, Nat.add_zero]
      · refine ⟨by omega, by omega, fun he => absurd he q1, fun _ => ⟨[endTk (off + (l.take s).length)], ?_⟩⟩
        rw [show off + s + 0 - off = s by omega]
        refine lexL_done ?_
        have := skip_take false l
        rw [h1] at this
        rw [this, List.length_take]; omega
    · rw [h5] at hl
      have g1 := LR.push_bad hl
      have hrest := tok_rest h4
      rw [List.drop_drop] at hrest
      have hll : (l.drop (s + len)).length = l.length - (s + len) := List.length_drop
      obtain ⟨j1, j2, j3, j4⟩ := ih (l.drop (s + len)) (off + s + len) (by omega) g1
      have hq : a - off = (s + len) + (a - (off + s + len)) := by clear j3 j4; omega
      have hx : ∀ x, lexL ((l.drop (s + len)).take (a - (off + s + len))) (off + s + len) = x → lexL (l.take (a - off)) off = x.push ⟨k, t, n', off + s, off + s + len⟩ := fun x hx => by
        rw [hq, List.take_add, lex_first h1 h2 h3 h4 (fun q => (hrest.1 q).take _) (fun q => (hrest.2 q).take _), hx]
      have b1 : off ≤ a := by clear j3 j4 hx; omega
      have b2 : a < off + l.length := by clear j3 j4 hx; omega
      refine ⟨b1, b2, fun he => ?_, fun he => ?_⟩
      · obtain ⟨j, g2, g3⟩ := j3 he
        exact ⟨j, g2, hx _ g3⟩
      · obtain ⟨ts, g2⟩ := j4 he
        exact ⟨_, hx _ g2⟩

/-- whether the bytes are a name -/
def nameL (l : List UInt8) : Bool := match l with
  | [] => false
  | c :: r => decide ((c :: r).length ≤ 64) && isL c && (c :: r).all isW

theorem not_skip {c : UInt8} (r : List UInt8) (h1 : isBl c = false) (h2 : c.toNat ≠ 35) : skipS false (c :: r) = 0 := by
  rw [skip_cons, if_neg (by simp), if_neg (by simp [h1]), if_neg h2]
theorem letter_skip {c : UInt8} (h : isL c = true) : isBl c = false ∧ c.toNat ≠ 35 := by
  unfold isL at h
  have h := of_decide_eq_true h
  exact ⟨by unfold isBl; rw [decide_eq_false]; omega, by omega⟩

/-- a name is read as one, and what is read as one is a name -/
theorem lex_name (l : List UInt8) : nameL l = true ↔ ∃ t n, lexL l 0 = .ok [⟨1, t, n, 0, l.length⟩, endTk l.length] := by
  constructor
  · intro h
    cases l with
    | nil => cases h
    | cons c r =>
      unfold nameL at h
      simp only [Bool.and_eq_true, decide_eq_true_eq] at h
      obtain ⟨⟨h1, h2⟩, h3⟩ := h
      have hw : (c :: r).takeWhile isW = c :: r := by
        have := tw_join (p := isW) (x := c :: r) (fun d hd => List.all_eq_true.1 h3 d hd) (Bd.nil _)
        rwa [List.append_nil] at this
      have hn : wordN (c :: r) = (c :: r).length := by unfold wordN; rw [hw]
      have hs := not_skip r (letter_skip h2).1 (letter_skip h2).2
      have ht : tokL (c :: r) = .tok 1 (c :: r) 0 (c :: r).length := by
        simp only [tokL]
        rw [if_pos h2, hn, if_neg (by omega), List.take_length]
      refine ⟨c :: r, 0, ?_⟩
      rw [lexL_tok (k := 1) (t := c :: r) (n := 0) (len := (c :: r).length) (by rw [hs]; simp) (by rw [hs]; exact ht), hs, Nat.zero_add, Nat.zero_add, List.drop_length, lexL_done rfl]
      rfl
  · rintro ⟨t, n, h⟩
    rcases lex_cases l 0 with ⟨h1, h2⟩ | ⟨s, o, e', h1, h2, h3, h4⟩ | ⟨s, k, t', n', len, h1, h2, h3, h4, h5⟩
    · rw [h2] at h; simp at h
    · rw [h4] at h; cases h
    · rw [h5] at h
      obtain ⟨ts', g1, g2⟩ := LR.push_ok h
      simp only [List.cons.injEq, Tk.mk.injEq] at g2
      obtain ⟨⟨rfl, rfl, rfl, g3, g4⟩, rfl⟩ := g2
      obtain rfl : s = 0 := by omega
      obtain rfl : len = l.length := by omega
      rw [List.drop_zero] at h4
      cases l with
      | nil => simp at h3
      | cons c r =>
        simp only [tokL] at h4
        split at h4
        · rename_i qL
          split at h4
          · cases h4
          · rename_i q64
            simp only [TR.tok.injEq] at h4
            obtain ⟨_, _, _, hn⟩ := h4
            have hall : (c :: r).takeWhile isW = c :: r := by
              have := tw_take isW (c :: r)
              rw [show ((c :: r).takeWhile isW).length = (c :: r).length from hn, List.take_length] at this
              exact this.symm
            unfold nameL
            simp only [Bool.and_eq_true, decide_eq_true_eq]
            refine ⟨⟨by omega, qL⟩, List.all_eq_true.2 fun d hd => tw_mem isW (c :: r) d (by rw [hall]; exact hd)⟩
        · split at h4
          · split at h4
            · cases h4
            · simp at h4
          · split at h4
            · split at h4 <;> simp at h4
            · split at h4
              · simp at h4
              · cases h4

/-- a byte as it stands in a quoted text -/
def qb (c : UInt8) : List UInt8 :=
  if c.toNat = 92 ∨ c.toNat = 34 then [92, c]
  else if c.toNat = 10 then [92, 110]
  else if c.toNat = 9 then [92, 116]
  else if 32 ≤ c.toNat ∧ c.toNat ≤ 126 then [c]
  else [92, 120, hexD (c.toNat / 16), hexD (c.toNat % 16)]
where hexD (p : Nat) : UInt8 := if p < 10 then UInt8.ofNat (48 + p) else UInt8.ofNat (87 + p)
def qbs (l : List UInt8) : List UInt8 := l.flatMap qb
def quoteL (l : List UInt8) : List UInt8 := 34 :: (qbs l ++ [34])

theorem dv_hexD {p : Nat} (h : p < 16) : dv (qb.hexD p).toNat = p := by
  have : ∀ p : Fin 16, dv (qb.hexD p).toNat = p := by decide
  exact this ⟨p, h⟩
theorem tx_qb (c : UInt8) (y : List UInt8) : txS (qb c ++ y) = (txS y).push c (qb c).length := by
  have hc := c.toNat_lt
  unfold qb
  split
  · rename_i q
    show txS (92 :: c :: y) = _
    rw [tx_esc _ rfl]
    show (match escD c y with | none => _ | some (x, k) => _) = _
    unfold escD
    rw [if_pos q]
    rfl
  · rename_i q
    split
    · rename_i q2
      obtain rfl : c = 10 := UInt8.toNat_inj.1 q2
      show txS (92 :: 110 :: y) = _
      rw [tx_esc _ rfl]
      rfl
    · rename_i q2
      split
      · rename_i q3
        obtain rfl : c = 9 := UInt8.toNat_inj.1 q3
        show txS (92 :: 116 :: y) = _
        rw [tx_esc _ rfl]
        rfl
      · rename_i q3
        split
        · rename_i q4
          show txS (c :: y) = _
          rw [tx_plain _ q2 (by omega) (by omega)]
          rfl
        · show txS (92 :: 120 :: qb.hexD (c.toNat / 16) :: qb.hexD (c.toNat % 16) :: y) = _
          rw [tx_esc _ rfl]
          show (match escD 120 (qb.hexD (c.toNat / 16) :: qb.hexD (c.toNat % 16) :: y) with | none => _ | some (x, k) => _) = _
          unfold escD
          have h1 := dv_hexD (p := c.toNat / 16) (by omega)
          have h2 := dv_hexD (p := c.toNat % 16) (by omega)
          rw [if_neg (by decide), if_neg (by decide), if_neg (by decide), if_pos (by decide)]
          dsimp only
          rw [h1, h2, if_neg (by omega)]
          dsimp only
          rw [show 16 * (c.toNat / 16) + c.toNat % 16 = c.toNat by omega]
          simp
theorem tx_qbs (l : List UInt8) : txS (qbs l ++ [34]) = .done l ((qbs l).length + 1) := by
  induction l with
  | nil => rfl
  | cons c r ih =>
    have e : qbs (c :: r) = qb c ++ qbs r := rfl
    rw [e, List.append_assoc, tx_qb, ih, List.length_append]
    show Tx.done (c :: r) _ = _
    congr 1
    omega
theorem quote_len (l : List UInt8) : (quoteL l).length = (qbs l).length + 2 := by unfold quoteL; simp
/-- what is quoted is read back -/
theorem lex_quote (l : List UInt8) : lexL (quoteL l) 0 = .ok [⟨3, l, 0, 0, (quoteL l).length⟩, endTk (quoteL l).length] := by
  have hs : skipS false (quoteL l) = 0 := not_skip _ (by decide) (by decide)
  have ht : tokL (quoteL l) = .tok 3 l 0 (quoteL l).length := by
    rw [quote_len]
    unfold quoteL
    simp only [tokL]
    rw [if_neg (by decide), if_neg (by decide), if_pos (by decide), tx_qbs]
  rw [lexL_tok (k := 3) (t := l) (n := 0) (len := (quoteL l).length) (by rw [hs, quote_len]; omega) (by rw [hs]; exact ht), hs, Nat.zero_add, Nat.zero_add, List.drop_length, lexL_done rfl]
  rfl
/-- a quoted text has bytes of 20 to 7e alone -/
theorem qb_plain (c : UInt8) : ∀ d ∈ qb c, 32 ≤ d.toNat ∧ d.toNat ≤ 126 := by
  have hc := c.toNat_lt
  have h16 : ∀ p : Fin 16, 32 ≤ (qb.hexD p).toNat ∧ (qb.hexD p).toNat ≤ 126 := by decide
  intro d hd
  unfold qb at hd
  split at hd
  · simp only [List.mem_cons, List.not_mem_nil, or_false] at hd
    rcases hd with rfl | rfl
    · decide
    · omega
  · split at hd
    · simp only [List.mem_cons, List.not_mem_nil, or_false] at hd
      rcases hd with rfl | rfl <;> decide
    · split at hd
      · simp only [List.mem_cons, List.not_mem_nil, or_false] at hd
        rcases hd with rfl | rfl <;> decide
      · split at hd
        · rename_i q
          simp only [List.mem_cons, List.not_mem_nil, or_false] at hd
          subst hd
          exact q
        · simp only [List.mem_cons, List.not_mem_nil, or_false] at hd
          rcases hd with rfl | rfl | rfl | rfl
          · decide
          · decide
          · exact h16 ⟨c.toNat / 16, by omega⟩
          · exact h16 ⟨c.toNat % 16, by omega⟩
theorem quote_plain (l : List UInt8) : ∀ d ∈ quoteL l, 32 ≤ d.toNat ∧ d.toNat ≤ 126 := by
  intro d hd
  unfold quoteL qbs at hd
  rcases List.mem_cons.1 hd with rfl | hd
  · decide
  · rcases List.mem_append.1 hd with hd | hd
    · obtain ⟨c, _, hc⟩ := List.mem_flatMap.1 hd
      exact qb_plain c d hc
    · rw [List.mem_singleton] at hd
      subst hd
      decide
theorem qb_len (c : UInt8) : 1 ≤ (qb c).length ∧ (qb c).length ≤ 4 := by
  unfold qb
  split
  · simp
  · split
    · simp
    · split
      · simp
      · split <;> simp
theorem qbs_len (l : List UInt8) : l.length ≤ (qbs l).length ∧ (qbs l).length ≤ 4 * l.length := by
  induction l with
  | nil => exact ⟨Nat.le_refl _, Nat.le_refl _⟩
  | cons c r ih =>
    have := qb_len c
    show _ ≤ (qb c ++ qbs r).length ∧ (qb c ++ qbs r).length ≤ _
    rw [List.length_append, List.length_cons]
    omega
end Go.Proofs.YtipcgmaobiobbaaGreatDoor
/- More facts on the tokens of a text: how many, the last one, their places, a token by itself. No walk here. -/
namespace Go.Proofs.YtipcgmaobiobbaaGreatDoor
open Go.RowKit

theorem tok_err {l : List UInt8} {o e : Nat} (h : tokL l = .bad o e) : e ≠ 0 := by
  cases l with
  | nil => cases h; decide
  | cons c r =>
    simp only [tokL] at h
    split at h
    · split at h
      · cases h; decide
      · cases h
    · split at h
      · split at h
        · cases h; decide
        · cases h
      · split at h
        · split at h
          · cases h
          · cases h; decide
          · cases h; decide
        · split at h
          · cases h
          · cases h; decide

theorem tok_err2 {l : List UInt8} {o e : Nat} (h : tokL l = .bad o e) : e ≠ 2 := by
  cases l with
  | nil => cases h; decide
  | cons c r =>
    simp only [tokL] at h
    split at h
    · split at h
      · cases h; decide
      · cases h
    · split at h
      · split at h
        · cases h; decide
        · cases h
      · split at h
        · split at h
          · cases h
          · cases h; decide
          · cases h; decide
        · split at h
          · cases h
          · cases h; decide
theorem tok_place {l : List UInt8} {o e : Nat} (h : tokL l = .bad o e) (h0 : l ≠ []) : o < l.length := by
  cases l with
  | nil => exact absurd rfl h0
  | cons c r =>
    simp only [tokL] at h
    simp only [List.length_cons]
    split at h
    · split at h
      · cases h; omega
      · cases h
    · split at h
      · split at h
        · cases h; omega
        · cases h
      · split at h
        · split at h
          · cases h
          · rename_i o' ho
            have := (tx_esc_take r ho).1
            cases h
            omega
          · cases h; omega
        · split at h
          · cases h
          · cases h; omega

theorem lex_len (N : Nat) : ∀ (l : List UInt8) (off : Nat) {ts : List Tk}, l.length ≤ N → lexL l off = .ok ts → ts.length ≤ l.length + 1 := by
  induction N with
  | zero =>
    intro l off ts hN h
    have : l = [] := List.eq_nil_of_length_eq_zero (by omega)
    subst this
    cases h
    exact Nat.le_refl _
  | succ N ih =>
    intro l off ts hN h
    rcases lex_cases l off with ⟨h1, h2⟩ | ⟨s, o, e, h1, h2, h3, h4⟩ | ⟨s, k, t, n, len, h1, h2, h3, h4, h5⟩
    · rw [h2] at h
      cases h
      simp
    · rw [h4] at h
      cases h
    · rw [h5] at h
      obtain ⟨ts', g1, rfl⟩ := LR.push_ok h
      have := ih _ _ (by rw [List.length_drop]; omega) g1
      rw [List.length_drop] at this
      simp only [List.length_cons]
      omega
theorem lex_err (N : Nat) : ∀ (l : List UInt8) (off : Nat) {a e : Nat}, l.length ≤ N → lexL l off = .bad a e → e ≠ 0 ∧ off ≤ a ∧ a < off + l.length ∧ e ≠ 2 := by
  induction N with
  | zero =>
    intro l off a e hN h
    have : l = [] := List.eq_nil_of_length_eq_zero (by omega)
    subst this
    cases h
  | succ N ih =>
    intro l off a e hN h
    rcases lex_cases l off with ⟨h1, h2⟩ | ⟨s, o, e', h1, h2, h3, h4⟩ | ⟨s, k, t, n, len, h1, h2, h3, h4, h5⟩
    · rw [h2] at h
      cases h
    · rw [h4] at h
      cases h
      have ho := tok_place h3 (by rw [Ne, List.drop_eq_nil_iff]; omega)
      rw [List.length_drop] at ho
      exact ⟨tok_err h3, by omega, by omega, tok_err2 h3⟩
    · rw [h5] at h
      have := ih _ _ (by rw [List.length_drop]; omega) (LR.push_bad h)
      rw [List.length_drop] at this
      exact ⟨this.1, by omega, by omega, this.2.2.2⟩

theorem lex_last (N : Nat) : ∀ (l : List UInt8) (off : Nat) {ts : List Tk}, l.length ≤ N → lexL l off = .ok ts → ∃ ts', ts = ts' ++ [endTk (off + l.length)] := by
  induction N with
  | zero =>
    intro l off ts hN h
    have : l = [] := List.eq_nil_of_length_eq_zero (by omega)
    subst this
    cases h
    exact ⟨[], rfl⟩
  | succ N ih =>
    intro l off ts hN h
    rcases lex_cases l off with ⟨h1, h2⟩ | ⟨s, o, e, h1, h2, h3, h4⟩ | ⟨s, k, t, n, len, h1, h2, h3, h4, h5⟩
    · rw [h2] at h
      cases h
      exact ⟨[], rfl⟩
    · rw [h4] at h
      cases h
    · rw [h5] at h
      obtain ⟨ts', g1, rfl⟩ := LR.push_ok h
      obtain ⟨ts2, rfl⟩ := ih _ _ (by rw [List.length_drop]; omega) g1
      rw [List.length_drop, show off + s + len + (l.length - (s + len)) = off + l.length by omega]
      exact ⟨_ :: ts2, rfl⟩

theorem isD_skip {c : UInt8} (h : isD c = true) : isBl c = false ∧ c.toNat ≠ 35 := by
  unfold isD at h
  have h := of_decide_eq_true h
  exact ⟨by unfold isBl; rw [decide_eq_false]; omega, by omega⟩
theorem isM_skip {c : UInt8} (h : isM c = true) : isBl c = false ∧ c.toNat ≠ 35 := by
  unfold isM at h
  have h := of_decide_eq_true h
  exact ⟨by unfold isBl; rw [decide_eq_false]; omega, by omega⟩
theorem tok_skip {l t : List UInt8} {k n len : Nat} (h : tokL l = .tok k t n len) : skipS false l = 0 ∧ k ≠ 0 := by
  cases l with
  | nil => cases h
  | cons c r =>
    simp only [tokL] at h
    split at h
    · rename_i q
      have := letter_skip q
      split at h
      · cases h
      · cases h
        exact ⟨not_skip r this.1 this.2, by decide⟩
    · split at h
      · rename_i q
        have := isD_skip q
        split at h
        · cases h
        · cases h
          exact ⟨not_skip r this.1 this.2, by decide⟩
      · split at h
        · rename_i q
          have e : c = 34 := UInt8.toNat_inj.1 q
          subst e
          split at h
          · cases h
            exact ⟨not_skip r (by decide) (by decide), by decide⟩
          · cases h
          · cases h
        · split at h
          · rename_i q
            have := isM_skip q
            cases h
            exact ⟨not_skip r this.1 this.2, by decide⟩
          · cases h

/-- a token's own bytes are that token -/
theorem lex_alone {l t : List UInt8} {k n len : Nat} (h : tokL l = .tok k t n len) : lexL (l.take len) 0 = .ok [⟨k, t, n, 0, len⟩, endTk len] := by
  have hl := tokL_len h
  have hj := tok_join h (y := []) (fun _ => Bd.nil _) (fun _ => Bd.nil _)
  rw [List.append_nil] at hj
  have hs := (tok_skip hj).1
  have hlen : (l.take len).length = len := by rw [List.length_take]; omega
  rw [lexL_tok (k := k) (t := t) (n := n) (len := len) (by rw [hs, hlen]; omega) (by rw [hs]; exact hj), hs, Nat.zero_add, Nat.zero_add]
  rw [List.drop_eq_nil_of_le (by omega), lexL_done rfl]
  rfl

theorem drop_cons {α : Type} {l : List α} {i : Nat} {x : α} {r : List α} (h : l.drop i = x :: r) : l[i]? = some x ∧ l.drop (i + 1) = r ∧ i < l.length := by
  have h0 : (l.drop i)[0]? = some x := by rw [h]; rfl
  rw [List.getElem?_drop, Nat.add_zero] at h0
  refine ⟨h0, ?_, ?_⟩
  · rw [← List.drop_drop, h]; rfl
  · rcases Nat.lt_or_ge i l.length with g | g
    · exact g
    · rw [List.getElem?_eq_none g] at h0; cases h0

theorem lex_order (N : Nat) : ∀ (l : List UInt8) (off : Nat) {ts : List Tk}, l.length ≤ N → lexL l off = .ok ts → ∀ x ∈ ts, x.a ≤ x.e ∧ x.e ≤ off + l.length := by
  induction N with
  | zero =>
    intro l off ts hN h
    have : l = [] := List.eq_nil_of_length_eq_zero (by omega)
    subst this
    cases h
    intro x hx
    rw [List.mem_singleton] at hx
    subst hx
    exact ⟨Nat.le_refl _, Nat.le_refl _⟩
  | succ N ih =>
    intro l off ts hN h
    rcases lex_cases l off with ⟨h1, h2⟩ | ⟨s, o, e, h1, h2, h3, h4⟩ | ⟨s, k, t, n, len, h1, h2, h3, h4, h5⟩
    · rw [h2] at h
      cases h
      intro x hx
      rw [List.mem_singleton] at hx
      subst hx
      exact ⟨Nat.le_refl _, Nat.le_refl _⟩
    · rw [h4] at h
      cases h
    · rw [h5] at h
      obtain ⟨ts', g1, rfl⟩ := LR.push_ok h
      intro x hx
      rcases List.mem_cons.1 hx with rfl | hx
      · show off + s ≤ off + s + len ∧ off + s + len ≤ off + l.length
        omega
      · have := ih _ _ (by rw [List.length_drop]; omega) g1 x hx
        rw [List.length_drop] at this
        omega

/-- what is read of a text ends in the end, and it stands nowhere else -/
def TkEnds (T : List Tk) : Prop := ∀ i x, T[i]? = some x → (x.k = 0 ↔ i + 1 = T.length)
theorem lex_ends (N : Nat) : ∀ (l : List UInt8) (off : Nat) {ts : List Tk}, l.length ≤ N → lexL l off = .ok ts → TkEnds ts := by
  induction N with
  | zero =>
    intro l off ts hN h
    have : l = [] := List.eq_nil_of_length_eq_zero (by omega)
    subst this
    cases h
    intro i x hx
    rcases i with _ | i
    · cases hx
      exact ⟨fun _ => rfl, fun _ => rfl⟩
    · simp at hx
  | succ N ih =>
    intro l off ts hN h
    rcases lex_cases l off with ⟨h1, h2⟩ | ⟨s, o, e, h1, h2, h3, h4⟩ | ⟨s, k, t, n, len, h1, h2, h3, h4, h5⟩
    · rw [h2] at h
      cases h
      intro i x hx
      rcases i with _ | i
      · cases hx
        exact ⟨fun _ => rfl, fun _ => rfl⟩
      · simp at hx
    · rw [h4] at h
      cases h
    · rw [h5] at h
      obtain ⟨ts', g1, rfl⟩ := LR.push_ok h
      have hd := ih _ _ (by rw [List.length_drop]; omega) g1
      obtain ⟨ts2, e2⟩ := lex_last _ _ _ (Nat.le_refl _) g1
      have hlen : 1 ≤ ts'.length := by rw [e2, List.length_append]; show 1 ≤ _ + 1; omega
      intro i x hx
      rcases i with _ | i
      · cases hx
        refine ⟨fun e => absurd e (tok_skip h4).2, fun e => ?_⟩
        rw [List.length_cons] at e
        omega
      · rw [List.getElem?_cons_succ] at hx
        rw [hd i x hx, List.length_cons]
        omega
end Go.Proofs.YtipcgmaobiobbaaGreatDoor
/- Plain functions of layer 9: a tree out of tokens, with the first fault kept. No walk here. -/
namespace Go.Proofs.YtipcgmaobiobbaaGreatDoor
open Go.RowKit

/-- a node of an expression -/
structure Nd where
  op : Nat
  n : Nat
  num : Nat
  t : List UInt8
  a : Nat
deriving DecidableEq
/-- the place among the tokens, the first fault and its place, the nodes so far, the depths of those that have no parent, the levels that are open (an Int: it falls to -1 where the hundred-and-first level is refused) -/
structure PS where
  i : Nat
  plc : Nat
  flt : Nat
  nds : List Nd
  dps : List Nat
  opn : Int
deriving DecidableEq

section
variable (T : List Tk)

def PS.tok (p : PS) : Tk := (T[p.i]?).getD (endTk 0)
def PS.fail (p : PS) (a e : Nat) : PS := if p.flt = 0 then { p with flt := e, plc := a } else p
def PS.is (p : PS) (k : Nat) (s : List UInt8) : Bool := p.flt == 0 && (p.tok T).k == k && (p.tok T).t == s
def PS.next (p : PS) : PS := { p with i := p.i + 1 }
def PS.want (p : PS) (k : Nat) (s : List UInt8) : PS := if p.is T k s then p.next else p.fail (p.tok T).a 90
def PS.mark (p : PS) (c : UInt8) : PS := p.want T 4 [c]
def PS.word (p : PS) (s : List UInt8) : PS := p.want T 1 s

def words : List (List UInt8) := ["event", "version", "add", "rename", "split", "join", "retype", "drop", "to", "at", "into", "with", "true", "false", "cat", "rep", "len", "hex"].map fun s => ls s.toUTF8
def PS.name (p : PS) : PS × List UInt8 := if p.flt ≠ 0 ∨ (p.tok T).k ≠ 1 ∨ (p.tok T).t ∈ words then (p.fail (p.tok T).a 90, []) else (p.next, (p.tok T).t)
def PS.text (p : PS) : PS × List UInt8 := if p.flt ≠ 0 ∨ (p.tok T).k ≠ 3 then (p.fail (p.tok T).a 90, []) else (p.next, (p.tok T).t)

def PS.emit (p : PS) (x : Nd) (kids : Nat) : PS :=
  if p.flt ≠ 0 then p
  else if 100 < (p.dps.drop (p.dps.length - kids)).foldl max 0 + 1 then p.fail x.a 91
  else { p with dps := p.dps.take (p.dps.length - kids) ++ [(p.dps.drop (p.dps.length - kids)).foldl max 0 + 1], nds := p.nds ++ [x] }
def PS.level (p : PS) : PS := if p.flt ≠ 0 then p else if p.opn = 100 then p.fail (p.tok T).a 91 else { p with opn := p.opn + 1, i := p.i + 1 }
def PS.shut (p : PS) : PS := { p with opn := p.opn - 1 }

section
variable (fac : PS → PS)
def termLoop : Nat → PS → PS
  | 0, p => p
  | f + 1, p => if p.is T 4 [42] then termLoop f ((fac p.next).emit ⟨8, 0, 0, [], (p.tok T).a⟩ 2) else p
def termW (p : PS) : PS := termLoop T fac (T.length + 1) (fac p)
def exprLoop : Nat → PS → PS
  | 0, p => p
  | f + 1, p => if p.is T 4 [43] || p.is T 4 [45] then exprLoop f ((termW T fac p.next).emit ⟨if (p.tok T).t = [45] then 7 else 6, 0, 0, [], (p.tok T).a⟩ 2) else p
def exprW (p : PS) : PS := exprLoop T fac (T.length + 1) (termW T fac p)
/-- the operands behind the first, and how many there are -/
def argsLoop (k : Nat) : Nat → PS → Nat → PS × Nat
  | 0, p, n => (p, n)
  | f + 1, p, n => if p.is T 4 [44] && (k == 0 || decide (n < k)) then argsLoop k f (exprW T fac p.next) (n + 1) else (p, n)
def callW (op k : Nat) (p : PS) : PS :=
  let r := argsLoop T fac k (T.length + 1) (exprW T fac ((p.level T).mark T 40)) 1
  let q := if k ≠ 0 ∧ r.2 < k then r.1.mark T 44 else r.1
  ((q.mark T 41).emit ⟨op, if op = 9 then r.2 else 0, 0, [], (p.tok T).a⟩ r.2).shut
def factorW (p : PS) : PS :=
  let t := p.tok T
  if p.flt ≠ 0 then p
  else if t.k = 2 then p.next.emit ⟨1, 0, t.n, [], t.a⟩ 0
  else if t.k = 3 then p.next.emit ⟨2, 0, 0, t.t, t.a⟩ 0
  else if p.is T 1 (ls "true".toUTF8) then p.next.emit ⟨3, 0, 0, [], t.a⟩ 0
  else if p.is T 1 (ls "false".toUTF8) then p.next.emit ⟨4, 0, 0, [], t.a⟩ 0
  else if p.is T 4 [45] then ((fac (p.level T)).emit ⟨5, 0, 0, [], t.a⟩ 1).shut
  else if p.is T 4 [40] then ((exprW T fac (p.level T)).mark T 41).shut
  else if p.is T 1 (ls "cat".toUTF8) then callW T fac 9 0 p
  else if p.is T 1 (ls "rep".toUTF8) then callW T fac 10 2 p
  else if p.is T 1 (ls "len".toUTF8) then callW T fac 11 1 p
  else if p.is T 1 (ls "hex".toUTF8) then callW T fac 12 1 p
  else p.fail t.a 90
end
def factorF : Nat → PS → PS
  | 0, p => p
  | f + 1, p => factorW T (factorF f) p
def exprF (p : PS) : PS := exprW T (factorF T (T.length + 1)) p
/-- an expression of its own -/
def PS.value (p : PS) : PS := exprF T { p with nds := [], dps := [], opn := 0 }

structure St where
  k : Nat
  a : List UInt8
  b : List UInt8
  c : List UInt8
  sep : List UInt8
  ty : List UInt8
  v : List Nd
  at_ : Nat
deriving DecidableEq
structure Ve where
  num : Nat
  st : List St
  at_ : Nat
deriving DecidableEq
structure Ev where
  name : List UInt8
  vs : List Ve
  at_ : Nat
deriving DecidableEq

def stepK (p : PS) : Nat :=
  if p.is T 1 (ls "add".toUTF8) then 1 else if p.is T 1 (ls "rename".toUTF8) then 2 else if p.is T 1 (ls "split".toUTF8) then 3
  else if p.is T 1 (ls "join".toUTF8) then 4 else if p.is T 1 (ls "retype".toUTF8) then 5 else if p.is T 1 (ls "drop".toUTF8) then 6 else 0
def PS.step (p : PS) : PS × St :=
  let t := p.tok T
  let k := stepK T p
  if k = 0 then (p.fail t.a 90, ⟨0, [], [], [], [], [], [], t.a⟩)
  else
    let (p, a) := p.next.name T
    if k = 1 then
      let (p, y) := (p.mark T 58).name T
      if p.is T 4 [61] then
        let p := p.next.value T
        (p.mark T 59, ⟨1, a, [], [], [], y, p.nds, t.a⟩)
      else (p.mark T 59, ⟨1, a, [], [], [], y, [], t.a⟩)
    else if k = 2 then
      let (p, b) := (p.word T (ls "to".toUTF8)).name T
      (p.mark T 59, ⟨2, a, b, [], [], [], [], t.a⟩)
    else if k = 3 then
      let (p, s) := (p.word T (ls "at".toUTF8)).text T
      let (p, b) := (p.word T (ls "into".toUTF8)).name T
      let (p, c) := (p.mark T 44).name T
      (p.mark T 59, ⟨3, a, b, c, s, [], [], t.a⟩)
    else if k = 4 then
      let (p, b) := (p.mark T 44).name T
      let (p, s) := (p.word T (ls "with".toUTF8)).text T
      let (p, c) := (p.word T (ls "into".toUTF8)).name T
      (p.mark T 59, ⟨4, a, b, c, s, [], [], t.a⟩)
    else if k = 5 then
      let (p, y) := (p.word T (ls "to".toUTF8)).name T
      (p.mark T 59, ⟨5, a, [], [], [], y, [], t.a⟩)
    else (p.mark T 59, ⟨6, a, [], [], [], [], [], t.a⟩)
def stepsL : Nat → PS → PS × List St
  | 0, p => (p, [])
  | f + 1, p => if p.flt = 0 ∧ p.is T 4 [125] = false then
      let (p, d) := p.step T
      let (p, r) := stepsL f p
      (p, d :: r)
    else (p, [])
def PS.version (p : PS) : PS × Ve :=
  let t := p.tok T
  let p := p.word T (ls "version".toUTF8)
  let (p, n) := if p.flt = 0 ∧ (p.tok T).k = 2 then (p.next, (p.tok T).n) else (p.fail (p.tok T).a 90, 0)
  let (p, l) := stepsL T (T.length + 1) (p.mark T 123)
  (p.mark T 125, ⟨n, l, t.a⟩)
def versL : Nat → PS → PS × List Ve
  | 0, p => (p, [])
  | f + 1, p => if p.flt = 0 ∧ p.is T 4 [125] = false then
      let (p, d) := p.version T
      let (p, r) := versL f p
      (p, d :: r)
    else (p, [])
def PS.event (p : PS) : PS × Ev :=
  let t := p.tok T
  let (p, n) := (p.word T (ls "event".toUTF8)).name T
  let (p, v) := (p.mark T 123).version T
  let (p, r) := versL T (T.length + 1) p
  (p.mark T 125, ⟨n, v :: r, t.a⟩)
def eventsL : Nat → PS → PS × List Ev
  | 0, p => (p, [])
  | f + 1, p => if p.is T 1 (ls "event".toUTF8) then
      let (p, d) := p.event T
      let (p, r) := eventsL f p
      (p, d :: r)
    else (p, [])
def PS.end_ (p : PS) : PS := if p.flt = 0 ∧ (p.tok T).k ≠ 0 then p.fail (p.tok T).a 90 else p
end
def PS.zero : PS := ⟨0, 0, 0, [], [], 0⟩

/-- what is answered of a text as a schema, and as an expression -/
inductive SR where
  | ok (l : List Ev)
  | bad (a e : Nat)
deriving DecidableEq
inductive VR where
  | ok (l : List Nd)
  | bad (a e : Nat)
deriving DecidableEq
def schemaL (l : List UInt8) : SR := match lexL l 0 with
  | .bad a e => .bad a e
  | .ok T =>
    let (p, r) := eventsL T (T.length + 1) PS.zero
    let p := p.end_ T
    if p.flt ≠ 0 then .bad p.plc p.flt else .ok r
def valueL (l : List UInt8) : VR := match lexL l 0 with
  | .bad a e => .bad a e
  | .ok T =>
    let p := PS.zero.value T
    let q := p.end_ T
    if q.flt ≠ 0 then .bad q.plc q.flt else .ok p.nds

theorem val_awake : valueL (ls "1-2".toUTF8) = .ok [⟨1, 0, 1, [], 0⟩, ⟨1, 0, 2, [], 2⟩, ⟨7, 0, 0, [], 1⟩] := by decide +kernel
theorem val_open : valueL (ls "(1".toUTF8) = .bad 2 90 := by decide +kernel
theorem sch_awake : schemaL (ls "event a{version 1{add x:uint;}}".toUTF8) = .ok [⟨[97], [⟨1, [⟨1, [120], [], [], [], ls "uint".toUTF8, [], 18⟩], 8⟩], 0⟩] := by decide +kernel
end Go.Proofs.YtipcgmaobiobbaaGreatDoor
/- Behind a fault nothing turns but the count of open levels; a place never falls; the end is never passed. No walk here. -/
namespace Go.Proofs.YtipcgmaobiobbaaGreatDoor
open Go.RowKit

section
variable {T : List Tk} {p : PS}
theorem fail_stuck (h : p.flt ≠ 0) (a e : Nat) : p.fail a e = p := if_neg h
theorem is_stuck (h : p.flt ≠ 0) (k : Nat) (s : List UInt8) : p.is T k s = false := by
  unfold PS.is
  rw [beq_eq_false_iff_ne.2 h]
  rfl
theorem want_stuck (h : p.flt ≠ 0) (k : Nat) (s : List UInt8) : p.want T k s = p := by
  unfold PS.want
  rw [is_stuck h, if_neg (by decide), fail_stuck h]
theorem mark_stuck (h : p.flt ≠ 0) (c : UInt8) : p.mark T c = p := want_stuck h _ _
theorem word_stuck (h : p.flt ≠ 0) (s : List UInt8) : p.word T s = p := want_stuck h _ _
theorem name_stuck (h : p.flt ≠ 0) : p.name T = (p, []) := by
  unfold PS.name
  rw [if_pos (.inl h), fail_stuck h]
theorem text_stuck (h : p.flt ≠ 0) : p.text T = (p, []) := by
  unfold PS.text
  rw [if_pos (.inl h), fail_stuck h]
theorem emit_stuck (h : p.flt ≠ 0) (x : Nd) (k : Nat) : p.emit x k = p := if_pos h
theorem level_stuck (h : p.flt ≠ 0) : p.level T = p := if_pos h
section
variable {fac : PS → PS}
theorem termLoop_stuck (h : p.flt ≠ 0) : ∀ f, termLoop T fac f p = p
  | 0 => rfl
  | f + 1 => by unfold termLoop; rw [is_stuck h, if_neg (by decide)]
theorem termW_stuck (hf : fac p = p) (h : p.flt ≠ 0) : termW T fac p = p := by
  unfold termW
  rw [hf, termLoop_stuck h]
theorem exprLoop_stuck (h : p.flt ≠ 0) : ∀ f, exprLoop T fac f p = p
  | 0 => rfl
  | f + 1 => by unfold exprLoop; rw [is_stuck h, is_stuck h, if_neg (by decide)]
theorem exprW_stuck (hf : fac p = p) (h : p.flt ≠ 0) : exprW T fac p = p := by
  unfold exprW
  rw [termW_stuck hf h, exprLoop_stuck h]
theorem argsLoop_stuck (k : Nat) (h : p.flt ≠ 0) (n : Nat) : ∀ f, argsLoop T fac k f p n = (p, n)
  | 0 => rfl
  | f + 1 => by unfold argsLoop; rw [is_stuck h, Bool.false_and, if_neg (by decide)]
theorem factorW_stuck (h : p.flt ≠ 0) : factorW T fac p = p := by
  unfold factorW
  exact if_pos h
end
theorem factorF_stuck (h : p.flt ≠ 0) : ∀ f, factorF T f p = p
  | 0 => rfl
  | _ + 1 => factorW_stuck h
end

/-- the second state comes of the first: the place has not fallen, a fault that was there stands -/
def Go_ (p q : PS) : Prop := p.i ≤ q.i ∧ (p.flt ≠ 0 → q.flt = p.flt ∧ q.plc = p.plc ∧ q.i = p.i)
theorem Go_.refl (p : PS) : Go_ p p := ⟨Nat.le_refl _, fun _ => ⟨rfl, rfl, rfl⟩⟩
theorem Go_.trans {p q r : PS} (h : Go_ p q) (g : Go_ q r) : Go_ p r :=
  ⟨Nat.le_trans h.1 g.1, fun n => by
    obtain ⟨a, b, c⟩ := h.2 n
    obtain ⟨d, e, f⟩ := g.2 (by rw [a]; exact n)
    exact ⟨d.trans a, e.trans b, f.trans c⟩⟩
section
variable {T : List Tk} (p : PS)
theorem go_fail (a e : Nat) : Go_ p (p.fail a e) := by
  unfold PS.fail
  split
  · rename_i h; exact ⟨Nat.le_refl _, fun n => absurd h n⟩
  · exact Go_.refl p
theorem go_next (h : p.flt = 0) : Go_ p p.next := ⟨Nat.le_succ _, fun n => absurd h n⟩
theorem is_ok {k : Nat} {s : List UInt8} (h : p.is T k s = true) : p.flt = 0 ∧ (p.tok T).k = k ∧ (p.tok T).t = s := by
  unfold PS.is at h
  simp only [Bool.and_eq_true, beq_iff_eq] at h
  exact ⟨h.1.1, h.1.2, h.2⟩
theorem go_want (k : Nat) (s : List UInt8) : Go_ p (p.want T k s) := by
  unfold PS.want
  split
  · rename_i h; exact go_next p (is_ok p h).1
  · exact go_fail p _ _
theorem go_name : Go_ p (p.name T).1 := by
  unfold PS.name
  split
  · exact go_fail p _ _
  · rename_i h
    exact go_next p (Decidable.byContradiction fun n => h (.inl n))
theorem go_text : Go_ p (p.text T).1 := by
  unfold PS.text
  split
  · exact go_fail p _ _
  · rename_i h
    exact go_next p (Decidable.byContradiction fun n => h (.inl n))
theorem go_emit (x : Nd) (k : Nat) : Go_ p (p.emit x k) := by
  unfold PS.emit
  split
  · exact Go_.refl p
  · rename_i h
    split
    · exact go_fail p _ _
    · exact ⟨Nat.le_refl _, fun n => absurd n h⟩
theorem go_level : Go_ p (p.level T) := by
  unfold PS.level
  split
  · exact Go_.refl p
  · rename_i h
    split
    · exact go_fail p _ _
    · exact ⟨Nat.le_succ _, fun n => absurd n h⟩
theorem go_shut : Go_ p p.shut := ⟨Nat.le_refl _, fun _ => ⟨rfl, rfl, rfl⟩⟩
end
section
variable {T : List Tk} {fac : PS → PS} (hf : ∀ p, Go_ p (fac p))
include hf
theorem go_termLoop : ∀ (f : Nat) (p : PS), Go_ p (termLoop T fac f p)
  | 0, p => Go_.refl p
  | f + 1, p => by
    unfold termLoop
    split
    · rename_i h
      exact (go_next p (is_ok p h).1).trans ((hf _).trans ((go_emit _ _ _).trans (go_termLoop f _)))
    · exact Go_.refl p
theorem go_termW (p : PS) : Go_ p (termW T fac p) := (hf p).trans (go_termLoop hf _ _)
theorem go_exprLoop : ∀ (f : Nat) (p : PS), Go_ p (exprLoop T fac f p)
  | 0, p => Go_.refl p
  | f + 1, p => by
    unfold exprLoop
    split
    · rename_i h
      have h0 : p.flt = 0 := by
        rcases Bool.or_eq_true_iff.1 h with h | h
        · exact (is_ok p h).1
        · exact (is_ok p h).1
      exact (go_next p h0).trans ((go_termW hf _).trans ((go_emit _ _ _).trans (go_exprLoop f _)))
    · exact Go_.refl p
theorem go_exprW (p : PS) : Go_ p (exprW T fac p) := (go_termW hf p).trans (go_exprLoop hf _ _)
theorem go_argsLoop (k : Nat) : ∀ (f : Nat) (p : PS) (n : Nat), Go_ p (argsLoop T fac k f p n).1
  | 0, p, _ => Go_.refl p
  | f + 1, p, n => by
    unfold argsLoop
    split
    · rename_i h
      exact (go_next p (is_ok p (Bool.and_eq_true_iff.1 h).1).1).trans ((go_exprW hf _).trans (go_argsLoop k f _ _))
    · exact Go_.refl p
theorem go_callW (op k : Nat) (p : PS) : Go_ p (callW T fac op k p) := by
  unfold callW
  dsimp only
  have h1 : Go_ p (argsLoop T fac k (T.length + 1) (exprW T fac ((p.level T).mark T 40)) 1).1 := (go_level (T := T) p).trans ((go_want (T := T) (p.level T) 4 [40]).trans ((go_exprW hf _).trans (go_argsLoop hf k _ _ 1)))
  generalize argsLoop T fac k (T.length + 1) (exprW T fac ((p.level T).mark T 40)) 1 = r at h1 ⊢
  refine h1.trans ?_
  split
  · exact (go_want (T := T) r.1 4 [44]).trans ((go_want (T := T) _ 4 [41]).trans ((go_emit _ _ _).trans (go_shut _)))
  · exact (go_want (T := T) r.1 4 [41]).trans ((go_emit _ _ _).trans (go_shut _))
theorem go_factorW (p : PS) : Go_ p (factorW T fac p) := by
  unfold factorW
  dsimp only
  split
  · exact Go_.refl p
  · rename_i h
    have h0 : p.flt = 0 := Decidable.byContradiction h
    split
    · exact (go_next p h0).trans (go_emit _ _ _)
    · split
      · exact (go_next p h0).trans (go_emit _ _ _)
      · split
        · exact (go_next p h0).trans (go_emit _ _ _)
        · split
          · exact (go_next p h0).trans (go_emit _ _ _)
          · split
            · exact (go_level (T := T) p).trans ((hf _).trans ((go_emit _ _ _).trans (go_shut _)))
            · split
              · exact (go_level (T := T) p).trans ((go_exprW hf _).trans ((go_want (T := T) _ 4 [41]).trans (go_shut _)))
              · split
                · exact go_callW hf _ _ p
                · split
                  · exact go_callW hf _ _ p
                  · split
                    · exact go_callW hf _ _ p
                    · split
                      · exact go_callW hf _ _ p
                      · exact go_fail p _ _
end
theorem go_factorF {T : List Tk} : ∀ (f : Nat) (p : PS), Go_ p (factorF T f p)
  | 0, p => Go_.refl p
  | f + 1, p => go_factorW (go_factorF f) p
end Go.Proofs.YtipcgmaobiobbaaGreatDoor
/- The end of the tokens is never passed; an expression without a fault takes a token. No walk here. -/
namespace Go.Proofs.YtipcgmaobiobbaaGreatDoor
open Go.RowKit

def In_ (T : List Tk) (p : PS) : Prop := p.i < T.length
theorem tok_at {T : List Tk} {p : PS} (h : In_ T p) : T[p.i]? = some (p.tok T) := by
  unfold PS.tok
  rw [List.getElem?_eq_getElem h]
  rfl
section
variable {T : List Tk} (hT : TkEnds T) {p : PS}
include hT
theorem in_next (h : In_ T p) (hk : (p.tok T).k ≠ 0) : In_ T p.next := by
  have : ¬ p.i + 1 = T.length := fun e => hk ((hT _ _ (tok_at h)).2 e)
  show p.i + 1 < T.length
  unfold In_ at h
  omega
theorem in_want (h : In_ T p) (k : Nat) (hk : k ≠ 0) (s : List UInt8) : In_ T (p.want T k s) := by
  unfold PS.want
  split
  · rename_i g
    exact in_next hT h (by rw [(is_ok p g).2.1]; exact hk)
  · unfold PS.fail
    split
    · exact h
    · exact h
theorem in_name (h : In_ T p) : In_ T (p.name T).1 := by
  unfold PS.name
  split
  · show In_ T (p.fail _ _)
    unfold PS.fail
    split
    · exact h
    · exact h
  · rename_i g
    exact in_next hT h (fun e => g (.inr (.inl (by rw [e]; decide))))
theorem in_text (h : In_ T p) : In_ T (p.text T).1 := by
  unfold PS.text
  split
  · show In_ T (p.fail _ _)
    unfold PS.fail
    split
    · exact h
    · exact h
  · rename_i g
    exact in_next hT h (fun e => g (.inr (by rw [e]; decide)))
theorem in_level (h : In_ T p) (hk : p.flt = 0 → (p.tok T).k ≠ 0) : In_ T (p.level T) := by
  unfold PS.level
  split
  · exact h
  · rename_i g
    split
    · unfold PS.fail
      split
      · exact h
      · exact h
    · exact in_next hT h (hk (Decidable.byContradiction g))
end
section
variable {T : List Tk} {p : PS}
theorem in_fail (h : In_ T p) (a e : Nat) : In_ T (p.fail a e) := by
  unfold PS.fail
  split
  · exact h
  · exact h
theorem in_emit (h : In_ T p) (x : Nd) (k : Nat) : In_ T (p.emit x k) := by
  unfold PS.emit
  split
  · exact h
  · split
    · exact in_fail h _ _
    · exact h
theorem in_shut (h : In_ T p) : In_ T p.shut := h
end
section
variable {T : List Tk} (hT : TkEnds T) {fac : PS → PS} (hf : ∀ p, In_ T p → In_ T (fac p))
include hT hf
theorem in_termLoop : ∀ (f : Nat) (p : PS), In_ T p → In_ T (termLoop T fac f p)
  | 0, _, h => h
  | f + 1, p, h => by
    unfold termLoop
    split
    · rename_i g
      exact in_termLoop f _ (in_emit (hf _ (in_next hT h (by rw [(is_ok p g).2.1]; decide))) _ _)
    · exact h
theorem in_termW (p : PS) (h : In_ T p) : In_ T (termW T fac p) := in_termLoop hT hf _ _ (hf _ h)
theorem in_exprLoop : ∀ (f : Nat) (p : PS), In_ T p → In_ T (exprLoop T fac f p)
  | 0, _, h => h
  | f + 1, p, h => by
    unfold exprLoop
    split
    · rename_i g
      have hk : (p.tok T).k ≠ 0 := by
        rcases Bool.or_eq_true_iff.1 g with g | g
        · rw [(is_ok p g).2.1]; decide
        · rw [(is_ok p g).2.1]; decide
      exact in_exprLoop f _ (in_emit (in_termW hT hf _ (in_next hT h hk)) _ _)
    · exact h
theorem in_exprW (p : PS) (h : In_ T p) : In_ T (exprW T fac p) := in_exprLoop hT hf _ _ (in_termW hT hf _ h)
theorem in_argsLoop (k : Nat) : ∀ (f : Nat) (p : PS) (n : Nat), In_ T p → In_ T (argsLoop T fac k f p n).1
  | 0, _, _, h => h
  | f + 1, p, n, h => by
    unfold argsLoop
    split
    · rename_i g
      exact in_argsLoop k f _ _ (in_exprW hT hf _ (in_next hT h (by rw [(is_ok p (Bool.and_eq_true_iff.1 g).1).2.1]; decide)))
    · exact h
theorem in_callW (op k : Nat) (p : PS) (h : In_ T p) (hk : p.flt = 0 → (p.tok T).k ≠ 0) : In_ T (callW T fac op k p) := by
  unfold callW
  dsimp only
  have h1 : In_ T (argsLoop T fac k (T.length + 1) (exprW T fac ((p.level T).mark T 40)) 1).1 := in_argsLoop hT hf k _ _ 1 (in_exprW hT hf _ (in_want hT (in_level hT h hk) 4 (by decide) [40]))
  generalize argsLoop T fac k (T.length + 1) (exprW T fac ((p.level T).mark T 40)) 1 = r at h1 ⊢
  split
  · exact in_shut (in_emit (in_want hT (in_want hT h1 4 (by decide) [44]) 4 (by decide) [41]) _ _)
  · exact in_shut (in_emit (in_want hT h1 4 (by decide) [41]) _ _)
theorem in_factorW (p : PS) (h : In_ T p) : In_ T (factorW T fac p) := by
  unfold factorW
  dsimp only
  have nx : ∀ {k : Nat} {s : List UInt8}, p.is T k s = true → k ≠ 0 → (p.tok T).k ≠ 0 := fun g hk => by rw [(is_ok p g).2.1]; exact hk
  split
  · exact h
  · split
    · rename_i g
      exact in_emit (in_next hT h (by rw [g]; decide)) _ _
    · split
      · rename_i g
        exact in_emit (in_next hT h (by rw [g]; decide)) _ _
      · split
        · rename_i g
          exact in_emit (in_next hT h (nx g (by decide))) _ _
        · split
          · rename_i g
            exact in_emit (in_next hT h (nx g (by decide))) _ _
          · split
            · rename_i g
              exact in_shut (in_emit (hf _ (in_level hT h fun _ => nx g (by decide))) _ _)
            · split
              · rename_i g
                exact in_shut (in_want hT (in_exprW hT hf _ (in_level hT h fun _ => nx g (by decide))) 4 (by decide) [41])
              · split
                · rename_i g
                  exact in_callW hT hf _ _ p h fun _ => nx g (by decide)
                · split
                  · rename_i g
                    exact in_callW hT hf _ _ p h fun _ => nx g (by decide)
                  · split
                    · rename_i g
                      exact in_callW hT hf _ _ p h fun _ => nx g (by decide)
                    · split
                      · rename_i g
                        exact in_callW hT hf _ _ p h fun _ => nx g (by decide)
                      · exact in_fail h _ _
end
theorem in_factorF {T : List Tk} (hT : TkEnds T) : ∀ (f : Nat) (p : PS), In_ T p → In_ T (factorF T f p)
  | 0, _, h => h
  | f + 1, p, h => in_factorW hT (in_factorF hT f) p h
end Go.Proofs.YtipcgmaobiobbaaGreatDoor
/- How many nodes, depths and levels an expression leaves behind. No walk here. -/
namespace Go.Proofs.YtipcgmaobiobbaaGreatDoor
open Go.RowKit

/-- no more nodes and depths than tokens taken, but for a of them -/
def Ln (a : Int) (p q : PS) : Prop := (q.nds.length : Int) - q.i ≤ p.nds.length - p.i + a ∧ (q.dps.length : Int) - q.i ≤ p.dps.length - p.i + a
theorem Ln.refl (p : PS) : Ln 0 p p := ⟨by omega, by omega⟩
theorem Ln.trans {a b : Int} {p q r : PS} (h : Ln a p q) (k : Ln b q r) : Ln (a + b) p r := ⟨by have := h.1; have := k.1; omega, by have := h.2; have := k.2; omega⟩
theorem Ln.more {a b : Int} {p q : PS} (h : Ln a p q) (hb : a ≤ b) : Ln b p q := ⟨by have := h.1; omega, by have := h.2; omega⟩
theorem ln_fail (p : PS) (a e : Nat) : Ln 0 p (p.fail a e) := by
  unfold PS.fail
  split
  · exact ⟨by show (p.nds.length : Int) - p.i ≤ _; omega, by show (p.dps.length : Int) - p.i ≤ _; omega⟩
  · exact Ln.refl p
theorem ln_next (p : PS) : Ln (-1) p p.next := ⟨by show (p.nds.length : Int) - ((p.i + 1 : Nat) : Int) ≤ _; omega, by show (p.dps.length : Int) - ((p.i + 1 : Nat) : Int) ≤ _; omega⟩
theorem ln_want (T : List Tk) (p : PS) (k : Nat) (s : List UInt8) : Ln 0 p (p.want T k s) := by
  unfold PS.want
  split
  · exact (ln_next p).more (by decide)
  · exact ln_fail p _ _
theorem ln_emit (p : PS) (x : Nd) (k : Nat) : Ln 1 p (p.emit x k) := by
  unfold PS.emit
  split
  · exact (Ln.refl p).more (by decide)
  · split
    · exact (ln_fail p _ _).more (by decide)
    · refine ⟨?_, ?_⟩
      · show ((p.nds ++ [x]).length : Int) - p.i ≤ _
        rw [List.length_append]
        show ((p.nds.length + 1 : Nat) : Int) - p.i ≤ _
        omega
      · show ((p.dps.take (p.dps.length - k) ++ [_]).length : Int) - p.i ≤ _
        rw [List.length_append, List.length_take]
        show ((min (p.dps.length - k) p.dps.length + 1 : Nat) : Int) - p.i ≤ _
        omega
theorem ln_shut (p : PS) : Ln 0 p p.shut := Ln.refl p
theorem ln_level {T : List Tk} {p : PS} : Ln 0 p (p.level T) ∧ ((p.level T).flt = 0 → Ln (-1) p (p.level T)) := by
  unfold PS.level
  split
  · rename_i h
    exact ⟨Ln.refl p, fun g => absurd g h⟩
  · split
    · rename_i h _
      refine ⟨ln_fail p _ _, fun g => ?_⟩
      exfalso
      unfold PS.fail at g
      rw [if_pos (Decidable.byContradiction h)] at g
      cases g
    · have : Ln (-1) p { p with opn := p.opn + 1, i := p.i + 1 } := ⟨by show (p.nds.length : Int) - ((p.i + 1 : Nat) : Int) ≤ _; omega, by show (p.dps.length : Int) - ((p.i + 1 : Nat) : Int) ≤ _; omega⟩
      exact ⟨this.more (by decide), fun _ => this⟩

theorem fail_flt {p : PS} {a e : Nat} (he : e ≠ 0) : (p.fail a e).flt ≠ 0 := by
  unfold PS.fail
  split
  · exact he
  · rename_i h; exact h
/-- a node made without a fault: so many depths less, one more -/
theorem emit_ok {p : PS} {x : Nd} {k : Nat} (h : (p.emit x k).flt = 0) : p.flt = 0 ∧ (p.emit x k).dps.length = p.dps.length - k + 1 ∧ (p.emit x k).opn = p.opn := by
  have h0 : p.flt = 0 := Decidable.byContradiction fun g => by rw [emit_stuck g] at h; exact g h
  refine ⟨h0, ?_⟩
  unfold PS.emit at h ⊢
  rw [if_neg (by omega)] at h ⊢
  split
  · rename_i g
    rw [if_pos g] at h
    exact absurd h (fail_flt (by decide))
  · refine ⟨?_, rfl⟩
    show (p.dps.take (p.dps.length - k) ++ [_]).length = _
    rw [List.length_append, List.length_take]
    show min (p.dps.length - k) p.dps.length + 1 = _
    omega
theorem emit_opn (p : PS) (x : Nd) (k : Nat) : (p.emit x k).opn = p.opn := by
  unfold PS.emit
  split
  · rfl
  · split
    · unfold PS.fail; split <;> rfl
    · rfl
theorem fail_same (p : PS) (a e : Nat) : (p.fail a e).dps = p.dps ∧ (p.fail a e).nds = p.nds ∧ (p.fail a e).opn = p.opn ∧ (p.fail a e).i = p.i := by
  unfold PS.fail
  split
  · exact ⟨rfl, rfl, rfl, rfl⟩
  · exact ⟨rfl, rfl, rfl, rfl⟩
theorem want_same (T : List Tk) (p : PS) (k : Nat) (s : List UInt8) : (p.want T k s).dps = p.dps ∧ (p.want T k s).nds = p.nds ∧ (p.want T k s).opn = p.opn := by
  unfold PS.want
  split
  · exact ⟨rfl, rfl, rfl⟩
  · exact ⟨(fail_same p _ _).1, (fail_same p _ _).2.1, (fail_same p _ _).2.2.1⟩

/-- what an expression does to the state -/
structure Ex1 (T : List Tk) (p q : PS) : Prop where
  go : Go_ p q
  ln : Ln 0 p q
  one : q.flt = 0 → q.i ≤ T.length → q.dps.length = p.dps.length + 1
  opn : q.opn = p.opn ∨ (q.flt ≠ 0 ∧ q.opn = p.opn - 1)
  stuck : p.flt ≠ 0 → q = p

theorem Ex1.of_stuck {T : List Tk} {p : PS} (h : p.flt ≠ 0) : Ex1 T p p := ⟨Go_.refl p, Ln.refl p, fun g => absurd g h, .inl rfl, fun _ => rfl⟩
theorem flt_back {p q : PS} (h : Go_ p q) (h0 : q.flt = 0) : p.flt = 0 := Decidable.byContradiction fun g => by
  have := (h.2 g).1
  omega
theorem level_ok {T : List Tk} {p : PS} (h : (p.level T).flt = 0) : (p.level T).opn = p.opn + 1 ∧ (p.level T).dps = p.dps := by
  unfold PS.level at h ⊢
  split
  · rename_i g
    rw [if_pos g] at h
    exact absurd h g
  · rename_i g
    rw [if_neg g] at h
    split
    · rename_i g2
      rw [if_pos g2] at h
      exact absurd h (fail_flt (by decide))
    · exact ⟨rfl, rfl⟩
theorem level_nds {T : List Tk} {p : PS} : (p.level T).nds = p.nds := by
  unfold PS.level
  split
  · rfl
  · split
    · exact (fail_same p _ _).2.1
    · rfl
theorem level_bad {T : List Tk} {p : PS} (h : (p.level T).flt ≠ 0) (h0 : p.flt = 0) : (p.level T).opn = p.opn := by
  unfold PS.level at h ⊢
  rw [if_neg (by omega)] at h ⊢
  split
  · exact (fail_same p _ _).2.2.1
  · rename_i g
    rw [if_neg g] at h
    exact absurd h0 h
/-- there is fuel left: a place far enough on, or a fault -/
def Cn (n : Nat) (p : PS) : Prop := p.flt ≠ 0 ∨ n ≤ p.i
theorem Cn.go {n : Nat} {p q : PS} (h : Cn n p) (g : Go_ p q) : Cn n q := by
  by_cases z : p.flt = 0
  · exact .inr (Nat.le_trans (h.resolve_left fun e => e z) g.1)
  · exact .inl (by rw [(g.2 z).1]; exact z)
theorem cn_level {T : List Tk} {m : Nat} {p : PS} (hc : m ≤ p.i + 1) (hb : (p.level T).flt = 0) : Cn m (p.level T) := by
  have := (ln_level (T := T) (p := p)).2 hb
  refine .inr ?_
  have h1 := this.1
  have h2 : (p.level T).nds = p.nds := level_nds
  rw [h2] at h1
  omega
theorem emit_i (p : PS) (x : Nd) (k : Nat) : (p.emit x k).i = p.i := by
  unfold PS.emit
  split
  · rfl
  · split
    · exact (fail_same p _ _).2.2.2
    · rfl
theorem ex_leaf {T : List Tk} {p : PS} (h0 : p.flt = 0) (x : Nd) : Ex1 T p (p.next.emit x 0) := by
  refine ⟨(go_next p h0).trans (go_emit _ x 0), ((ln_next p).trans (ln_emit _ x 0)).more (by decide), fun g _ => ?_, .inl (emit_opn _ _ _), fun g => absurd h0 g⟩
  have := (emit_ok g).2.1
  rw [this]
  rfl

/-- an expression, an operator's mark, another one, the node over both -/
theorem two_more {T : List Tk} {p q r : PS} {x : Nd} (h : Ex1 T p q) (h0 : q.flt = 0) (k : Ex1 T q.next r) : Ex1 T p (r.emit x 2) := by
  have gn := go_next q h0
  refine ⟨h.go.trans (gn.trans (k.go.trans (go_emit r x 2))), ((h.ln.trans (ln_next q)).trans (k.ln.trans (ln_emit r x 2))).more (by decide), fun g gi => ?_, ?_, fun g => ?_⟩
  · obtain ⟨r0, e1, _⟩ := emit_ok g
    rw [emit_i] at gi
    have := k.one r0 gi
    have := h.one h0 (Nat.le_trans (gn.trans k.go).1 gi)
    have : q.next.dps.length = q.dps.length := rfl
    omega
  · have ho : q.opn = p.opn := h.opn.resolve_right fun g => g.1 h0
    rw [emit_opn]
    have hn : q.next.opn = q.opn := rfl
    rcases k.opn with e | ⟨e1, e2⟩
    · exact .inl (by omega)
    · exact .inr ⟨by rw [emit_stuck e1]; exact e1, by omega⟩
  · rw [h.stuck g] at h0
    exact absurd h0 g
section
variable {T : List Tk} {fac : PS → PS} {m : Nat} (hf : ∀ p, Cn m p → Ex1 T p (fac p))
include hf
theorem ex_termLoop : ∀ (f : Nat) (p q : PS), Cn m p → Ex1 T p q → Ex1 T p (termLoop T fac f q)
  | 0, _, _, _, h => h
  | f + 1, p, q, hc, h => by
    unfold termLoop
    split
    · rename_i g
      exact ex_termLoop f p _ hc (two_more h (is_ok q g).1 (hf _ (hc.go (h.go.trans (go_next q (is_ok q g).1)))))
    · exact h
theorem ex_termW (p : PS) (hc : Cn m p) : Ex1 T p (termW T fac p) := ex_termLoop hf _ p _ hc (hf p hc)
theorem ex_exprLoop : ∀ (f : Nat) (p q : PS), Cn m p → Ex1 T p q → Ex1 T p (exprLoop T fac f q)
  | 0, _, _, _, h => h
  | f + 1, p, q, hc, h => by
    unfold exprLoop
    split
    · rename_i g
      have h0 : q.flt = 0 := by
        rcases Bool.or_eq_true_iff.1 g with g | g
        · exact (is_ok q g).1
        · exact (is_ok q g).1
      exact ex_exprLoop f p _ hc (two_more h h0 (ex_termW hf _ (hc.go (h.go.trans (go_next q h0)))))
    · exact h
theorem ex_exprW (p : PS) (hc : Cn m p) : Ex1 T p (exprW T fac p) := ex_exprLoop hf _ p _ hc (ex_termW hf p hc)

/-- so many operands, none of them put together yet -/
structure Args (T : List Tk) (p q : PS) (n : Nat) : Prop where
  go : Go_ p q
  ln : Ln 0 p q
  one : q.flt = 0 → q.i ≤ T.length → q.dps.length = p.dps.length + n
  opn : q.opn = p.opn ∨ (q.flt ≠ 0 ∧ q.opn = p.opn - 1)
theorem ex_argsLoop (k : Nat) : ∀ (f : Nat) (p q : PS) (n : Nat), Cn m p → Args T p q n → Args T p (argsLoop T fac k f q n).1 (argsLoop T fac k f q n).2 ∧ n ≤ (argsLoop T fac k f q n).2
  | 0, _, _, n, _, h => ⟨h, Nat.le_refl n⟩
  | f + 1, p, q, n, hc, h => by
    unfold argsLoop
    split
    · rename_i g
      have h0 := (is_ok q (Bool.and_eq_true_iff.1 g).1).1
      have e := ex_exprW (T := T) hf q.next (hc.go (h.go.trans (go_next q h0)))
      have ho : q.opn = p.opn := h.opn.resolve_right fun g => g.1 h0
      have := ex_argsLoop k f p (exprW T fac q.next) (n + 1) hc ⟨h.go.trans ((go_next q h0).trans e.go), ((h.ln.trans (ln_next q)).trans e.ln).more (by decide), fun r0 ri => by
        have a := e.one r0 ri
        have b := h.one h0 (Nat.le_trans ((go_next q h0).trans e.go).1 ri)
        have c : q.next.dps.length = q.dps.length := rfl
        omega, by
        have hn : q.next.opn = q.opn := rfl
        rcases e.opn with e1 | ⟨e1, e2⟩
        · exact .inl (by omega)
        · exact .inr ⟨e1, by omega⟩⟩
      exact ⟨this.1, by omega⟩
    · exact ⟨h, Nat.le_refl n⟩

theorem ex_callW (op k : Nat) (p : PS) (h0 : p.flt = 0) (hc : m ≤ p.i + 1) : Ex1 T p (callW T fac op k p) := by
  have hl := ln_level (T := T) (p := p)
  have gl := go_level (T := T) p
  by_cases hb : (p.level T).flt = 0
  · obtain ⟨lo, ld⟩ := level_ok hb
    have ll := hl.2 hb
    have hcl := (cn_level (T := T) hc hb).go (go_want (T := T) (p.level T) 4 [40])
    have e := ex_exprW (T := T) hf ((p.level T).mark T 40) hcl
    have wm := want_same T (p.level T) 4 [40]
    have gm := go_want (T := T) (p.level T) 4 [40]
    have lm := ln_want T (p.level T) 4 [40]
    have ha := (ex_argsLoop (T := T) hf k (T.length + 1) ((p.level T).mark T 40) _ 1 hcl ⟨e.go, e.ln, e.one, e.opn⟩).1
    unfold callW
    dsimp only
    generalize argsLoop T fac k (T.length + 1) (exprW T fac ((p.level T).mark T 40)) 1 = r at ha ⊢
    obtain ⟨q, hq⟩ : ∃ q, (if k ≠ 0 ∧ r.2 < k then r.1.mark T 44 else r.1) = q := ⟨_, rfl⟩
    rw [hq]
    have gq : Go_ r.1 q ∧ Ln 0 r.1 q ∧ q.dps = r.1.dps ∧ q.opn = r.1.opn := by
      rw [← hq]
      split
      · exact ⟨go_want (T := T) r.1 4 [44], ln_want T r.1 4 [44], (want_same T r.1 4 [44]).1, (want_same T r.1 4 [44]).2.2⟩
      · exact ⟨Go_.refl _, Ln.refl _, rfl, rfl⟩
    obtain ⟨g1, l1, d1, o1⟩ := gq
    have ws := want_same T q 4 [41]
    have gs := go_want (T := T) q 4 [41]
    have lsn := ln_want T q 4 [41]
    obtain ⟨s, hs⟩ : ∃ s, q.mark T 41 = s := ⟨_, rfl⟩
    rw [hs]
    change q.want T 4 [41] = s at hs
    rw [hs] at ws gs lsn
    obtain ⟨x, hx⟩ : ∃ x : Nd, (⟨op, if op = 9 then r.2 else 0, 0, [], (p.tok T).a⟩ : Nd) = x := ⟨_, rfl⟩
    rw [hx]
    have gall : Go_ p s := gl.trans (gm.trans (ha.go.trans (g1.trans gs)))
    have lall := ll.trans (lm.trans (ha.ln.trans (l1.trans lsn)))
    change (PS.mark T (p.level T) 40).dps = _ ∧ _ ∧ (PS.mark T (p.level T) 40).opn = _ at wm
    refine ⟨gall.trans ((go_emit s x r.2).trans (go_shut _)), ((lall.trans (ln_emit s x r.2)).trans (ln_shut _)).more (by decide), fun g gi => ?_, ?_, fun g => absurd h0 g⟩
    · obtain ⟨s0, d2, _⟩ := emit_ok (show (s.emit x r.2).flt = 0 from g)
      have gi2 : s.i ≤ T.length := by rw [← emit_i s x r.2]; exact gi
      have r0 := flt_back g1 (flt_back gs s0)
      have := ha.one r0 (Nat.le_trans (g1.trans gs).1 gi2)
      show (s.emit x r.2).dps.length = _
      rw [d2, ws.1, d1, this, wm.1, ld]
      omega
    · show (s.emit x r.2).opn - 1 = p.opn ∨ ((s.emit x r.2).flt ≠ 0 ∧ (s.emit x r.2).opn - 1 = p.opn - 1)
      rw [emit_opn, ws.2.2, o1]
      rcases ha.opn with e1 | ⟨e1, e2⟩
      · exact .inl (by rw [e1, wm.2.2, lo]; omega)
      · refine .inr ⟨fun z => ?_, by rw [e2, wm.2.2, lo]; omega⟩
        exact e1 (flt_back g1 (flt_back gs (emit_ok z).1))
  · have lo := level_bad hb h0
    have e : callW T fac op k p = (p.level T).shut := by
      unfold callW
      dsimp only
      rw [mark_stuck hb, (ex_exprW (T := T) hf (p.level T) (.inl hb)).stuck hb, argsLoop_stuck k hb]
      dsimp only
      have hm : (if k ≠ 0 ∧ 1 < k then (p.level T).mark T 44 else p.level T) = p.level T := by
        split
        · exact mark_stuck hb _
        · rfl
      rw [hm, mark_stuck hb, emit_stuck hb]
    rw [e]
    exact ⟨gl.trans (go_shut _), (hl.1.trans (ln_shut _)).more (by decide), fun g _ => absurd g hb, .inr ⟨hb, by show (p.level T).opn - 1 = _; rw [lo]⟩, fun g => absurd h0 g⟩
theorem ex_factorW (p : PS) (hc0 : p.flt ≠ 0 ∨ m ≤ p.i + 1) : Ex1 T p (factorW T fac p) := by
  unfold factorW
  dsimp only
  split
  · rename_i h
    exact Ex1.of_stuck h
  · rename_i h
    have h0 : p.flt = 0 := Decidable.byContradiction h
    have hc : m ≤ p.i + 1 := hc0.resolve_left h
    have hl := ln_level (T := T) (p := p)
    have gl := go_level (T := T) p
    split
    · exact ex_leaf h0 _
    · split
      · exact ex_leaf h0 _
      · split
        · exact ex_leaf h0 _
        · split
          · exact ex_leaf h0 _
          · split
            · have e : Ex1 T (p.level T) (fac (p.level T)) := hf _ (if hb : (p.level T).flt = 0 then cn_level hc hb else .inl hb)
              generalize (⟨5, 0, 0, [], (p.tok T).a⟩ : Nd) = x
              by_cases hb : (p.level T).flt = 0
              · obtain ⟨lo, ld⟩ := level_ok hb
                refine ⟨gl.trans (e.go.trans ((go_emit _ x 1).trans (go_shut _))), ((((hl.2 hb).trans e.ln).trans (ln_emit _ x 1)).trans (ln_shut _)).more (by decide), fun g gi => ?_, ?_, fun g => absurd h0 g⟩
                · obtain ⟨s0, d2, _⟩ := emit_ok (show ((fac (p.level T)).emit x 1).flt = 0 from g)
                  show ((fac (p.level T)).emit x 1).dps.length = _
                  rw [d2, e.one s0 (by rw [← emit_i _ x 1]; exact gi), ld]
                  omega
                · show ((fac (p.level T)).emit x 1).opn - 1 = p.opn ∨ (((fac (p.level T)).emit x 1).flt ≠ 0 ∧ ((fac (p.level T)).emit x 1).opn - 1 = p.opn - 1)
                  rw [emit_opn]
                  rcases e.opn with e1 | ⟨e1, e2⟩
                  · exact .inl (by rw [e1, lo]; omega)
                  · exact .inr ⟨fun z => e1 (emit_ok z).1, by rw [e2, lo]; omega⟩
              · have lo := level_bad hb h0
                rw [e.stuck hb, emit_stuck hb]
                exact ⟨gl.trans (go_shut _), (hl.1.trans (ln_shut _)).more (by decide), fun g _ => absurd g hb, .inr ⟨hb, by show (p.level T).opn - 1 = _; rw [lo]⟩, fun g => absurd h0 g⟩
            · split
              · have e := ex_exprW (T := T) hf (p.level T) (if hb : (p.level T).flt = 0 then cn_level hc hb else .inl hb)
                have wm := want_same T (exprW T fac (p.level T)) 4 [41]
                have gm := go_want (T := T) (exprW T fac (p.level T)) 4 [41]
                have lm := ln_want T (exprW T fac (p.level T)) 4 [41]
                by_cases hb : (p.level T).flt = 0
                · obtain ⟨lo, ld⟩ := level_ok hb
                  refine ⟨gl.trans (e.go.trans (gm.trans (go_shut _))), ((((hl.2 hb).trans e.ln).trans lm).trans (ln_shut _)).more (by decide), fun g gi => ?_, ?_, fun g => absurd h0 g⟩
                  · have s0 := flt_back gm g
                    show (PS.want T (exprW T fac (p.level T)) 4 [41]).dps.length = _
                    rw [wm.1, e.one s0 (Nat.le_trans gm.1 gi), ld]
                  · show (PS.want T (exprW T fac (p.level T)) 4 [41]).opn - 1 = p.opn ∨ ((PS.want T (exprW T fac (p.level T)) 4 [41]).flt ≠ 0 ∧ (PS.want T (exprW T fac (p.level T)) 4 [41]).opn - 1 = p.opn - 1)
                    rw [wm.2.2]
                    rcases e.opn with e1 | ⟨e1, e2⟩
                    · exact .inl (by rw [e1, lo]; omega)
                    · exact .inr ⟨fun z => e1 (flt_back gm z), by rw [e2, lo]; omega⟩
                · have lo := level_bad hb h0
                  rw [e.stuck hb, mark_stuck hb]
                  exact ⟨gl.trans (go_shut _), (hl.1.trans (ln_shut _)).more (by decide), fun g _ => absurd g hb, .inr ⟨hb, by show (p.level T).opn - 1 = _; rw [lo]⟩, fun g => absurd h0 g⟩
              · split
                · exact ex_callW hf _ _ p h0 hc
                · split
                  · exact ex_callW hf _ _ p h0 hc
                  · split
                    · exact ex_callW hf _ _ p h0 hc
                    · split
                      · exact ex_callW hf _ _ p h0 hc
                      · exact ⟨go_fail p _ _, ln_fail p _ _, fun g _ => absurd g (fail_flt (by decide)), .inl (fail_same p _ _).2.2.1, fun g => absurd h0 g⟩
end
theorem ex_factorF {T : List Tk} : ∀ (f : Nat) (p : PS), (p.flt ≠ 0 ∨ T.length < p.i + f) → Ex1 T p (factorF T f p)
  | 0, p, h => by
    by_cases z : p.flt = 0
    · have := h.resolve_left fun e => e z
      exact ⟨Go_.refl p, Ln.refl p, fun _ (g : p.i ≤ T.length) => by omega, .inl rfl, fun _ => rfl⟩
    · exact Ex1.of_stuck z
  | f + 1, p, h => ex_factorW (m := T.length + 1 - f) (fun q hq => ex_factorF f q (hq.imp id fun g => by omega)) p (h.imp id fun g => by omega)
end Go.Proofs.YtipcgmaobiobbaaGreatDoor
/- Two rows of tokens that are alike: what is made of the one is alike to what is made of the other, or one of the two is given up. No walk here. -/
namespace Go.Proofs.YtipcgmaobiobbaaGreatDoor
open Go.RowKit

/-- a token that opens a level, or a name -/
def opk (x : Tk) : Bool := x.k == 1 || (x.k == 4 && (x.t == [40] || x.t == [45]))
def cnt (T : List Tk) (i : Nat) : Nat := ((T.take i).filter opk).length
theorem cnt_mono (T : List Tk) (i : Nat) : cnt T i ≤ cnt T (i + 1) := by
  unfold cnt
  rcases Nat.lt_or_ge i T.length with h | h
  · rw [List.take_succ_eq_append_getElem h, List.filter_append, List.length_append]
    omega
  · rw [List.take_of_length_le h, List.take_of_length_le (by omega)]
    exact Nat.le_refl _
theorem cnt_more {T : List Tk} {i : Nat} {x : Tk} (hx : T[i]? = some x) (h : opk x = true) : cnt T i + 1 = cnt T (i + 1) := by
  unfold cnt
  obtain ⟨hi, rfl⟩ := List.getElem?_eq_some_iff.1 hx
  rw [List.take_succ_eq_append_getElem hi, List.filter_append, List.length_append, List.filter_cons_of_pos h]
  rfl
theorem cnt_all (T : List Tk) (i : Nat) : cnt T i ≤ cnt T T.length := by
  unfold cnt
  rw [List.take_length]
  exact ((List.take_sublist i T).filter _).length_le

structure Sim where
  T : List Tk
  T' : List Tk
  δ : Nat
  om : Int
  R : Nat → Nat → Prop
  Bad : PS → PS → Prop

/-- two nodes alike but for their places -/
structure Nr (R : Nat → Nat → Prop) (x y : Nd) : Prop where
  op : y.op = x.op
  n : y.n = x.n
  num : y.num = x.num
  t : y.t = x.t
  a : R x.a y.a
theorem Nr.of {R : Nat → Nat → Prop} {a a' : Nat} (h : R a a') (op n num : Nat) (t : List UInt8) : Nr R ⟨op, n, num, t, a⟩ ⟨op, n, num, t, a'⟩ := ⟨rfl, rfl, rfl, rfl, h⟩
inductive Rel2 {α β : Type} (r : α → β → Prop) : List α → List β → Prop
  | nil : Rel2 r [] []
  | cons {x : α} {y : β} {l : List α} {m : List β} : r x y → Rel2 r l m → Rel2 r (x :: l) (y :: m)
theorem Rel2.append {α β : Type} {r : α → β → Prop} {a : List α} {b : List β} {c : List α} {d : List β} (h : Rel2 r a b) (k : Rel2 r c d) : Rel2 r (a ++ c) (b ++ d) := by
  induction h with
  | nil => exact k
  | cons h1 _ ih => exact .cons h1 ih
theorem Rel2.one {α β : Type} {r : α → β → Prop} {x : α} {y : β} (h : r x y) : Rel2 r [x] [y] := .cons h .nil
theorem Rel2.len {α β : Type} {r : α → β → Prop} {a : List α} {b : List β} (h : Rel2 r a b) : b.length = a.length := by
  induction h with
  | nil => rfl
  | cons _ _ ih => rw [List.length_cons, List.length_cons, ih]
theorem Rel2.at_ {α β : Type} {r : α → β → Prop} {a : List α} {b : List β} (h : Rel2 r a b) {i : Nat} {x : α} {y : β} (hx : a[i]? = some x) (hy : b[i]? = some y) : r x y := by
  induction h generalizing i with
  | nil => cases hx
  | cons h1 _ ih =>
    cases i with
    | zero =>
      simp only [List.getElem?_cons_zero, Option.some.injEq] at hx hy
      subst hx; subst hy; exact h1
    | succ i =>
      simp only [List.getElem?_cons_succ] at hx hy
      exact ih hx hy
/-- two tokens alike but for their places -/
structure Tr (R : Nat → Nat → Prop) (x y : Tk) : Prop where
  k : y.k = x.k
  t : y.t = x.t
  n : y.n = x.n
  a : R x.a y.a
/-- no operator's mark -/
def Neut (x : Tk) : Prop := x.k = 4 → x.t ≠ [42] ∧ x.t ≠ [43] ∧ x.t ≠ [45] ∧ x.t ≠ [44]

/-- two states alike; with X: their nodes, depths and levels too -/
structure Co (S : Sim) (X : Prop) (p p' : PS) : Prop where
  f : p.flt = 0
  f' : p'.flt = 0
  i : p'.i = p.i + S.δ
  inn : In_ S.T p
  o : X → p'.opn = p.opn + S.om
  d : X → p'.dps = p.dps
  n : X → Rel2 (Nr S.R) p.nds p'.nds
  c : X → p.opn ≤ (cnt S.T p.i : Nat)
def Out (S : Sim) (X : Prop) (p p' : PS) : Prop := Co S X p p' ∨ S.Bad p p'
theorem Co.weak {S : Sim} {X : Prop} {p p' : PS} (h : Co S X p p') : Co S False p p' := ⟨h.f, h.f', h.i, h.inn, nofun, nofun, nofun, nofun⟩
theorem Out.weak {S : Sim} {X : Prop} {p p' : PS} (h : Out S X p p') : Out S False p p' := h.imp (·.weak) id

theorem emit_at {p : PS} (h : p.flt = 0) {x : Nd} {k : Nat} : p.emit x k = if 100 < (p.dps.drop (p.dps.length - k)).foldl max 0 + 1 then p.fail x.a 91 else { p with dps := p.dps.take (p.dps.length - k) ++ [(p.dps.drop (p.dps.length - k)).foldl max 0 + 1], nds := p.nds ++ [x] } := if_neg fun g => g h
structure Sim.Ok (S : Sim) : Prop where
  len : S.T.length ≤ S.T'.length
  ends : TkEnds S.T
  go : ∀ {p p' q q'}, S.Bad p p' → Go_ p q → Go_ p' q' → S.Bad q q'
  bad : ∀ {X p p'}, Co S X p p' → ∀ a a' e, S.R a a' → e ≠ 0 → S.Bad (p.fail a e) (p'.fail a' e)
  tk : ∀ {X p p'}, Co S X p p' → Tr S.R (p.tok S.T) (p'.tok S.T') ∨ ((p.tok S.T).k = 0 ∧ Neut (p'.tok S.T') ∧ ∀ a e q', e ≠ 0 → S.Bad (p.fail a e) q')
  tw : S.om = 0 ∨ ∀ p q', p.flt ≠ 0 → S.Bad p q'
  deep : ∀ {p p'}, Co S True p p' → opk (p.tok S.T) = true → p.opn ≠ 100 → p'.opn = 100 → S.Bad (p.level S.T) (p'.level S.T')

section
variable {S : Sim} (H : S.Ok) {X : Prop} {p p' : PS}
include H
theorem co_next (h : Co S X p p') (hk : (p.tok S.T).k ≠ 0) : Co S X p.next p'.next := by
  refine ⟨h.f, h.f', ?_, in_next H.ends h.inn hk, h.o, h.d, h.n, fun x => ?_⟩
  · show p'.i + 1 = p.i + 1 + S.δ
    have := h.i
    omega
  · have := h.c x
    have := cnt_mono S.T p.i
    show p.opn ≤ (cnt S.T (p.i + 1) : Nat)
    omega
/-- the tests of operators -/
theorem co_is (h : Co S X p p') {c : UInt8} (hc : c = 42 ∨ c = 43 ∨ c = 45 ∨ c = 44) : p'.is S.T' 4 [c] = p.is S.T 4 [c] := by
  unfold PS.is
  rw [h.f, h.f']
  rcases H.tk h with g | ⟨g1, g2, _⟩
  · rw [g.k, g.t]
  · rw [g1]
    have : (((p'.tok S.T').k == 4) && ((p'.tok S.T').t == [c])) = false := by
      by_cases hk : (p'.tok S.T').k = 4
      · obtain ⟨q1, q2, q3, q4⟩ := g2 hk
        have : (p'.tok S.T').t ≠ [c] := by
          rcases hc with rfl | rfl | rfl | rfl
          · exact q1
          · exact q2
          · exact q3
          · exact q4
        rw [beq_eq_false_iff_ne.2 this, Bool.and_false]
      · rw [beq_eq_false_iff_ne.2 hk, Bool.false_and]
    rw [Bool.and_assoc, this]
    rfl
theorem out_want (h : Co S X p p') {k : Nat} (hk : k ≠ 0) (s : List UInt8) : Out S X (p.want S.T k s) (p'.want S.T' k s) := by
  rcases H.tk h with g | ⟨g1, _, g3⟩
  · have e : p'.is S.T' k s = p.is S.T k s := by unfold PS.is; rw [h.f, h.f', g.k, g.t]
    unfold PS.want
    rw [e]
    split
    · rename_i q
      exact .inl (co_next H h (by rw [(is_ok p q).2.1]; exact hk))
    · exact .inr (H.bad h _ _ _ g.a (by decide))
  · have e : p.is S.T k s = false := by
      cases q : p.is S.T k s with
      | false => rfl
      | true => exact absurd ((is_ok p q).2.1.symm.trans g1) hk
    have e2 : p.want S.T k s = p.fail (p.tok S.T).a 90 := by unfold PS.want; rw [e, if_neg (by decide)]
    rw [e2]
    exact .inr (g3 _ _ _ (by decide))
theorem out_want2 (h : Out S X p p') {k : Nat} (hk : k ≠ 0) (s : List UInt8) : Out S X (p.want S.T k s) (p'.want S.T' k s) :=
  h.elim (fun h => out_want H h hk s) (fun h => .inr (H.go h (go_want p k s) (go_want p' k s)))
theorem out_emit (h : Co S True p p') {x y : Nd} (hx : Nr S.R x y) (k : Nat) : Out S True (p.emit x k) (p'.emit y k) := by
  rw [emit_at h.f, emit_at h.f', h.d trivial]
  split
  · exact .inr (H.bad h _ _ _ hx.a (by decide))
  · exact .inl ⟨h.f, h.f', h.i, h.inn, h.o, fun _ => rfl, fun _ => (h.n trivial).append (Rel2.one hx), h.c⟩
theorem out_emit2 (h : Out S True p p') {x y : Nd} (hx : Nr S.R x y) (k : Nat) : Out S True (p.emit x k) (p'.emit y k) :=
  h.elim (fun h => out_emit H h hx k) (fun h => .inr (H.go h (go_emit p x k) (go_emit p' y k)))
omit H in
theorem co_shut (h : Co S True p p') : Co S True p.shut p'.shut := ⟨h.f, h.f', h.i, h.inn, fun x => by
  show p'.opn - 1 = p.opn - 1 + S.om
  have := h.o x
  omega, h.d, h.n, fun x => by
  show p.opn - 1 ≤ _
  have := h.c x
  show p.opn - 1 ≤ (cnt S.T p.i : Nat)
  omega⟩
theorem out_shut (h : Out S True p p') : Out S True p.shut p'.shut := h.imp co_shut (fun h => H.go h (go_shut p) (go_shut p'))
theorem out_level (h : Co S True p p') (ho : opk (p.tok S.T) = true) : Out S True (p.level S.T) (p'.level S.T') := by
  have hk : (p.tok S.T).k ≠ 0 := fun e => by
    unfold opk at ho
    rw [e] at ho
    cases ho
  rcases H.tk h with g | ⟨g1, _⟩
  · by_cases q : p.opn = 100
    · have e : p.level S.T = p.fail (p.tok S.T).a 91 := by unfold PS.level; rw [if_neg (by rw [h.f]; decide), if_pos q]
      rcases H.tw with z | z
      · have e' : p'.level S.T' = p'.fail (p'.tok S.T').a 91 := by
          unfold PS.level
          rw [if_neg (by rw [h.f']; decide), if_pos]
          rw [h.o trivial, z, q]
          rfl
        rw [e, e']
        exact .inr (H.bad h _ _ _ g.a (by decide))
      · rw [e]
        exact .inr (z _ _ (fail_flt (by decide)))
    · by_cases q' : p'.opn = 100
      · exact .inr (H.deep h ho q q')
      · have n := co_next H h hk
        have e : p.level S.T = { p with opn := p.opn + 1, i := p.i + 1 } := by unfold PS.level; rw [if_neg (by rw [h.f]; decide), if_neg q]
        have e' : p'.level S.T' = { p' with opn := p'.opn + 1, i := p'.i + 1 } := by unfold PS.level; rw [if_neg (by rw [h.f']; decide), if_neg q']
        rw [e, e']
        refine .inl ⟨h.f, h.f', n.i, n.inn, fun _ => ?_, h.d, h.n, fun _ => ?_⟩
        · show p'.opn + 1 = p.opn + 1 + S.om
          have := h.o trivial
          omega
        · show p.opn + 1 ≤ (cnt S.T (p.i + 1) : Nat)
          have := h.c trivial
          have := cnt_more (tok_at h.inn) ho
          omega
  · exact absurd g1 hk
end

/-- two functions on states that hand on what is alike, from a place on -/
def Fr (S : Sim) (m : Nat) (fac fac' : PS → PS) : Prop := ∀ p p', Co S True p p' → m ≤ p.i → Out S True (fac p) (fac' p')
section
variable {S : Sim} (H : S.Ok) {m : Nat} {fac fac' : PS → PS} (F : Fr S m fac fac') (g : ∀ p, Go_ p (fac p)) (g' : ∀ p, Go_ p (fac' p))
include H F g g'
theorem sm_termLoop : ∀ (f k : Nat) (p p' : PS), Out S True p p' → (p.flt = 0 → S.T.length ≤ p.i + f ∧ m ≤ p.i) → Out S True (termLoop S.T fac f p) (termLoop S.T' fac' (f + k) p')
  | f, k, p, p', .inr h, _ => .inr (H.go h (go_termLoop g f p) (go_termLoop g' (f + k) p'))
  | 0, _, p, p', .inl h, hf => by
    have := (hf h.f).1
    have : p.i < S.T.length := h.inn
    omega
  | f + 1, k, p, p', .inl h, hf => by
    have he := co_is H h (c := 42) (.inl rfl)
    obtain ⟨h1, h2⟩ := hf h.f
    rw [show f + 1 + k = f + k + 1 by omega]
    unfold termLoop
    rw [he]
    split
    · rename_i q
      have hk : (p.tok S.T).k ≠ 0 := by rw [(is_ok p q).2.1]; decide
      have hn := co_next H h hk
      have hx : Nr S.R ⟨8, 0, 0, [], (p.tok S.T).a⟩ ⟨8, 0, 0, [], (p'.tok S.T').a⟩ := by
        rcases H.tk h with t | ⟨t, _⟩
        · exact ⟨rfl, rfl, rfl, rfl, t.a⟩
        · exact absurd t hk
      refine sm_termLoop f k _ _ (out_emit2 H (F _ _ hn (by show m ≤ p.i + 1; omega)) hx 2) fun _ => ?_
      have := ((g p.next).trans (go_emit _ ⟨8, 0, 0, [], (p.tok S.T).a⟩ 2)).1
      have e : p.next.i = p.i + 1 := rfl
      omega
    · exact .inl h
theorem sm_termW : Fr S m (termW S.T fac) (termW S.T' fac') := fun p p' h hm => by
  unfold termW
  rw [show S.T'.length + 1 = S.T.length + 1 + (S.T'.length - S.T.length) by have := H.len; omega]
  refine sm_termLoop H F g g' _ _ _ _ (F _ _ h hm) fun _ => ?_
  have := (g p).1
  omega
theorem sm_exprLoop : ∀ (f k : Nat) (p p' : PS), Out S True p p' → (p.flt = 0 → S.T.length ≤ p.i + f ∧ m ≤ p.i) → Out S True (exprLoop S.T fac f p) (exprLoop S.T' fac' (f + k) p')
  | f, k, p, p', .inr h, _ => .inr (H.go h (go_exprLoop g f p) (go_exprLoop g' (f + k) p'))
  | 0, _, p, p', .inl h, hf => by
    have := (hf h.f).1
    have : p.i < S.T.length := h.inn
    omega
  | f + 1, k, p, p', .inl h, hf => by
    have he := co_is H h (c := 43) (.inr (.inl rfl))
    have he2 := co_is H h (c := 45) (.inr (.inr (.inl rfl)))
    obtain ⟨h1, h2⟩ := hf h.f
    rw [show f + 1 + k = f + k + 1 by omega]
    unfold exprLoop
    rw [he, he2]
    split
    · rename_i q
      have hk : (p.tok S.T).k ≠ 0 := by
        rcases Bool.or_eq_true_iff.1 q with q | q
        · rw [(is_ok p q).2.1]; decide
        · rw [(is_ok p q).2.1]; decide
      have hn := co_next H h hk
      obtain ⟨ta, tt⟩ : S.R (p.tok S.T).a (p'.tok S.T').a ∧ (p'.tok S.T').t = (p.tok S.T).t := by
        rcases H.tk h with t | ⟨t, _⟩
        · exact ⟨t.a, t.t⟩
        · exact absurd t hk
      rw [tt]
      have hx : Nr S.R ⟨if (p.tok S.T).t = [45] then 7 else 6, 0, 0, [], (p.tok S.T).a⟩ ⟨if (p.tok S.T).t = [45] then 7 else 6, 0, 0, [], (p'.tok S.T').a⟩ := ⟨rfl, rfl, rfl, rfl, ta⟩
      refine sm_exprLoop f k _ _ (out_emit2 H (sm_termW H F g g' _ _ hn (by show m ≤ p.i + 1; omega)) hx 2) fun _ => ?_
      have := ((go_termW (T := S.T) g p.next).trans (go_emit _ ⟨if (p.tok S.T).t = [45] then 7 else 6, 0, 0, [], (p.tok S.T).a⟩ 2)).1
      have e : p.next.i = p.i + 1 := rfl
      omega
    · exact .inl h
theorem sm_exprW : Fr S m (exprW S.T fac) (exprW S.T' fac') := fun p p' h hm => by
  unfold exprW
  rw [show S.T'.length + 1 = S.T.length + 1 + (S.T'.length - S.T.length) by have := H.len; omega]
  refine sm_exprLoop H F g g' _ _ _ _ (sm_termW H F g g' _ _ h hm) fun _ => ?_
  have := (go_termW (T := S.T) g p).1
  omega
theorem sm_argsLoop (c : Nat) : ∀ (f k : Nat) (p p' : PS) (n n' : Nat), ((Co S True p p' ∧ n' = n) ∨ S.Bad p p') → (p.flt = 0 → S.T.length ≤ p.i + f ∧ m ≤ p.i) →
    (Co S True (argsLoop S.T fac c f p n).1 (argsLoop S.T' fac' c (f + k) p' n').1 ∧ (argsLoop S.T' fac' c (f + k) p' n').2 = (argsLoop S.T fac c f p n).2) ∨ S.Bad (argsLoop S.T fac c f p n).1 (argsLoop S.T' fac' c (f + k) p' n').1
  | f, k, p, p', n, n', .inr h, _ => .inr (H.go h (go_argsLoop g c f p n) (go_argsLoop g' c (f + k) p' n'))
  | 0, _, p, p', n, n', .inl h, hf => by
    have := (hf h.1.f).1
    have : p.i < S.T.length := h.1.inn
    omega
  | f + 1, k, p, p', n, n', .inl ⟨h, hn'⟩, hf => by
    subst hn'
    have he := co_is H h (c := 44) (.inr (.inr (.inr rfl)))
    obtain ⟨h1, h2⟩ := hf h.f
    rw [show f + 1 + k = f + k + 1 by omega]
    unfold argsLoop
    rw [he]
    split
    · rename_i q
      have q1 := (Bool.and_eq_true_iff.1 q).1
      have hk : (p.tok S.T).k ≠ 0 := by rw [(is_ok p q1).2.1]; decide
      have hn := co_next H h hk
      refine sm_argsLoop c f k _ _ _ _ ((sm_exprW H F g g' _ _ hn (by show m ≤ p.i + 1; omega)).imp (fun h => ⟨h, rfl⟩) id) fun _ => ?_
      have := (go_exprW (T := S.T) g p.next).1
      have e : p.next.i = p.i + 1 := rfl
      omega
    · exact .inl ⟨h, rfl⟩
theorem sm_callW (op c : Nat) (p p' : PS) (h : Co S True p p') (ho : opk (p.tok S.T) = true) (hm : m ≤ p.i + 1) : Out S True (callW S.T fac op c p) (callW S.T' fac' op c p') := by
  have hk : (p.tok S.T).k ≠ 0 := fun e => by
    unfold opk at ho
    rw [e] at ho
    cases ho
  have ta : S.R (p.tok S.T).a (p'.tok S.T').a := by
    rcases H.tk h with t | ⟨t, _⟩
    · exact t.a
    · exact absurd t hk
  have h1 : Out S True ((p.level S.T).mark S.T 40) ((p'.level S.T').mark S.T' 40) := out_want2 H (out_level H h ho) (by decide) [40]
  have hi : ((p.level S.T).mark S.T 40).flt = 0 → p.i + 1 ≤ ((p.level S.T).mark S.T 40).i := fun z => by
    have z1 := flt_back (go_want (T := S.T) (p.level S.T) 4 [40]) z
    have := (go_want (T := S.T) (p.level S.T) 4 [40]).1
    have e : (p.level S.T).i = p.i + 1 := by
      have z2 : p.flt = 0 := h.f
      unfold PS.level at z1 ⊢
      rw [if_neg (by rw [z2]; decide)] at z1 ⊢
      split
      · rename_i q
        rw [if_pos q] at z1
        exact absurd z1 (fail_flt (by decide))
      · rfl
    show p.i + 1 ≤ ((p.level S.T).want S.T 4 [40]).i
    omega
  have h2 : Out S True (exprW S.T fac ((p.level S.T).mark S.T 40)) (exprW S.T' fac' ((p'.level S.T').mark S.T' 40)) :=
    h1.elim (fun z => sm_exprW H F g g' _ _ z (by have := hi z.f; omega)) (fun z => .inr (H.go z (go_exprW g _) (go_exprW g' _)))
  have h3 := sm_argsLoop H F g g' c (S.T.length + 1) (S.T'.length - S.T.length) _ _ 1 1 (h2.imp (fun z => ⟨z, rfl⟩) id) fun z => by
    have z1 := flt_back (go_exprW (T := S.T) g ((p.level S.T).mark S.T 40)) z
    have := (go_exprW (T := S.T) g ((p.level S.T).mark S.T 40)).1
    have := hi z1
    omega
  rw [show S.T.length + 1 + (S.T'.length - S.T.length) = S.T'.length + 1 by have := H.len; omega] at h3
  unfold callW
  dsimp only
  generalize argsLoop S.T fac c (S.T.length + 1) (exprW S.T fac ((p.level S.T).mark S.T 40)) 1 = r at h3 ⊢
  generalize argsLoop S.T' fac' c (S.T'.length + 1) (exprW S.T' fac' ((p'.level S.T').mark S.T' 40)) 1 = r' at h3 ⊢
  rcases h3 with ⟨z1, z2⟩ | z
  · rw [z2]
    have hx : Nr S.R ⟨op, if op = 9 then r.2 else 0, 0, [], (p.tok S.T).a⟩ ⟨op, if op = 9 then r.2 else 0, 0, [], (p'.tok S.T').a⟩ := ⟨rfl, rfl, rfl, rfl, ta⟩
    have hq : Out S True (if c ≠ 0 ∧ r.2 < c then r.1.mark S.T 44 else r.1) (if c ≠ 0 ∧ r.2 < c then r'.1.mark S.T' 44 else r'.1) := by
      split
      · exact out_want H z1 (by decide) [44]
      · exact .inl z1
    exact out_shut H (out_emit2 H (out_want2 H hq (by decide) [41]) hx _)
  · refine .inr (H.go z ?_ ?_)
    · have : ∀ q : PS, Go_ q ((q.mark S.T 41).emit ⟨op, if op = 9 then r.2 else 0, 0, [], (p.tok S.T).a⟩ r.2).shut := fun q => (go_want (T := S.T) q 4 [41]).trans ((go_emit _ _ _).trans (go_shut _))
      split
      · exact (go_want (T := S.T) r.1 4 [44]).trans (this _)
      · exact this _
    · have : ∀ q : PS, Go_ q ((q.mark S.T' 41).emit ⟨op, if op = 9 then r'.2 else 0, 0, [], (p'.tok S.T').a⟩ r'.2).shut := fun q => (go_want (T := S.T') q 4 [41]).trans ((go_emit _ _ _).trans (go_shut _))
      split
      · exact (go_want (T := S.T') r'.1 4 [44]).trans (this _)
      · exact this _
theorem sm_factorW (p p' : PS) (h : Co S True p p') (hm : m ≤ p.i + 1) : Out S True (factorW S.T fac p) (factorW S.T' fac' p') := by
  rcases H.tk h with t | ⟨t1, _, t3⟩
  · have e : ∀ k s, p'.is S.T' k s = p.is S.T k s := fun k s => by unfold PS.is; rw [h.f, h.f', t.k, t.t]
    have hop : ∀ {k : Nat} {s : List UInt8}, p.is S.T k s = true → (k = 1 ∨ (k = 4 ∧ (s = [40] ∨ s = [45]))) → opk (p.tok S.T) = true := fun {k s} q hq => by
      obtain ⟨_, q1, q2⟩ := is_ok p q
      unfold opk
      rw [q1, q2]
      rcases hq with rfl | ⟨rfl, rfl | rfl⟩ <;> rfl
    have nx : ∀ {k : Nat} {s : List UInt8}, p.is S.T k s = true → k ≠ 0 → Co S True p.next p'.next := fun q hk => co_next H h (by rw [(is_ok p q).2.1]; exact hk)
    have lv : ∀ {q q' : PS}, Out S True q q' → q = p.level S.T → Out S True (fac q) (fac' q') := fun {q q'} z hq => by
      rcases z with z | z
      · refine F _ _ z ?_
        have : q.i = p.i + 1 := by
          have zf := z.f
          rw [hq] at zf ⊢
          unfold PS.level at zf ⊢
          rw [if_neg (by rw [h.f]; decide)] at zf ⊢
          split
          · rename_i q
            rw [if_pos q] at zf
            exact absurd zf (fail_flt (by decide))
          · rfl
        omega
      · exact .inr (H.go z (g q) (g' q'))
    have lx : ∀ {q q' : PS}, Out S True q q' → q = p.level S.T → Out S True (exprW S.T fac q) (exprW S.T' fac' q') := fun {q q'} z hq => by
      rcases z with z | z
      · refine sm_exprW H F g g' _ _ z ?_
        have : q.i = p.i + 1 := by
          have zf := z.f
          rw [hq] at zf ⊢
          unfold PS.level at zf ⊢
          rw [if_neg (by rw [h.f]; decide)] at zf ⊢
          split
          · rename_i q
            rw [if_pos q] at zf
            exact absurd zf (fail_flt (by decide))
          · rfl
        omega
      · exact .inr (H.go z (go_exprW g q) (go_exprW g' q'))
    unfold factorW
    dsimp only
    rw [if_neg (show ¬ p.flt ≠ 0 from fun z => z h.f), if_neg (show ¬ p'.flt ≠ 0 from fun z => z h.f'), t.k, t.n, t.t]
    rw [e, e, e, e, e, e, e, e]
    by_cases q : (p.tok S.T).k = 2
    · rw [if_pos q, if_pos q]
      exact out_emit H (co_next H h (by rw [q]; decide)) (Nr.of t.a _ _ _ _) 0
    rw [if_neg q, if_neg q]
    clear q
    by_cases q : (p.tok S.T).k = 3
    · rw [if_pos q, if_pos q]
      exact out_emit H (co_next H h (by rw [q]; decide)) (Nr.of t.a _ _ _ _) 0
    rw [if_neg q, if_neg q]
    clear q
    by_cases q : p.is S.T 1 (ls "true".toUTF8) = true
    · rw [if_pos q, if_pos q]
      exact out_emit H (nx q (by decide)) (Nr.of t.a _ _ _ _) 0
    rw [if_neg q, if_neg q]
    clear q
    by_cases q : p.is S.T 1 (ls "false".toUTF8) = true
    · rw [if_pos q, if_pos q]
      exact out_emit H (nx q (by decide)) (Nr.of t.a _ _ _ _) 0
    rw [if_neg q, if_neg q]
    clear q
    by_cases q : p.is S.T 4 [45] = true
    · rw [if_pos q, if_pos q]
      exact out_shut H (out_emit2 H (lv (out_level H h (hop q (.inr ⟨rfl, .inr rfl⟩))) rfl) (Nr.of t.a _ _ _ _) 1)
    rw [if_neg q, if_neg q]
    clear q
    by_cases q : p.is S.T 4 [40] = true
    · rw [if_pos q, if_pos q]
      exact out_shut H (out_want2 H (lx (out_level H h (hop q (.inr ⟨rfl, .inl rfl⟩))) rfl) (by decide) [41])
    rw [if_neg q, if_neg q]
    clear q
    by_cases q : p.is S.T 1 (ls "cat".toUTF8) = true
    · rw [if_pos q, if_pos q]
      exact sm_callW H F g g' 9 0 p p' h (hop q (.inl rfl)) hm
    rw [if_neg q, if_neg q]
    clear q
    by_cases q : p.is S.T 1 (ls "rep".toUTF8) = true
    · rw [if_pos q, if_pos q]
      exact sm_callW H F g g' 10 2 p p' h (hop q (.inl rfl)) hm
    rw [if_neg q, if_neg q]
    clear q
    by_cases q : p.is S.T 1 (ls "len".toUTF8) = true
    · rw [if_pos q, if_pos q]
      exact sm_callW H F g g' 11 1 p p' h (hop q (.inl rfl)) hm
    rw [if_neg q, if_neg q]
    clear q
    by_cases q : p.is S.T 1 (ls "hex".toUTF8) = true
    · rw [if_pos q, if_pos q]
      exact sm_callW H F g g' 12 1 p p' h (hop q (.inl rfl)) hm
    rw [if_neg q, if_neg q]
    clear q
    exact .inr (H.bad h _ _ _ t.a (by decide))
  · have e : ∀ k s, k ≠ 0 → p.is S.T k s = false := fun k s hk => by
      cases q : p.is S.T k s with
      | false => rfl
      | true => exact absurd ((is_ok p q).2.1.symm.trans t1) hk
    have e2 : factorW S.T fac p = p.fail (p.tok S.T).a 90 := by
      unfold factorW
      dsimp only
      rw [if_neg (show ¬ p.flt ≠ 0 from fun z => z h.f), t1, if_neg (by decide), if_neg (by decide), e 1 _ (by decide), e 1 _ (by decide), e 4 _ (by decide), e 4 _ (by decide), e 1 _ (by decide), e 1 _ (by decide), e 1 _ (by decide), e 1 _ (by decide)]
      rfl
    rw [e2]
    exact .inr (t3 _ _ _ (by decide))
end
theorem go_value (T : List Tk) (p : PS) : Go_ p (p.value T) :=
  have h : Go_ p { p with nds := [], dps := [], opn := 0 } := ⟨Nat.le_refl _, fun _ => ⟨rfl, rfl, rfl⟩⟩
  h.trans (go_exprW (go_factorF _) _)
section
variable {S : Sim} (H : S.Ok)
include H
theorem sm_factorF : ∀ (f k : Nat), Fr S (S.T.length + 1 - f) (factorF S.T f) (factorF S.T' (f + k))
  | 0, _, p, p', h, hm => by
    have : p.i < S.T.length := h.inn
    omega
  | f + 1, k, p, p', h, hm => by
    rw [show f + 1 + k = f + k + 1 by omega]
    exact sm_factorW H (m := S.T.length + 1 - f) (sm_factorF f k) (go_factorF f) (go_factorF (f + k)) p p' h (by omega)
theorem sm_exprF (p p' : PS) (h : Co S True p p') : Out S True (exprF S.T p) (exprF S.T' p') := by
  unfold exprF
  rw [show S.T'.length + 1 = S.T.length + 1 + (S.T'.length - S.T.length) by have := H.len; omega]
  exact sm_exprW H (m := 0) (fun p p' h _ => sm_factorF H _ _ p p' h (by omega)) (go_factorF _) (go_factorF _) p p' h (Nat.zero_le _)
theorem sm_value (hom : S.om = 0) {p p' : PS} (h : Co S False p p') : Out S True (p.value S.T) (p'.value S.T') := by
  refine sm_exprF H _ _ ⟨h.f, h.f', h.i, h.inn, fun _ => ?_, fun _ => rfl, fun _ => .nil, fun _ => ?_⟩
  · show (0 : Int) = 0 + S.om
    omega
  · show (0 : Int) ≤ _
    omega
end
end Go.Proofs.YtipcgmaobiobbaaGreatDoor
