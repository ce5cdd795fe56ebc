/- Words on memory for rows of bytes: a slice that reads as bytes, a row of the call's own. No walk here. -/
import Derived.WalkKit
import Derived.WalkSpells
import Derived.WalkLawsBesides
import Derived.Handy
import Derived.Lib.Hide
import Derived.Lib.VarintMem
import Derived.Laws.BytesArg
import Derived.Laws.OwnMore
import Derived.Deep.Draws
import Derived.Lib.Index
import Derived.Lib.IndexLaws
import Derived.Lib.IndexBytes
import Derived.Lib.ItoaNum
namespace Go.Proofs.YtmbiompmhaiehaaDoor
open Go.RowKit
open Go.Lib (byteCells)

theorem ret_int {k : IntKind} {a b : Int} (h : a = b) : Ending.returned (.int k a) = .returned (.int k b) := by rw [h]
theorem ret_bool {a b : Bool} (h : a = b) : Ending.returned (.bool a) = .returned (.bool b) := by rw [h]
theorem Below.both {a b c : World} (h : Below a.heap.size a b) (g : Below b.heap.size b c) : Below a.heap.size a c := h.trans (g.mono h.size)
theorem Below.newN (w : World) (d : Nat) : Below w.heap.size w (w.drewN d) := ⟨rfl, rfl, rfl, Nat.le_refl _, fun _ _ => rfl⟩
theorem Below.thenN {B : Nat} {a w : World} (h : Below B a w) (n : Nat) : Below B a (w.drewN n) := ⟨h.os, h.tape, h.output, h.size, h.block⟩
theorem Below.cells {W w1 : World} (hb : Below W.heap.size W w1) : (∀ b o, b < W.heap.size → w1.cell? ⟨b, o, none⟩ = W.cell? ⟨b, o, none⟩) ∧ (∀ b o, b < W.heap.size → w1.frozen? ⟨b, o, none⟩ = W.frozen? ⟨b, o, none⟩) :=
  ⟨fun b o h => hb.cell (p := ⟨b, o, none⟩) h, fun b o h => hb.frozen (p := ⟨b, o, none⟩) h⟩

/-- At the address A stand the bytes l, below block B. -/
def Byt (w : World) (B : Nat) (A : Option Addr) (l : List UInt8) : Prop :=
  l = [] ∨ ∃ b o, A = some ⟨b, o, none⟩ ∧ b < B ∧ ∀ j (h : j < l.length), w.cell? ⟨b, o + j, none⟩ = some (.int .u8 (l[j].toNat : Nat))

section
variable {w w' : World} {B B' : Nat} {A : Option Addr} {l : List UInt8}
theorem Byt.nil : Byt w B A [] := .inl rfl
theorem Byt.at_ (h : Byt w B A l) (hl : 0 < l.length) : ∃ b o, A = some ⟨b, o, none⟩ ∧ b < B ∧ ∀ j (h : j < l.length), w.cell? ⟨b, o + j, none⟩ = some (.int .u8 (l[j].toNat : Nat)) := by
  rcases h with rfl | h
  · simp at hl
  · exact h
theorem Byt.keep (h : Byt w B A l) (hk : ∀ b o, b < B → w'.cell? ⟨b, o, none⟩ = w.cell? ⟨b, o, none⟩) : Byt w' B A l := by
  rcases h with rfl | ⟨b, o, rfl, hb, hc⟩
  · exact .inl rfl
  · exact .inr ⟨b, o, rfl, hb, fun j hj => (hk b _ hb).trans (hc j hj)⟩
theorem Byt.more (h : Byt w B A l) (hB : B ≤ B') : Byt w B' A l := by
  rcases h with rfl | ⟨b, o, rfl, hb, hc⟩
  · exact .inl rfl
  · exact .inr ⟨b, o, rfl, by omega, hc⟩
theorem Byt.below (h : Byt w B A l) (hb : Below B w w') : Byt w' B A l := h.keep fun _ _ hp => hb.cell hp
/-- the whole step: what stood below the heap's end stands there still -/
theorem Byt.then_ (h : Byt w w.heap.size A l) (hb : Below w.heap.size w w') : Byt w' w'.heap.size A l := (h.below hb).more hb.size
theorem Byt.drewN (h : Byt w B A l) (k : Nat) : Byt (w.drewN k) B A l := h
theorem Byt.take (h : Byt w B A l) (k : Nat) : Byt w B A (l.take k) := by
  rcases h with rfl | ⟨b, o, rfl, hb, hc⟩
  · exact .inl (by simp)
  · exact .inr ⟨b, o, rfl, hb, fun j hj => by
      simp only [List.length_take] at hj
      rw [List.getElem_take]; exact hc j (by omega)⟩
theorem Byt.drop (h : Byt w B A l) {k cap : Nat} (hc : l.length ≤ cap) (_hk : k ≤ l.length) : Byt w B (if cap = k then A else A.map (·.add k)) (l.drop k) := by
  rcases Nat.lt_or_ge k l.length with hl | hl
  · obtain ⟨b, o, rfl, hb, hcell⟩ := h.at_ (by omega)
    rw [if_neg (by omega)]
    refine .inr ⟨b, o + k, by simp [Addr.add_lit], hb, fun j hj => ?_⟩
    simp only [List.length_drop] at hj
    rw [List.getElem_drop, Nat.add_assoc]
    exact hcell (k + j) (by omega)
  · exact .inl (by rw [List.drop_eq_nil_of_le hl])

theorem byteCells_get (l : List UInt8) (j : Nat) (h : j < l.length) : (byteCells l)[j]? = some (.int .u8 (l[j].toNat : Nat)) := by
  simp [byteCells, List.getElem?_eq_getElem h]
theorem byteCells_one (l : List UInt8) : ∀ v ∈ byteCells l, v.oneCell' = true := by
  intro v hv
  obtain ⟨b, _, rfl⟩ := List.mem_map.1 hv
  rfl

/-- What a row of the call's own holds reads as its bytes. -/
theorem Byt.own {base : Nat} {e : TypeId} {n c : Nat} (h : w.ownsRow base e 1 (.slice A n c) l.length (byteCells l)) : n = l.length ∧ Byt w w.heap.size A l := by
  rcases h.2 with ⟨hv, hx⟩ | ⟨g, cap, cur, hv, hb, hg, hnc, hm, htk⟩
  · injection hv with h1 h2 h3
    exact ⟨h2.trans hx.symm, .inl (List.eq_nil_of_length_eq_zero hx)⟩
  · injection hv with h1 h2 h3
    refine ⟨h2, ?_⟩
    rcases Nat.eq_zero_or_pos l.length with h0 | h0
    · exact .inl (List.eq_nil_of_length_eq_zero h0)
    · subst h1
      refine .inr ⟨g, 0, rfl, (Array.getElem?_eq_some_iff.1 hg).1, fun j hj => ?_⟩
      have := h.cells (g := g) rfl j _ (byteCells_get l j hj)
      simpa [Addr.add_lit] using this

/-- The string of the bytes. -/
def str (l : List UInt8) : ByteArray := ⟨l.toArray⟩
theorem str_list (a : List UInt8) : (str a).toList = a := by rw [ByteArray.toList_eq]; rfl
theorem str_eq (a b : List UInt8) : ((str a).toList == (str b).toList) = decide (a = b) := by
  rw [str_list, str_list]
  by_cases h : a = b
  · simp [h]
  · simp [h]

theorem run_str {P : Program} (h : Byt w B A l) (src e dst : TypeId) (hs : P.underlying src = some (.slice e)) (he : P.underlying e = some (.int .u8)) (hd : P.underlying dst = some .string) (c : Nat) :
    (convert src dst (.slice A l.length c)).run P w = .ok (.string (str l)) w := by
  rcases Nat.eq_zero_or_pos l.length with h0 | h0
  · have hl := List.eq_nil_of_length_eq_zero h0
    subst hl
    rcases A with _ | a
    · exact run_convert_bytes_nil w src e hs he _ _ dst hd
    · have hc : (loadCells a 0).run P w = .ok (([] : List Int).map (Value.int .u8)).toArray w := by
        have := run_loadCells_list (P := P) w a [] (fun j v hj => by simp at hj)
        simpa using this
      rw [run_convert_bytes_string w src dst e _ _ c hs he hd]
      exact run_bytesToString w a 0 c [] hc
  · obtain ⟨b, o, rfl, _, hc⟩ := h.at_ h0
    have := run_convert_bytes_arg (P := P) w src e hs he b o l.length c (l.map fun x => (x.toNat : Int)) (by simp) (fun i hi => by
      rw [hc i hi]; simp [List.getD, List.getElem?_eq_getElem hi]) dst hd
    rw [this]
    simp [strOfNums, str, Function.comp_def]
end

end Go.Proofs.YtmbiompmhaiehaaDoor
/- Plain functions of layer 7: where a text stands in another, what is ahead and behind, texts put together, repeated, read from digits of base 16. No walk here. -/
namespace Go.Proofs.YtmbiompmhaiehaaDoor
open Go.RowKit

/-- the bytes of a text -/
abbrev ls (s : ByteArray) : List UInt8 := s.data.toList

theorem ls_size (s : ByteArray) : (ls s).length = s.size := (Lib.size_eq s).symm
theorem str_ls (s : ByteArray) : str (ls s) = s := by
  obtain ⟨d⟩ := s
  simp [str, ls]
theorem ls_str (l : List UInt8) : ls (str l) = l := by simp [ls, str]
theorem str_size (l : List UInt8) : (str l).size = l.length := by rw [← ls_size, ls_str]
theorem ls_inj {a b : ByteArray} (h : ls a = ls b) : a = b := by rw [← str_ls a, ← str_ls b, h]
theorem str_inj {a b : List UInt8} (h : str a = str b) : a = b := by rw [← ls_str a, ← ls_str b, h]
theorem beq_ls (a b : ByteArray) : (a.toList == b.toList) = decide (a = b) := by
  have := str_eq (ls a) (ls b)
  rw [str_ls, str_ls] at this
  rw [this]
  by_cases h : a = b
  · subst h; simp
  · rw [decide_eq_false h, decide_eq_false fun e => h (ls_inj e)]
theorem ls_extract (s : ByteArray) (a b : Nat) : ls (s.extract a b) = (((ls s).drop a).take (b - a)) := Lib.extract_data s a b
theorem ls_append (a b : ByteArray) : ls (a ++ b) = ls a ++ ls b := by simp [ls]

/-- where sep stands in s first -/
def ix (s sep : ByteArray) : Int := if sep.size = 0 then -1 else Lib.index (ls s) (ls sep)

/-- sep stands at k -/
def At (s sep : ByteArray) (k : Nat) : Prop := k + sep.size ≤ s.size ∧ s.extract k (k + sep.size) = sep

theorem occ_at {s sep : ByteArray} (h0 : sep.size ≠ 0) (k : Nat) : Lib.occAt (ls s) (ls sep) k = true ↔ At s sep k := by
  constructor
  · intro h
    rcases Lib.occAt_room h with hr | hr
    · rw [ls_size, ls_size] at hr
      refine ⟨hr, ?_⟩
      rw [Lib.occ_of_piece s sep k hr, beq_ls] at h
      simpa using h
    · exact absurd (by rw [← ls_size, hr]; rfl) h0
  · rintro ⟨hr, he⟩
    rw [Lib.occ_of_piece s sep k hr, beq_ls, he]
    simp

/-- it stands at k, and nowhere earlier -/
def First (s sep : ByteArray) (k : Nat) : Prop := At s sep k ∧ ∀ j, j < k → ¬ At s sep j

theorem ix_empty {s sep : ByteArray} (h : sep.size = 0) : ix s sep = -1 := if_pos h
theorem ix_first {s sep : ByteArray} (h0 : sep.size ≠ 0) {k : Nat} (h : First s sep k) : ix s sep = k := by
  unfold ix
  rw [if_neg h0]
  refine Lib.index_first (by rw [ls_size]; have := h.1.1; omega) ((occ_at h0 k).2 h.1) fun j hj => ?_
  cases hc : Lib.occAt (ls s) (ls sep) j with
  | false => rfl
  | true => exact absurd ((occ_at h0 j).1 hc) (h.2 j hj)
theorem ix_none {s sep : ByteArray} (h : ∀ k, ¬ At s sep k) : ix s sep = -1 := by
  by_cases h0 : sep.size = 0
  · exact ix_empty h0
  · unfold ix
    rw [if_neg h0]
    refine Lib.index_none fun j _ => ?_
    cases hc : Lib.occAt (ls s) (ls sep) j with
    | false => rfl
    | true => exact absurd ((occ_at h0 j).1 hc) (h j)

theorem least {p : Nat → Prop} (h : ∃ k, p k) : ∃ k, p k ∧ ∀ j, j < k → ¬ p j := by
  obtain ⟨k, hk⟩ := h
  induction k using Nat.strongRecOn with
  | ind k ih =>
    by_cases hj : ∃ j, j < k ∧ p j
    · obtain ⟨j, hlt, hp⟩ := hj
      exact ih j hlt hp
    · exact ⟨k, hk, fun j hlt hp => hj ⟨j, hlt, hp⟩⟩

theorem ix_cases (s sep : ByteArray) : (ix s sep = -1 ∧ (sep.size = 0 ∨ ∀ k, ¬ At s sep k)) ∨ (∃ k : Nat, ix s sep = k ∧ sep.size ≠ 0 ∧ First s sep k) := by
  by_cases h0 : sep.size = 0
  · exact .inl ⟨ix_empty h0, .inl h0⟩
  · by_cases h : ∃ k, At s sep k
    · obtain ⟨k, hk⟩ := least h
      exact .inr ⟨k, ix_first h0 hk, h0, hk⟩
    · have hn : ∀ k, ¬ At s sep k := fun k hk => h ⟨k, hk⟩
      exact .inl ⟨ix_none hn, .inr hn⟩

/-- what is ahead, what is behind -/
def hd (s sep : ByteArray) : ByteArray := if ix s sep = -1 then s else s.extract 0 (ix s sep).toNat
def tl (s sep : ByteArray) : ByteArray := if ix s sep = -1 then ByteArray.empty else s.extract ((ix s sep).toNat + sep.size) s.size

theorem hd_none {s sep : ByteArray} (h : ix s sep = -1) : hd s sep = s := if_pos h
theorem tl_none {s sep : ByteArray} (h : ix s sep = -1) : tl s sep = ByteArray.empty := if_pos h
theorem hd_at {s sep : ByteArray} {k : Nat} (h : ix s sep = k) : hd s sep = s.extract 0 k := by
  unfold hd
  rw [if_neg (by omega), h]
  rfl
theorem tl_at {s sep : ByteArray} {k : Nat} (h : ix s sep = k) : tl s sep = s.extract (k + sep.size) s.size := by
  unfold tl
  rw [if_neg (by omega), h]
  rfl

/-- texts one behind the other -/
def catL (xs : List ByteArray) : List UInt8 := (xs.map ls).flatten
def cat (xs : List ByteArray) : ByteArray := str (catL xs)
theorem catL_cons (x : ByteArray) (r : List ByteArray) : catL (x :: r) = ls x ++ catL r := rfl
theorem catL_nil : catL [] = [] := rfl
theorem catL_append (a b : List ByteArray) : catL (a ++ b) = catL a ++ catL b := by simp [catL]
def lens (xs : List ByteArray) : Nat := (catL xs).length
theorem lens_cons (x : ByteArray) (r : List ByteArray) : lens (x :: r) = x.size + lens r := by
  unfold lens
  rw [catL_cons, List.length_append, ls_size]
theorem catL_take (xs : List ByteArray) (k : Nat) (h : k < xs.length) : catL (xs.take (k + 1)) = catL (xs.take k) ++ ls xs[k] := by
  rw [List.take_succ_eq_append_getElem h, catL_append]
  simp [catL]
theorem lens_take (xs : List ByteArray) (k : Nat) (h : k < xs.length) : lens (xs.take (k + 1)) = lens (xs.take k) + xs[k].size := by
  unfold lens
  rw [catL_take xs k h, List.length_append, ls_size]
theorem lens_take_le (xs : List ByteArray) (k : Nat) : lens (xs.take k) ≤ lens xs := by
  have h : catL xs = catL (xs.take k) ++ catL (xs.drop k) := by rw [← catL_append, List.take_append_drop]
  unfold lens
  rw [h, List.length_append]
  omega
theorem cat_one (s : ByteArray) : cat [s] = s := by unfold cat; rw [catL_cons, catL_nil, List.append_nil, str_ls]
theorem cat_three (a b c : ByteArray) : cat [a, b, c] = a ++ b ++ c := by
  apply ls_inj
  unfold cat
  rw [ls_str, ls_append, ls_append, catL_cons, catL_cons, catL_cons, catL_nil, List.append_nil, List.append_assoc]
theorem lens_three (a b c : ByteArray) : lens [a, b, c] = a.size + b.size + c.size := by
  rw [lens_cons, lens_cons, lens_cons]
  show _ + (_ + (_ + 0)) = _
  omega

/-- what was cut, put together again -/
theorem halves {s sep : ByteArray} {k : Nat} (h : At s sep k) : s.extract 0 k ++ sep ++ s.extract (k + sep.size) s.size = s := by
  apply ls_inj
  have h1 := h.1
  have h2 := congrArg ls h.2
  rw [ls_extract] at h2
  rw [ls_append, ls_append, ls_extract, ls_extract]
  rw [show k + sep.size - k = sep.size by omega] at h2
  rw [← h2]
  have e : (ls s).drop (k + sep.size) = ((ls s).drop k).drop sep.size := by rw [List.drop_drop]
  rw [List.take_of_length_le (l := (ls s).drop (k + sep.size)) (by rw [List.length_drop, ls_size]; omega), e, List.append_assoc, List.take_append_drop, List.drop_zero, Nat.sub_zero, List.take_append_drop]

/-- s n times -/
def rpL (s : ByteArray) (n : Nat) : List UInt8 := catL (List.replicate n s)
def rp (s : ByteArray) (n : Nat) : ByteArray := str (rpL s n)
theorem rpL_len (s : ByteArray) (n : Nat) : (rpL s n).length = n * s.size := by
  induction n with
  | zero => simp [rpL, catL]
  | succ n ih =>
    unfold rpL at ih ⊢
    rw [List.replicate_succ, catL_cons, List.length_append, ls_size, ih, Nat.add_mul]
    omega
theorem rpL_succ (s : ByteArray) (n : Nat) : rpL s (n + 1) = rpL s n ++ ls s := by
  unfold rpL
  rw [List.replicate_succ', catL_append, catL_cons, catL_nil, List.append_nil]
theorem rpL_add (s : ByteArray) (n m : Nat) : rpL s (n + m) = rpL s n ++ rpL s m := by
  unfold rpL
  rw [← List.replicate_append_replicate, catL_append]
theorem rp_size (s : ByteArray) (n : Nat) : (rp s n).size = n * s.size := by unfold rp; rw [str_size, rpL_len]
theorem rp_add (s : ByteArray) (n m : Nat) : rp s (n + m) = rp s n ++ rp s m := by
  apply ls_inj
  unfold rp
  rw [ls_append, ls_str, ls_str, ls_str, rpL_add]
theorem rp_empty {s : ByteArray} (h : s.size = 0) (n : Nat) : rp s n = ByteArray.empty := by
  apply ls_inj
  unfold rp
  rw [ls_str]
  have : (rpL s n).length = 0 := by rw [rpL_len, h, Nat.mul_zero]
  rw [List.eq_nil_of_length_eq_zero this]
  rfl
theorem rp_zero (s : ByteArray) : rp s 0 = ByteArray.empty := rfl

/-- what Rep answers -/
def repT (s : ByteArray) (n : Nat) : ByteArray := if n * s.size ≤ 4096 then rp s n else ByteArray.empty
def repE (s : ByteArray) (n : Nat) : Int := if n * s.size ≤ 4096 then 0 else 2

/-- what a digit says; 16 of none -/
def dv (c : Nat) : Nat := if 48 ≤ c ∧ c ≤ 57 then c - 48 else if 97 ≤ c ∧ c ≤ 102 then c - 87 else if 65 ≤ c ∧ c ≤ 70 then c - 55 else 16
theorem dv_le (c : Nat) : dv c ≤ 16 := by
  unfold dv
  split
  · omega
  · split
    · omega
    · split <;> omega

/-- the bytes that digits say -/
def hexL : List UInt8 → Option (List UInt8)
  | [] => some []
  | [_] => none
  | a :: b :: r => if dv a.toNat = 16 ∨ dv b.toNat = 16 then none else (hexL r).map fun t => UInt8.ofNat (16 * dv a.toNat + dv b.toNat) :: t
theorem hexL_odd : ∀ {l : List UInt8}, l.length % 2 ≠ 0 → hexL l = none
  | [], h => absurd rfl h
  | [_], _ => rfl
  | a :: b :: r, h => by
    have ih : hexL r = none := hexL_odd (by simp only [List.length_cons] at h; omega)
    unfold hexL
    rw [ih]
    simp
theorem hexL_len : ∀ {l t : List UInt8}, hexL l = some t → 2 * t.length = l.length
  | [], t, h => by
    have : [] = t := Option.some.inj h
    subst this; rfl
  | [_], t, h => by cases h
  | a :: b :: r, t, h => by
    unfold hexL at h
    split at h
    · cases h
    · obtain ⟨u, hu, rfl⟩ := Option.map_eq_some_iff.1 h
      have := hexL_len hu
      simp only [List.length_cons]
      omega
/-- one pair more -/
theorem hexL_drop (l : List UInt8) (k : Nat) (h : k + 1 < l.length) : hexL (l.drop k) = if dv (l[k]'(by omega)).toNat = 16 ∨ dv l[k + 1].toNat = 16 then none else (hexL (l.drop (k + 2))).map fun t => UInt8.ofNat (16 * dv (l[k]'(by omega)).toNat + dv l[k + 1].toNat) :: t := by
  rw [List.drop_eq_getElem_cons (by omega), List.drop_eq_getElem_cons h]
  rfl

/-- what Hex answers -/
def hexT (s : ByteArray) : ByteArray := match hexL (ls s) with | some t => str t | none => ByteArray.empty
def hexE (s : ByteArray) : Int := match hexL (ls s) with | some _ => 0 | none => 111
theorem hex_some {s : ByteArray} {t : List UInt8} (h : hexL (ls s) = some t) : hexT s = str t ∧ hexE s = 0 := by unfold hexT hexE; rw [h]; exact ⟨rfl, rfl⟩
theorem hex_none {s : ByteArray} (h : hexL (ls s) = none) : hexT s = ByteArray.empty ∧ hexE s = 111 := by unfold hexT hexE; rw [h]; exact ⟨rfl, rfl⟩
end Go.Proofs.YtmbiompmhaiehaaDoor
/- Plain functions of layer 8: blanks and remarks, tokens, the tokens of a text, a text written as one. No walk here. -/
namespace Go.Proofs.YtmbiompmhaiehaaDoor
open Go.RowKit

def isBl (c : UInt8) : Bool := decide (c.toNat = 32 ∨ c.toNat = 9 ∨ c.toNat = 10 ∨ c.toNat = 13)
def isD (c : UInt8) : Bool := decide (48 ≤ c.toNat ∧ c.toNat ≤ 57)
def isL (c : UInt8) : Bool := decide (c.toNat = 95 ∨ (97 ≤ c.toNat ∧ c.toNat ≤ 122) ∨ (65 ≤ c.toNat ∧ c.toNat ≤ 90))
def isW (c : UInt8) : Bool := isL c || isD c
def isM (c : UInt8) : Bool := decide (c.toNat = 123 ∨ c.toNat = 125 ∨ c.toNat = 40 ∨ c.toNat = 41 ∨ c.toNat = 58 ∨ c.toNat = 59 ∨ c.toNat = 44 ∨ c.toNat = 61 ∨ c.toNat = 43 ∨ c.toNat = 45 ∨ c.toNat = 42)

/-- how many bytes of blanks and remarks stand ahead; the first argument: whether a remark is open -/
def skipS : Bool → List UInt8 → Nat
  | _, [] => 0
  | m, c :: r => if m = true ∧ c.toNat ≠ 10 then skipS true r + 1 else if isBl c then skipS false r + 1 else if c.toNat = 35 then skipS true r + 1 else 0
/-- whether a remark is open behind them -/
def endS : Bool → List UInt8 → Bool
  | m, [] => m
  | m, c :: r => if m = true ∧ c.toNat ≠ 10 then endS true r else if isBl c then endS false r else if c.toNat = 35 then endS true r else false

def wordN (l : List UInt8) : Nat := (l.takeWhile isW).length
def numN (l : List UInt8) : Nat := (l.takeWhile isD).length
def numV (l : List UInt8) : Nat := l.foldl (fun x c => x * 10 + (c.toNat - 48)) 0

/-- what stands behind an opening quote -/
inductive Tx where
  | done (l : List UInt8) (n : Nat)
  | esc (o : Nat)
  | wide
def Tx.push (c : UInt8) (k : Nat) : Tx → Tx
  | .done l n => .done (c :: l) (n + k)
  | .esc o => .esc (o + k)
  | .wide => .wide
def txS : List UInt8 → Tx
  | [] => .wide
  | c :: r =>
    if c.toNat = 10 then .wide
    else if c.toNat = 34 then .done [] 1
    else if c.toNat = 92 then
      match r with
      | [] => .esc 0
      | d :: r2 =>
        if d.toNat = 92 ∨ d.toNat = 34 then (txS r2).push d 2
        else if d.toNat = 110 then (txS r2).push 10 2
        else if d.toNat = 116 then (txS r2).push 9 2
        else if d.toNat = 120 then
          match r2 with
          | [] => .esc 0
          | [_] => .esc 0
          | a :: b :: r3 => if dv a.toNat = 16 ∨ dv b.toNat = 16 then .esc 0 else (txS r3).push (UInt8.ofNat (16 * dv a.toNat + dv b.toNat)) 4
        else .esc 0
    else (txS r).push c 1

/-- what the escape stands for whose backslash stands ahead of r, and how many bytes of r it has -/
def escD (d : UInt8) (r : List UInt8) : Option (UInt8 × Nat) :=
  if d.toNat = 92 ∨ d.toNat = 34 then some (d, 1)
  else if d.toNat = 110 then some (10, 1)
  else if d.toNat = 116 then some (9, 1)
  else if d.toNat = 120 then
    match r with
    | a :: b :: _ => if dv a.toNat = 16 ∨ dv b.toNat = 16 then none else some (UInt8.ofNat (16 * dv a.toNat + dv b.toNat), 3)
    | _ => none
  else none
def escX : List UInt8 → Option (UInt8 × Nat)
  | [] => none
  | d :: r => escD d r

theorem skip_cons (m : Bool) (c : UInt8) (r : List UInt8) : skipS m (c :: r) = if m = true ∧ c.toNat ≠ 10 then skipS true r + 1 else if isBl c then skipS false r + 1 else if c.toNat = 35 then skipS true r + 1 else 0 := rfl
theorem end_cons (m : Bool) (c : UInt8) (r : List UInt8) : endS m (c :: r) = if m = true ∧ c.toNat ≠ 10 then endS true r else if isBl c then endS false r else if c.toNat = 35 then endS true r else false := rfl
theorem tx_nil : txS [] = .wide := rfl
theorem tx_line {c : UInt8} (r : List UInt8) (h : c.toNat = 10) : txS (c :: r) = .wide := by unfold txS; rw [if_pos h]
theorem tx_close {c : UInt8} (r : List UInt8) (h : c.toNat = 34) : txS (c :: r) = .done [] 1 := by unfold txS; rw [if_neg (by omega), if_pos h]
theorem tx_plain {c : UInt8} (r : List UInt8) (h1 : c.toNat ≠ 10) (h2 : c.toNat ≠ 34) (h3 : c.toNat ≠ 92) : txS (c :: r) = (txS r).push c 1 := by
  conv => lhs; unfold txS
  rw [if_neg h1, if_neg h2, if_neg h3]
theorem tx_esc {c : UInt8} (r : List UInt8) (h : c.toNat = 92) : txS (c :: r) = match escX r with | none => .esc 0 | some (x, k) => (txS (r.drop k)).push x (k + 1) := by
  conv => lhs; unfold txS
  rw [if_neg (by omega), if_neg (by omega), if_pos h]
  cases r with
  | nil => rfl
  | cons d r2 =>
    show _ = match escD d r2 with | none => _ | some (x, k) => _
    unfold escD
    dsimp only
    split
    · rfl
    · split
      · rfl
      · split
        · rfl
        · split
          · cases r2 with
            | nil => rfl
            | cons a r3 =>
              cases r3 with
              | nil => rfl
              | cons b r4 =>
                dsimp only
                split <;> rfl
          · rfl
theorem escX_len {r : List UInt8} {x : UInt8} {k : Nat} (h : escX r = some (x, k)) : 1 ≤ k ∧ k ≤ r.length := by
  cases r with
  | nil => cases h
  | cons d r2 =>
    change escD d r2 = _ at h
    unfold escD at h
    simp only [List.length_cons]
    split at h
    · simp only [Option.some.injEq, Prod.mk.injEq] at h; omega
    · split at h
      · simp only [Option.some.injEq, Prod.mk.injEq] at h; omega
      · split at h
        · simp only [Option.some.injEq, Prod.mk.injEq] at h; omega
        · split at h
          · split at h
            · split at h
              · cases h
              · simp only [Option.some.injEq, Prod.mk.injEq] at h
                simp only [List.length_cons]; omega
            · cases h
          · cases h
theorem escX_join {r : List UInt8} {x : UInt8} {k : Nat} (h : escX r = some (x, k)) (y : List UInt8) : escX (r.take k ++ y) = some (x, k) := by
  cases r with
  | nil => cases h
  | cons d r2 =>
    have hk := escX_len h
    obtain ⟨j, rfl⟩ : ∃ j, k = j + 1 := ⟨k - 1, by omega⟩
    rw [List.take_succ_cons, List.cons_append]
    change escD d r2 = _ at h
    show escD d _ = _
    unfold escD at h ⊢
    split at h
    · rename_i q; rw [if_pos q]; exact h
    · rename_i q; rw [if_neg q]
      split at h
      · rename_i q; rw [if_pos q]; exact h
      · rename_i q; rw [if_neg q]
        split at h
        · rename_i q; rw [if_pos q]; exact h
        · rename_i q; rw [if_neg q]
          split at h
          · rename_i q; rw [if_pos q]
            split at h
            · split at h
              · cases h
              · rename_i a b r4 q2
                have h' := h
                simp only [Option.some.injEq, Prod.mk.injEq] at h'
                obtain rfl : j = 2 := by omega
                rw [List.take_succ_cons, List.take_succ_cons, List.take_zero]
                simp only [List.cons_append, List.nil_append]
                rw [if_neg q2]; exact h
            · cases h
          · cases h
/-- an escape that is none is none with a newline behind it -/
theorem escX_none {r : List UInt8} (h : escX r = none) (m : List UInt8) {n : UInt8} (hn : n.toNat = 10) : escX (r ++ n :: m) = none := by
  have d16 : dv n.toNat = 16 := by rw [hn]; rfl
  cases r with
  | nil =>
    rw [List.nil_append]
    show escD n m = none
    unfold escD
    rw [if_neg (by omega), if_neg (by omega), if_neg (by omega), if_neg (by omega)]
  | cons d r2 =>
    rw [List.cons_append]
    change escD d r2 = _ at h
    show escD d _ = _
    unfold escD at h ⊢
    split at h
    · cases h
    · rename_i q; rw [if_neg q]
      split at h
      · cases h
      · rename_i q; rw [if_neg q]
        split at h
        · cases h
        · rename_i q; rw [if_neg q]
          split at h
          · rename_i q; rw [if_pos q]
            match r2, h with
            | [], _ =>
              cases m with
              | nil => rfl
              | cons b m2 => simp only [List.nil_append]; rw [if_pos (.inl d16)]
            | [a], _ => simp only [List.cons_append, List.nil_append]; rw [if_pos (.inr d16)]
            | a :: b :: r4, h =>
              simp only [List.cons_append]
              dsimp only at h
              split at h
              · rename_i q2; rw [if_pos q2]
              · cases h
          · rename_i q; rw [if_neg q]

/-- a token ahead, or its fault -/
inductive TR where
  | tok (k : Nat) (t : List UInt8) (n : Nat) (len : Nat)
  | bad (o : Nat) (e : Nat)
def tokL : List UInt8 → TR
  | [] => .bad 0 80
  | c :: r =>
    if isL c then (if 64 < wordN (c :: r) then .bad 0 111 else .tok 1 ((c :: r).take (wordN (c :: r))) 0 (wordN (c :: r)))
    else if isD c then (if 18446744073709551615 < numV ((c :: r).take (numN (c :: r))) then .bad 0 111 else .tok 2 [] (numV ((c :: r).take (numN (c :: r)))) (numN (c :: r)))
    else if c.toNat = 34 then
      match txS r with
      | .done l n => .tok 3 l 0 (n + 1)
      | .esc o => .bad (o + 1) 82
      | .wide => .bad 0 81
    else if isM c then .tok 4 [c] 0 1
    else .bad 0 80

/-- a token with its place -/
structure Tk where
  k : Nat
  t : List UInt8
  n : Nat
  a : Nat
  e : Nat
deriving DecidableEq
inductive LR where
  | ok (l : List Tk)
  | bad (at_ : Nat) (e : Nat)
deriving DecidableEq
def LR.push (x : Tk) : LR → LR
  | .ok l => .ok (x :: l)
  | .bad a e => .bad a e
def LR.pre (l : List Tk) : LR → LR
  | .ok r => .ok (l ++ r)
  | .bad a e => .bad a e
theorem LR.pre_nil (x : LR) : x.pre [] = x := by cases x <;> rfl
theorem LR.pre_push (l : List Tk) (t : Tk) (x : LR) : (x.push t).pre l = x.pre (l ++ [t]) := by cases x <;> simp [LR.push, LR.pre]

def endTk (n : Nat) : Tk := ⟨0, [], 0, n, n⟩
/-- the tokens of what stands from place off on -/
def lexF : Nat → List UInt8 → Nat → LR
  | 0, _, off => .ok [endTk off]
  | f + 1, l, off =>
    if skipS false l = l.length then .ok [endTk (off + l.length)]
    else match tokL (l.drop (skipS false l)) with
      | .bad o e => .bad (off + skipS false l + o) e
      | .tok k t n len => (lexF f (l.drop (skipS false l + len)) (off + skipS false l + len)).push ⟨k, t, n, off + skipS false l, off + skipS false l + len⟩
def lexL (l : List UInt8) (off : Nat) : LR := lexF (l.length + 1) l off

theorem skipS_le (m : Bool) (l : List UInt8) : skipS m l ≤ l.length := by
  induction l generalizing m with
  | nil => exact Nat.le_refl _
  | cons c r ih =>
    unfold skipS
    simp only [List.length_cons]
    split
    · have := ih true; omega
    · split
      · have := ih false; omega
      · split
        · have := ih true; omega
        · omega

theorem Tx.push_done {c : UInt8} {k : Nat} {x : Tx} {l : List UInt8} {n : Nat} (h : x.push c k = .done l n) : ∃ l' n', x = .done l' n' ∧ l = c :: l' ∧ n = n' + k := by
  cases x <;> simp [Tx.push] at h
  exact ⟨_, _, rfl, h.1.symm, h.2.symm⟩
theorem Tx.push_esc {c : UInt8} {k o : Nat} {x : Tx} (h : x.push c k = .esc o) : ∃ o', x = .esc o' ∧ o = o' + k := by
  cases x <;> simp [Tx.push] at h
  exact ⟨_, rfl, h.symm⟩
theorem Tx.push_wide {c : UInt8} {k : Nat} {x : Tx} (h : x.push c k = .wide) : x = .wide := by
  cases x <;> simp [Tx.push] at h
  rfl

theorem txS_len (l : List UInt8) {t : List UInt8} {n : Nat} (h : txS l = .done t n) : 1 ≤ n ∧ n ≤ l.length := by
  match l, h with
  | [], h => cases h
  | c :: r, h =>
    by_cases h1 : c.toNat = 10
    · rw [tx_line r h1] at h; cases h
    · by_cases h2 : c.toNat = 34
      · rw [tx_close r h2] at h
        simp only [Tx.done.injEq] at h
        simp only [List.length_cons]; omega
      · by_cases h3 : c.toNat = 92
        · rw [tx_esc r h3] at h
          split at h
          · cases h
          · rename_i x k he
            have hk := escX_len he
            obtain ⟨l', n', e1, _, e3⟩ := Tx.push_done h
            have := txS_len (r.drop k) e1
            rw [List.length_drop] at this
            simp only [List.length_cons]; omega
        · rw [tx_plain r h1 h2 h3] at h
          obtain ⟨l', n', e1, _, e3⟩ := Tx.push_done h
          have := txS_len r e1
          simp only [List.length_cons]; omega
termination_by l.length
decreasing_by
  all_goals (simp only [List.length_cons, List.length_drop]; omega)

theorem wordN_le (l : List UInt8) : wordN l ≤ l.length := by unfold wordN; exact (List.takeWhile_prefix _).length_le
theorem numN_le (l : List UInt8) : numN l ≤ l.length := by unfold numN; exact (List.takeWhile_prefix _).length_le
theorem wordN_pos {c : UInt8} {r : List UInt8} (h : isL c = true) : 1 ≤ wordN (c :: r) := by
  unfold wordN
  rw [List.takeWhile_cons_of_pos (by unfold isW; rw [h]; rfl)]
  simp
theorem numN_pos {c : UInt8} {r : List UInt8} (h : isD c = true) : 1 ≤ numN (c :: r) := by
  unfold numN
  rw [List.takeWhile_cons_of_pos h]
  simp

theorem tokL_len {l t : List UInt8} {k n len : Nat} (h : tokL l = .tok k t n len) : 1 ≤ len ∧ len ≤ l.length := by
  cases l with
  | nil => cases h
  | cons c r =>
    simp only [tokL] at h
    split at h
    · rename_i hL
      split at h
      · cases h
      · simp only [TR.tok.injEq] at h
        obtain ⟨_, _, _, rfl⟩ := h
        exact ⟨wordN_pos hL, wordN_le _⟩
    · split at h
      · rename_i hD
        split at h
        · cases h
        · simp only [TR.tok.injEq] at h
          obtain ⟨_, _, _, rfl⟩ := h
          exact ⟨numN_pos hD, numN_le _⟩
      · split at h
        · split at h
          · rename_i h1
            simp only [TR.tok.injEq] at h
            obtain ⟨_, _, _, rfl⟩ := h
            have := txS_len r h1
            simp only [List.length_cons]; omega
          · cases h
          · cases h
        · split at h
          · simp only [TR.tok.injEq] at h
            obtain ⟨_, _, _, rfl⟩ := h
            simp
          · cases h

/-- what is left over gives the same at any greater count -/
theorem lexF_more (f : Nat) : ∀ (l : List UInt8) (off g : Nat), l.length < f → f ≤ g → lexF g l off = lexF f l off := by
  induction f with
  | zero => intro l off g h; omega
  | succ f ih =>
    intro l off g hf hg
    obtain ⟨g, rfl⟩ : ∃ g', g = g' + 1 := ⟨g - 1, by omega⟩
    unfold lexF
    split
    · rfl
    · split
      · rfl
      · rename_i k t n len h
        have hl := tokL_len h
        rw [List.length_drop] at hl
        rw [ih _ _ g (by rw [List.length_drop]; omega) (by omega)]

theorem lexL_done {l : List UInt8} {off : Nat} (h : skipS false l = l.length) : lexL l off = .ok [endTk (off + l.length)] := by
  unfold lexL lexF
  rw [if_pos h]
theorem lexL_bad {l : List UInt8} {off o e : Nat} (h0 : skipS false l ≠ l.length) (h : tokL (l.drop (skipS false l)) = .bad o e) : lexL l off = .bad (off + skipS false l + o) e := by
  unfold lexL lexF
  rw [if_neg h0, h]
theorem lexL_tok {l : List UInt8} {off k n len : Nat} {t : List UInt8} (h0 : skipS false l ≠ l.length) (h : tokL (l.drop (skipS false l)) = .tok k t n len) :
    lexL l off = (lexL (l.drop (skipS false l + len)) (off + skipS false l + len)).push ⟨k, t, n, off + skipS false l, off + skipS false l + len⟩ := by
  have hl := tokL_len h
  rw [List.length_drop] at hl
  have hs := skipS_le false l
  unfold lexL
  conv => lhs; unfold lexF
  rw [if_neg h0, h]
  dsimp only
  rw [lexF_more ((l.drop (skipS false l + len)).length + 1) _ _ l.length (by omega) (by rw [List.length_drop]; omega)]
end Go.Proofs.YtmbiompmhaiehaaDoor
/- Laws of blanks and tokens: what stands ahead and behind. No walk here. -/
namespace Go.Proofs.YtmbiompmhaiehaaDoor
open Go.RowKit

theorem skip_append {m : Bool} {a : List UInt8} (b : List UInt8) (h : skipS m a = a.length) : skipS m (a ++ b) = a.length + skipS (endS m a) b := by
  induction a generalizing m with
  | nil => simp [endS]
  | cons c r ih =>
    rw [List.cons_append, skip_cons, end_cons]
    rw [skip_cons] at h
    simp only [List.length_cons] at h ⊢
    split at h
    · rename_i q
      rw [if_pos q, if_pos q, ih (by omega)]; omega
    · rename_i q
      rw [if_neg q, if_neg q]
      split at h
      · rename_i q2
        rw [if_pos q2, if_pos q2, ih (by omega)]; omega
      · rename_i q2
        rw [if_neg q2, if_neg q2]
        split at h
        · rename_i q3
          rw [if_pos q3, if_pos q3, ih (by omega)]; omega
        · omega
theorem skip_part {m : Bool} {a : List UInt8} (b : List UInt8) (h : skipS m a ≠ a.length) : skipS m (a ++ b) = skipS m a := by
  induction a generalizing m with
  | nil => exact absurd rfl h
  | cons c r ih =>
    rw [List.cons_append, skip_cons, skip_cons]
    rw [skip_cons] at h
    simp only [List.length_cons] at h
    split
    · rename_i q
      rw [if_pos q] at h
      rw [ih (by omega)]
    · rename_i q
      rw [if_neg q] at h
      split
      · rename_i q2
        rw [if_pos q2] at h
        rw [ih (by omega)]
      · rename_i q2
        rw [if_neg q2] at h
        split
        · rename_i q3
          rw [if_pos q3] at h
          rw [ih (by omega)]
        · rfl
theorem skip_take (m : Bool) (l : List UInt8) : skipS m (l.take (skipS m l)) = skipS m l := by
  have hle := skipS_le m l
  have hl : (l.take (skipS m l)).length = skipS m l := by rw [List.length_take]; omega
  by_cases h : skipS m (l.take (skipS m l)) = (l.take (skipS m l)).length
  · rw [h, hl]
  · have := skip_part (l.drop (skipS m l)) h
    rw [List.take_append_drop] at this
    omega
/-- what stands behind the byte that ends the blanks plays no part -/
theorem skip_cut {m : Bool} {l : List UInt8} {j : Nat} (y : List UInt8) (h : skipS m l < j) (hj : j ≤ l.length) : skipS m (l.take j ++ y) = skipS m l := by
  have hl : (l.take j).length = j := by rw [List.length_take]; omega
  have hn : skipS m (l.take j) ≠ (l.take j).length := fun e => by
    have := skip_append (l.drop j) e
    rw [List.take_append_drop, hl] at this
    omega
  have h2 := skip_part (l.drop j) hn
  rw [List.take_append_drop] at h2
  rw [skip_part y hn, ← h2]

/-- the list doesn't go on with such a byte -/
def Bd (p : UInt8 → Bool) (y : List UInt8) : Prop := ∀ d r, y = d :: r → p d = false
theorem Bd.nil (p : UInt8 → Bool) : Bd p [] := fun _ _ h => by cases h
theorem Bd.cons {p : UInt8 → Bool} {d : UInt8} (r : List UInt8) (h : p d = false) : Bd p (d :: r) := fun _ _ e => by cases e; exact h
theorem Bd.app {p : UInt8 → Bool} {a b : List UInt8} (ha : Bd p a) (hb : Bd p b) : Bd p (a ++ b) := by
  cases a with
  | nil => exact hb
  | cons c r => exact Bd.cons _ (ha c r rfl)
theorem Bd.take {p : UInt8 → Bool} {a : List UInt8} (ha : Bd p a) (k : Nat) : Bd p (a.take k) := by
  cases a with
  | nil => simpa using Bd.nil p
  | cons c r =>
    cases k with
    | zero => simpa using Bd.nil p
    | succ k => rw [List.take_succ_cons]; exact Bd.cons _ (ha c r rfl)
theorem Bd.digit {y : List UInt8} (h : Bd isW y) : Bd isD y := fun d r e => by
  have := h d r e
  unfold isW at this
  rw [Bool.or_eq_false_iff] at this
  exact this.2

theorem tw_take (p : UInt8 → Bool) (l : List UInt8) : l.take (l.takeWhile p).length = l.takeWhile p := (List.prefix_iff_eq_take.1 (List.takeWhile_prefix p)).symm
theorem tw_mem (p : UInt8 → Bool) (l : List UInt8) : ∀ c ∈ l.takeWhile p, p c = true := by
  induction l with
  | nil => simp
  | cons d r ih =>
    intro c hc
    rw [List.takeWhile_cons] at hc
    split at hc
    · rename_i hd
      rcases List.mem_cons.1 hc with rfl | h
      · exact hd
      · exact ih c h
    · cases hc
theorem tw_join {p : UInt8 → Bool} {x : List UInt8} (h : ∀ c ∈ x, p c = true) {y : List UInt8} (hy : Bd p y) : (x ++ y).takeWhile p = x := by
  rw [List.takeWhile_append_of_pos h]
  cases y with
  | nil => simp
  | cons d r => rw [List.takeWhile_cons_of_neg (by simp [hy d r rfl]), List.append_nil]
theorem tw_rest (p : UInt8 → Bool) (l : List UInt8) : Bd p (l.drop (l.takeWhile p).length) := by
  induction l with
  | nil => simpa using Bd.nil p
  | cons c r ih =>
    rw [List.takeWhile_cons]
    split
    · simpa using ih
    · rename_i h
      simpa using Bd.cons r (by simpa using h)
theorem tw_more {p : UInt8 → Bool} (l : List UInt8) {y : List UInt8} (hy : Bd p y) : (l ++ y).takeWhile p = l.takeWhile p := by
  induction l with
  | nil =>
    cases y with
    | nil => rfl
    | cons d r => rw [List.nil_append, List.takeWhile_cons_of_neg (by simp [hy d r rfl])]; rfl
  | cons c r ih =>
    rw [List.cons_append, List.takeWhile_cons, List.takeWhile_cons, ih]

theorem tx_join (r : List UInt8) {t : List UInt8} {n : Nat} (y : List UInt8) (h : txS r = .done t n) : txS (r.take n ++ y) = .done t n := by
  match r, h with
  | [], h => cases h
  | c :: r, h =>
    by_cases h1 : c.toNat = 10
    · rw [tx_line r h1] at h; cases h
    · by_cases h2 : c.toNat = 34
      · rw [tx_close r h2] at h
        simp only [Tx.done.injEq] at h
        obtain ⟨rfl, rfl⟩ := h
        rw [List.take_succ_cons, List.cons_append, tx_close _ h2]
      · by_cases h3 : c.toNat = 92
        · rw [tx_esc r h3] at h
          split at h
          · cases h
          · rename_i x k he
            have hk := escX_len he
            obtain ⟨l', n', e1, rfl, rfl⟩ := Tx.push_done h
            have ih := tx_join (r.drop k) y e1
            have hs : r.take (n' + k) = r.take k ++ (r.drop k).take n' := by rw [Nat.add_comm, List.take_add]
            rw [show n' + (k + 1) = (n' + k) + 1 by omega, List.take_succ_cons, List.cons_append, tx_esc _ h3, hs, List.append_assoc, escX_join he]
            dsimp only
            rw [List.drop_left' (by rw [List.length_take]; omega), ih]
            rfl
        · rw [tx_plain r h1 h2 h3] at h
          obtain ⟨l', n', e1, rfl, rfl⟩ := Tx.push_done h
          have ih := tx_join r y e1
          rw [List.take_succ_cons, List.cons_append, tx_plain _ h1 h2 h3, ih]
          rfl
termination_by r.length
decreasing_by
  all_goals (simp only [List.length_cons, List.length_drop]; omega)

/-- a token is the same whatever stands behind it, as long as that doesn't go on with it -/
theorem tok_join {l t : List UInt8} {k n len : Nat} (h : tokL l = .tok k t n len) {y : List UInt8} (h1 : k = 1 → Bd isW y) (h2 : k = 2 → Bd isD y) : tokL (l.take len ++ y) = .tok k t n len := by
  cases l with
  | nil => cases h
  | cons c r =>
    have hl := tokL_len h
    simp only [tokL] at h
    split at h
    · rename_i qL
      split at h
      · cases h
      · rename_i q64
        simp only [TR.tok.injEq] at h
        obtain ⟨rfl, rfl, rfl, rfl⟩ := h
        have hw := tw_join (tw_mem isW (c :: r)) (h1 rfl)
        have hx : (c :: r).take (wordN (c :: r)) = (c :: r).takeWhile isW := tw_take isW _
        have hwn : wordN ((c :: r).take (wordN (c :: r)) ++ y) = wordN (c :: r) := by
          rw [hx]; unfold wordN; rw [hw]
        obtain ⟨x', hx'⟩ : ∃ x', (c :: r).take (wordN (c :: r)) = c :: x' := ⟨r.take (wordN (c :: r) - 1), by
          obtain ⟨j, hj⟩ : ∃ j, wordN (c :: r) = j + 1 := ⟨wordN (c :: r) - 1, by omega⟩
          rw [hj, List.take_succ_cons]; rfl⟩
        have hlx : (c :: x').length = wordN (c :: r) := by rw [← hx', List.length_take]; omega
        rw [hx'] at hwn ⊢
        rw [List.cons_append] at hwn ⊢
        simp only [tokL]
        rw [if_pos qL, hwn, if_neg q64, ← List.cons_append, ← hlx, List.take_left]
    · rename_i qL
      split at h
      · rename_i qD
        split at h
        · cases h
        · rename_i qbig
          simp only [TR.tok.injEq] at h
          obtain ⟨rfl, rfl, rfl, rfl⟩ := h
          have hw := tw_join (tw_mem isD (c :: r)) (h2 rfl)
          have hx : (c :: r).take (numN (c :: r)) = (c :: r).takeWhile isD := tw_take isD _
          have hwn : numN ((c :: r).take (numN (c :: r)) ++ y) = numN (c :: r) := by
            rw [hx]; unfold numN; rw [hw]
          obtain ⟨x', hx'⟩ : ∃ x', (c :: r).take (numN (c :: r)) = c :: x' := ⟨r.take (numN (c :: r) - 1), by
            obtain ⟨j, hj⟩ : ∃ j, numN (c :: r) = j + 1 := ⟨numN (c :: r) - 1, by omega⟩
            rw [hj, List.take_succ_cons]; rfl⟩
          have hlx : (c :: x').length = numN (c :: r) := by rw [← hx', List.length_take]; omega
          rw [hx'] at hwn qbig ⊢
          rw [List.cons_append] at hwn ⊢
          simp only [tokL]
          have ht : (c :: (x' ++ y)).take (numN (c :: r)) = c :: x' := by rw [← List.cons_append, ← hlx, List.take_left]
          rw [if_neg qL, if_pos qD, hwn, ht, if_neg qbig]
      · rename_i qD
        split at h
        · rename_i q34
          split at h
          · rename_i h3
            simp only [TR.tok.injEq] at h
            obtain ⟨rfl, rfl, rfl, rfl⟩ := h
            rw [List.take_succ_cons, List.cons_append]
            simp only [tokL]
            rw [if_neg qL, if_neg qD, if_pos q34, tx_join r y h3]
          · cases h
          · cases h
        · rename_i q34
          split at h
          · rename_i qM
            simp only [TR.tok.injEq] at h
            obtain ⟨rfl, rfl, rfl, rfl⟩ := h
            rw [List.take_succ_cons, List.take_zero, List.cons_append]
            simp only [tokL]
            rw [if_neg qL, if_neg qD, if_neg q34, if_pos qM]
          · cases h

theorem tok_rest {l t : List UInt8} {k n len : Nat} (h : tokL l = .tok k t n len) : (k = 1 → Bd isW (l.drop len)) ∧ (k = 2 → Bd isD (l.drop len)) := by
  cases l with
  | nil => cases h
  | cons c r =>
    simp only [tokL] at h
    split at h
    · split at h
      · cases h
      · simp only [TR.tok.injEq] at h
        obtain ⟨rfl, rfl, rfl, rfl⟩ := h
        exact ⟨fun _ => tw_rest isW _, fun e => by omega⟩
    · split at h
      · split at h
        · cases h
        · simp only [TR.tok.injEq] at h
          obtain ⟨rfl, rfl, rfl, rfl⟩ := h
          exact ⟨fun e => by omega, fun _ => tw_rest isD _⟩
      · split at h
        · split at h
          · simp only [TR.tok.injEq] at h
            obtain ⟨rfl, rfl, rfl, rfl⟩ := h
            exact ⟨fun e => by omega, fun e => by omega⟩
          · cases h
          · cases h
        · split at h
          · simp only [TR.tok.injEq] at h
            obtain ⟨rfl, rfl, rfl, rfl⟩ := h
            exact ⟨fun e => by omega, fun e => by omega⟩
          · cases h
end Go.Proofs.YtmbiompmhaiehaaDoor
/- Laws of a text's tokens: put behind blanks, ahead of more, cut. No walk here. -/
namespace Go.Proofs.YtmbiompmhaiehaaDoor
open Go.RowKit

theorem nl_word {n : UInt8} (hn : n.toNat = 10) : isW n = false := by
  unfold isW isL isD
  rw [hn]
  decide

/-! ### faults, and a newline behind -/
theorem tx_wide_more (r : List UInt8) (h : txS r = .wide) (m : List UInt8) {n : UInt8} (hn : n.toNat = 10) : txS (r ++ n :: m) = .wide := by
  match r, h with
  | [], _ => rw [List.nil_append, tx_line m hn]
  | c :: r, h =>
    rw [List.cons_append]
    by_cases h1 : c.toNat = 10
    · rw [tx_line _ h1]
    · by_cases h2 : c.toNat = 34
      · rw [tx_close r h2] at h; cases h
      · by_cases h3 : c.toNat = 92
        · rw [tx_esc r h3] at h
          split at h
          · cases h
          · rename_i x k he
            have hk := escX_len he
            have hr : r = r.take k ++ r.drop k := (List.take_append_drop k r).symm
            have ih := tx_wide_more (r.drop k) (Tx.push_wide h) m hn
            rw [tx_esc _ h3]
            have he2 := escX_join he (r.drop k ++ n :: m)
            rw [← List.append_assoc, List.take_append_drop] at he2
            rw [he2]
            dsimp only
            rw [List.drop_append_of_le_length (by omega), ih]
            rfl
        · rw [tx_plain r h1 h2 h3] at h
          rw [tx_plain _ h1 h2 h3, tx_wide_more r (Tx.push_wide h) m hn]
          rfl
termination_by r.length
decreasing_by
  all_goals (simp only [List.length_cons, List.length_drop]; omega)

theorem tx_esc_more (r : List UInt8) {o : Nat} (h : txS r = .esc o) (m : List UInt8) {n : UInt8} (hn : n.toNat = 10) : txS (r ++ n :: m) = .esc o := by
  match r, h with
  | [], h => cases h
  | c :: r, h =>
    rw [List.cons_append]
    by_cases h1 : c.toNat = 10
    · rw [tx_line _ h1] at h; cases h
    · by_cases h2 : c.toNat = 34
      · rw [tx_close r h2] at h; cases h
      · by_cases h3 : c.toNat = 92
        · rw [tx_esc r h3] at h
          split at h
          · rename_i he
            rw [tx_esc _ h3, escX_none he m hn]
            exact h
          · rename_i x k he
            have hk := escX_len he
            obtain ⟨o', e1, rfl⟩ := Tx.push_esc h
            have ih := tx_esc_more (r.drop k) e1 m hn
            rw [tx_esc _ h3]
            have he2 := escX_join he (r.drop k ++ n :: m)
            rw [← List.append_assoc, List.take_append_drop] at he2
            rw [he2]
            dsimp only
            rw [List.drop_append_of_le_length (by omega), ih]
            rfl
        · rw [tx_plain r h1 h2 h3] at h
          obtain ⟨o', e1, rfl⟩ := Tx.push_esc h
          rw [tx_plain _ h1 h2 h3, tx_esc_more r e1 m hn]
          rfl
termination_by r.length
decreasing_by
  all_goals (simp only [List.length_cons, List.length_drop]; omega)

/-- up to a wrong escape a text has no end -/
theorem tx_esc_take (r : List UInt8) {o : Nat} (h : txS r = .esc o) : o < r.length ∧ txS (r.take o) = .wide := by
  match r, h with
  | [], h => cases h
  | c :: r, h =>
    by_cases h1 : c.toNat = 10
    · rw [tx_line _ h1] at h; cases h
    · by_cases h2 : c.toNat = 34
      · rw [tx_close r h2] at h; cases h
      · by_cases h3 : c.toNat = 92
        · rw [tx_esc r h3] at h
          split at h
          · simp only [Tx.esc.injEq] at h
            subst h
            exact ⟨by simp, by rw [List.take_zero, tx_nil]⟩
          · rename_i x k he
            have hk := escX_len he
            obtain ⟨o', e1, rfl⟩ := Tx.push_esc h
            obtain ⟨i1, i2⟩ := tx_esc_take (r.drop k) e1
            rw [List.length_drop] at i1
            have hs : r.take (o' + k) = r.take k ++ (r.drop k).take o' := by rw [Nat.add_comm, List.take_add]
            refine ⟨by simp only [List.length_cons]; omega, ?_⟩
            rw [show o' + (k + 1) = (o' + k) + 1 by omega, List.take_succ_cons, tx_esc _ h3, hs, escX_join he]
            dsimp only
            rw [List.drop_left' (by rw [List.length_take]; omega), i2]
            rfl
        · rw [tx_plain r h1 h2 h3] at h
          obtain ⟨o', e1, rfl⟩ := Tx.push_esc h
          obtain ⟨i1, i2⟩ := tx_esc_take r e1
          refine ⟨by simp only [List.length_cons]; omega, ?_⟩
          rw [List.take_succ_cons, tx_plain _ h1 h2 h3, i2]
          rfl
termination_by r.length
decreasing_by
  all_goals (simp only [List.length_cons, List.length_drop]; omega)

/-- the fault of a token: with a newline behind it, and what stands ahead of it -/
theorem tok_bad {l : List UInt8} {o e : Nat} (h : tokL l = .bad o e) (h0 : l ≠ []) (m : List UInt8) {n : UInt8} (hn : n.toNat = 10) :
    tokL (l ++ n :: m) = .bad o e ∧ ((e = 82 ∧ 1 ≤ o ∧ o < l.length ∧ tokL (l.take o) = .bad 0 81) ∨ (e ≠ 82 ∧ o = 0)) := by
  cases l with
  | nil => exact absurd rfl h0
  | cons c r =>
    have bw : Bd isW (n :: m) := Bd.cons m (nl_word hn)
    have hwn : wordN (c :: (r ++ n :: m)) = wordN (c :: r) := by
      unfold wordN
      rw [← List.cons_append, tw_more _ bw]
    have hnn : numN (c :: (r ++ n :: m)) = numN (c :: r) := by
      unfold numN
      rw [← List.cons_append, tw_more _ bw.digit]
    have htk : (c :: (r ++ n :: m)).take (numN (c :: r)) = (c :: r).take (numN (c :: r)) := by
      rw [← List.cons_append, List.take_append_of_le_length (numN_le _)]
    rw [List.cons_append]
    simp only [tokL] at h ⊢
    split at h
    · rename_i q
      rw [if_pos q]
      split at h
      · rename_i q2
        simp only [TR.bad.injEq] at h
        obtain ⟨rfl, rfl⟩ := h
        rw [hwn, if_pos q2]
        exact ⟨rfl, .inr ⟨by omega, rfl⟩⟩
      · cases h
    · rename_i q
      rw [if_neg q]
      split at h
      · rename_i qd
        rw [if_pos qd]
        split at h
        · rename_i q2
          simp only [TR.bad.injEq] at h
          obtain ⟨rfl, rfl⟩ := h
          rw [hnn, htk, if_pos q2]
          exact ⟨rfl, .inr ⟨by omega, rfl⟩⟩
        · cases h
      · rename_i qd
        rw [if_neg qd]
        split at h
        · rename_i q34
          rw [if_pos q34]
          split at h
          · cases h
          · rename_i o' ht
            simp only [TR.bad.injEq] at h
            obtain ⟨rfl, rfl⟩ := h
            obtain ⟨i1, i2⟩ := tx_esc_take r ht
            rw [tx_esc_more r ht m hn]
            refine ⟨rfl, .inl ⟨rfl, by omega, by simp only [List.length_cons]; omega, ?_⟩⟩
            rw [List.take_succ_cons]
            show (if isL c then _ else _) = _
            rw [if_neg q, if_neg qd, if_pos q34, i2]
          · rename_i ht
            simp only [TR.bad.injEq] at h
            obtain ⟨rfl, rfl⟩ := h
            rw [tx_wide_more r ht m hn]
            exact ⟨rfl, .inr ⟨by omega, rfl⟩⟩
        · rename_i q34
          rw [if_neg q34]
          split at h
          · cases h
          · rename_i qm
            rw [if_neg qm]
            simp only [TR.bad.injEq] at h
            obtain ⟨rfl, rfl⟩ := h
            exact ⟨rfl, .inr ⟨by omega, rfl⟩⟩

/-! ### a text's tokens -/
/-- a text's first token, or its fault, or its end -/
theorem lex_cases (l : List UInt8) (off : Nat) :
    (skipS false l = l.length ∧ lexL l off = .ok [endTk (off + l.length)]) ∨
    (∃ s o e, skipS false l = s ∧ s < l.length ∧ tokL (l.drop s) = .bad o e ∧ lexL l off = .bad (off + s + o) e) ∨
    (∃ s k t n len, skipS false l = s ∧ s + len ≤ l.length ∧ 1 ≤ len ∧ tokL (l.drop s) = .tok k t n len ∧ lexL l off = (lexL (l.drop (s + len)) (off + s + len)).push ⟨k, t, n, off + s, off + s + len⟩) := by
  have hs := skipS_le false l
  by_cases h : skipS false l = l.length
  · exact .inl ⟨h, lexL_done h⟩
  · cases ht : tokL (l.drop (skipS false l)) with
    | bad o e => exact .inr (.inl ⟨_, o, e, rfl, by omega, ht, lexL_bad h ht⟩)
    | tok k t n len =>
      have hl := tokL_len ht
      rw [List.length_drop] at hl
      exact .inr (.inr ⟨_, k, t, n, len, rfl, by omega, hl.1, ht, lexL_tok h ht⟩)

theorem LR.push_ok {x : Tk} {r : LR} {ts : List Tk} (h : r.push x = .ok ts) : ∃ ts', r = .ok ts' ∧ ts = x :: ts' := by
  cases r <;> simp [LR.push] at h
  exact ⟨_, rfl, h.symm⟩
theorem LR.push_bad {x : Tk} {r : LR} {a e : Nat} (h : r.push x = .bad a e) : r = .bad a e := by
  cases r <;> simp [LR.push] at h
  simp [h.1, h.2]

/-- blanks ahead change the places alone -/
theorem lex_gap {b : List UInt8} (h : skipS false b = b.length) (he : endS false b = false) (l : List UInt8) (off : Nat) : lexL (b ++ l) off = lexL l (off + b.length) := by
  have hsk : skipS false (b ++ l) = b.length + skipS false l := by rw [skip_append l h, he]
  have hdr : ∀ j, (b ++ l).drop (b.length + j) = l.drop j := fun j => by rw [← List.drop_drop, List.drop_left]
  rcases lex_cases l (off + b.length) with ⟨h1, h2⟩ | ⟨s, o, e, h1, h2, h3, h4⟩ | ⟨s, k, t, n, len, h1, h2, h3, h4, h5⟩
  · rw [h2, lexL_done (by rw [hsk, h1, List.length_append]), List.length_append, Nat.add_assoc]
  · rw [h4, lexL_bad (o := o) (e := e) (by rw [hsk, h1, List.length_append]; omega) (by rw [hsk, h1, hdr]; exact h3), hsk, h1]
    congr 1
    omega
  · rw [h5, lexL_tok (k := k) (t := t) (n := n) (len := len) (by rw [hsk, h1, List.length_append]; omega) (by rw [hsk, h1, hdr]; exact h4), hsk, h1, Nat.add_assoc b.length, hdr]
    simp only [Nat.add_assoc]

/-- a token without its place -/
def core (x : Tk) : Nat × List UInt8 × Nat × Nat := (x.k, x.t, x.n, x.e - x.a)
def cores : LR → Option (List (Nat × List UInt8 × Nat × Nat))
  | .ok l => some (l.map core)
  | .bad _ _ => none
theorem cores_push (x : Tk) (r : LR) : cores (r.push x) = (cores r).map (core x :: ·) := by cases r <;> rfl

/-- tokens hang on the place in no other way -/
theorem lex_core (N : Nat) : ∀ (l : List UInt8) (off off' : Nat), l.length ≤ N → cores (lexL l off) = cores (lexL l off') := by
  induction N with
  | zero =>
    intro l off off' h
    obtain rfl := List.eq_nil_of_length_eq_zero (by omega : l.length = 0)
    rw [lexL_done rfl, lexL_done rfl]
    simp [cores, core, endTk]
  | succ N ih =>
    intro l off off' h
    rcases lex_cases l off with ⟨h1, h2⟩ | ⟨s, o, e, h1, h2, h3, h4⟩ | ⟨s, k, t, n, len, h1, h2, h3, h4, h5⟩
    · rw [h2, lexL_done h1]
      simp [cores, core, endTk]
    · rw [h4, lexL_bad (o := o) (e := e) (by omega) (by rw [h1]; exact h3)]
      rfl
    · rw [h5, lexL_tok (off := off') (k := k) (t := t) (n := n) (len := len) (by omega) (by rw [h1]; exact h4), h1, cores_push, cores_push,
        ih (l.drop (s + len)) (off + s + len) (off' + s + len) (by rw [List.length_drop]; omega)]
      have e : core ⟨k, t, n, off + s, off + s + len⟩ = core ⟨k, t, n, off' + s, off' + s + len⟩ := by
        simp only [core]
        rw [show off + s + len - (off + s) = len by omega, show off' + s + len - (off' + s) = len by omega]
      rw [e]

/-- how the tokens of a text begin, with something else behind its first token -/
theorem lex_first {l : List UInt8} {s k n len : Nat} {t : List UInt8} (h1 : skipS false l = s) (h2 : s + len ≤ l.length) (h3 : 1 ≤ len) (h4 : tokL (l.drop s) = .tok k t n len) {y : List UInt8} (hw : k = 1 → Bd isW y) (hd : k = 2 → Bd isD y) (off : Nat) :
    lexL (l.take (s + len) ++ y) off = (lexL y (off + s + len)).push ⟨k, t, n, off + s, off + s + len⟩ := by
  have hsk : skipS false (l.take (s + len) ++ y) = s := by rw [skip_cut y (by omega) h2, h1]
  have hl : (l.take (s + len)).length = s + len := by rw [List.length_take]; omega
  have hdr : (l.take (s + len) ++ y).drop s = (l.drop s).take len ++ y := by
    rw [List.drop_append_of_le_length (by omega), List.drop_take, Nat.add_sub_cancel_left]
  have htk := tok_join h4 hw hd
  rw [lexL_tok (k := k) (t := t) (n := n) (len := len) (by rw [hsk, List.length_append]; omega) (by rw [hsk, hdr]; exact htk), hsk, List.drop_left' hl]

/-- a gap behind changes no token -/
theorem lex_tail {z : List UInt8} (hz : ∀ m, skipS m z = z.length) (hb : Bd isW z) (N : Nat) : ∀ (l : List UInt8) (off : Nat) {ts : List Tk}, l.length ≤ N → lexL l off = .ok ts → cores (lexL (l ++ z) off) = some (ts.map core) := by
  induction N with
  | zero =>
    intro l off ts h hl
    obtain rfl := List.eq_nil_of_length_eq_zero (by omega : l.length = 0)
    rw [lexL_done rfl] at hl
    obtain rfl := LR.ok.inj hl
    rw [List.nil_append, lexL_done (hz false)]
    simp [cores, core, endTk]
  | succ N ih =>
    intro l off ts h hl
    rcases lex_cases l off with ⟨h1, h2⟩ | ⟨s, o, e, h1, h2, h3, h4⟩ | ⟨s, k, t, n, len, h1, h2, h3, h4, h5⟩
    · rw [h2] at hl
      obtain rfl := LR.ok.inj hl
      rw [lexL_done (by rw [skip_append z h1, hz, List.length_append])]
      simp [cores, core, endTk]
    · rw [h4] at hl; cases hl
    · rw [h5] at hl
      obtain ⟨ts', g1, rfl⟩ := LR.push_ok hl
      have hrest := tok_rest h4
      rw [List.drop_drop] at hrest
      have e : l ++ z = l.take (s + len) ++ (l.drop (s + len) ++ z) := by rw [← List.append_assoc, List.take_append_drop]
      rw [e, lex_first h1 h2 h3 h4 (fun q => (hrest.1 q).app hb) (fun q => (hrest.2 q).app hb.digit), cores_push, ih (l.drop (s + len)) _ (by rw [List.length_drop]; omega) g1]
      rfl

/-- it begins with a byte that no word goes on with -/
def Sep (b : List UInt8) : Prop := ∃ d r, b = d :: r ∧ isW d = false
theorem Sep.bd {b : List UInt8} (h : Sep b) (y : List UInt8) : Bd isW (b ++ y) := by
  obtain ⟨d, r, rfl, hd⟩ := h
  exact Bd.cons _ hd

/-- blanks put behind a token change no token -/
theorem lex_cut {b : List UInt8} (h0 : skipS false b = b.length) (he : endS false b = false) (hb : Sep b) (N : Nat) : ∀ (l : List UInt8) (off : Nat) {ts : List Tk} (i : Nat) (x : Tk), l.length ≤ N → lexL l off = .ok ts → i + 1 < ts.length → ts[i]? = some x →
    off ≤ x.e ∧ x.e ≤ off + l.length ∧ cores (lexL (l.take (x.e - off) ++ (b ++ l.drop (x.e - off))) off) = some (ts.map core) := by
  induction N with
  | zero =>
    intro l off ts i x h hl hi
    obtain rfl := List.eq_nil_of_length_eq_zero (by omega : l.length = 0)
    rw [lexL_done rfl] at hl
    obtain rfl := LR.ok.inj hl
    simp at hi
  | succ N ih =>
    intro l off ts i x h hl hi hx
    rcases lex_cases l off with ⟨h1, h2⟩ | ⟨s, o, e, h1, h2, h3, h4⟩ | ⟨s, k, t, n, len, h1, h2, h3, h4, h5⟩
    · rw [h2] at hl
      obtain rfl := LR.ok.inj hl
      simp at hi
    · rw [h4] at hl; cases hl
    · rw [h5] at hl
      obtain ⟨ts', g1, rfl⟩ := LR.push_ok hl
      have hrest := tok_rest h4
      rw [List.drop_drop] at hrest
      have hll : (l.drop (s + len)).length = l.length - (s + len) := List.length_drop
      cases i with
      | zero =>
        simp only [List.getElem?_cons_zero, Option.some.injEq] at hx
        subst hx
        refine ⟨by show off ≤ off + s + len; omega, by show off + s + len ≤ _; omega, ?_⟩
        rw [show off + s + len - off = s + len by omega, lex_first h1 h2 h3 h4 (fun _ => hb.bd _) (fun _ => (hb.bd _).digit), cores_push, lex_gap h0 he, lex_core _ _ _ (off + s + len) (Nat.le_refl _), g1]
        rfl
      | succ i =>
        simp only [List.getElem?_cons_succ] at hx
        simp only [List.length_cons] at hi
        obtain ⟨j1, j2, j3⟩ := ih (l.drop (s + len)) (off + s + len) i x (by omega) g1 (by omega) hx
        refine ⟨by omega, by omega, ?_⟩
        have hq : x.e - off = (s + len) + (x.e - (off + s + len)) := by omega
        have hdd : l.drop (s + len + (x.e - (off + s + len))) = (l.drop (s + len)).drop (x.e - (off + s + len)) := List.drop_drop.symm
        rw [hq, List.take_add, List.append_assoc, hdd, lex_first h1 h2 h3 h4 (fun q => ((hrest.1 q).take _).app (hb.bd _)) (fun q => ((hrest.2 q).take _).app (hb.bd _).digit), cores_push, j3]
        rfl
end Go.Proofs.YtmbiompmhaiehaaDoor
/- Laws of a text's tokens: faults, names, a text written as one. No walk here. -/
namespace Go.Proofs.YtmbiompmhaiehaaDoor
open Go.RowKit

theorem skip_sub {l : List UInt8} {s : Nat} (h : skipS false l = s) (h2 : s < l.length) (y : List UInt8) : skipS false (l ++ y) = s := by
  rw [skip_part y (by omega), h]

/-- what is faulty stays so, whatever lines stand behind -/
theorem lex_bad_more (m : List UInt8) {n : UInt8} (hn : n.toNat = 10) (N : Nat) : ∀ (l : List UInt8) (off : Nat) {a e : Nat}, l.length ≤ N → lexL l off = .bad a e → lexL (l ++ n :: m) off = .bad a e := by
  induction N with
  | zero =>
    intro l off a e h hl
    obtain rfl := List.eq_nil_of_length_eq_zero (by omega : l.length = 0)
    rw [lexL_done rfl] at hl; cases hl
  | succ N ih =>
    intro l off a e h hl
    rcases lex_cases l off with ⟨h1, h2⟩ | ⟨s, o, e', h1, h2, h3, h4⟩ | ⟨s, k, t, n', len, h1, h2, h3, h4, h5⟩
    · rw [h2] at hl; cases hl
    · rw [h4] at hl
      have hsk := skip_sub h1 h2 (n :: m)
      have ht := (tok_bad h3 (by intro e0; have := congrArg List.length e0; rw [List.length_drop] at this; simp at this; omega) m hn).1
      rw [lexL_bad (o := o) (e := e') (by rw [hsk, List.length_append]; omega) (by rw [hsk, List.drop_append_of_le_length (by omega)]; exact ht), hsk]
      exact hl
    · rw [h5] at hl
      have g1 := LR.push_bad hl
      have hrest := tok_rest h4
      rw [List.drop_drop] at hrest
      have bn : Bd isW (n :: m) := Bd.cons m (nl_word hn)
      have e : l ++ n :: m = l.take (s + len) ++ (l.drop (s + len) ++ n :: m) := by rw [← List.append_assoc, List.take_append_drop]
      rw [e, lex_first h1 h2 h3 h4 (fun q => (hrest.1 q).app bn) (fun q => (hrest.2 q).app bn.digit), ih (l.drop (s + len)) _ (by rw [List.length_drop]; omega) g1]
      rfl

/-- ahead of a fault there are tokens, or a text that isn't ended -/
theorem lex_bad_front (N : Nat) : ∀ (l : List UInt8) (off : Nat) {a e : Nat}, l.length ≤ N → lexL l off = .bad a e →
    off ≤ a ∧ a < off + l.length ∧ (e = 82 → ∃ j, j < a ∧ lexL (l.take (a - off)) off = .bad j 81) ∧ (e ≠ 82 → ∃ ts, lexL (l.take (a - off)) off = .ok ts) := by
  induction N with
  | zero =>
    intro l off a e h hl
    obtain rfl := List.eq_nil_of_length_eq_zero (by omega : l.length = 0)
    rw [lexL_done rfl] at hl; cases hl
  | succ N ih =>
    intro l off a e h hl
    rcases lex_cases l off with ⟨h1, h2⟩ | ⟨s, o, e', h1, h2, h3, h4⟩ | ⟨s, k, t, n', len, h1, h2, h3, h4, h5⟩
    · rw [h2] at hl; cases hl
    · rw [h4] at hl
      simp only [LR.bad.injEq] at hl
      obtain ⟨rfl, rfl⟩ := hl
      have hd : (l.drop s).length = l.length - s := List.length_drop
      rcases (tok_bad h3 (by intro e0; rw [e0] at hd; simp at hd; omega) [] (n := 10) rfl).2 with ⟨rfl, q1, q2, q3⟩ | ⟨q1, rfl⟩
      · refine ⟨by omega, by omega, fun _ => ⟨off + s, by omega, ?_⟩, fun hne => absurd rfl hne⟩
        have hsk : skipS false (l.take (s + o)) = s := by
          have := skip_cut (m := false) (l := l) (j := s + o) [] (by omega) (by omega)
          rw [List.append_nil, h1] at this
          exact this
        rw [show off + s + o - off = s + o by omega, lexL_bad (o := 0) (e := 81) (by rw [hsk, List.length_take]; omega) (by rw [hsk, List.drop_take, Nat.add_sub_cancel_left]; exact q3), hsk, Nat.add_zero]
      · refine ⟨by omega, by omega, fun he => absurd he q1, fun _ => ⟨[endTk (off + (l.take s).length)], ?_⟩⟩
        rw [show off + s + 0 - off = s by omega]
        refine lexL_done ?_
        have := skip_take false l
        rw [h1] at this
        rw [this, List.length_take]; omega
    · rw [h5] at hl
      have g1 := LR.push_bad hl
      have hrest := tok_rest h4
      rw [List.drop_drop] at hrest
      have hll : (l.drop (s + len)).length = l.length - (s + len) := List.length_drop
      obtain ⟨j1, j2, j3, j4⟩ := ih (l.drop (s + len)) (off + s + len) (by omega) g1
      have hq : a - off = (s + len) + (a - (off + s + len)) := by clear j3 j4; omega
      have hx : ∀ x, lexL ((l.drop (s + len)).take (a - (off + s + len))) (off + s + len) = x → lexL (l.take (a - off)) off = x.push ⟨k, t, n', off + s, off + s + len⟩ := fun x hx => by
        rw [hq, List.take_add, lex_first h1 h2 h3 h4 (fun q => (hrest.1 q).take _) (fun q => (hrest.2 q).take _), hx]
      have b1 : off ≤ a := by clear j3 j4 hx; omega
      have b2 : a < off + l.length := by clear j3 j4 hx; omega
      refine ⟨b1, b2, fun he => ?_, fun he => ?_⟩
      · obtain ⟨j, g2, g3⟩ := j3 he
        exact ⟨j, g2, hx _ g3⟩
      · obtain ⟨ts, g2⟩ := j4 he
        exact ⟨_, hx _ g2⟩

/-- whether the bytes are a name -/
def nameL (l : List UInt8) : Bool := match l with
  | [] => false
  | c :: r => decide ((c :: r).length ≤ 64) && isL c && (c :: r).all isW

theorem not_skip {c : UInt8} (r : List UInt8) (h1 : isBl c = false) (h2 : c.toNat ≠ 35) : skipS false (c :: r) = 0 := by
  rw [skip_cons, if_neg (by simp), if_neg (by simp [h1]), if_neg h2]
theorem letter_skip {c : UInt8} (h : isL c = true) : isBl c = false ∧ c.toNat ≠ 35 := by
  unfold isL at h
  have h := of_decide_eq_true h
  exact ⟨by unfold isBl; rw [decide_eq_false]; omega, by omega⟩

/-- a name is read as one, and what is read as one is a name -/
theorem lex_name (l : List UInt8) : nameL l = true ↔ ∃ t n, lexL l 0 = .ok [⟨1, t, n, 0, l.length⟩, endTk l.length] := by
  constructor
  · intro h
    cases l with
    | nil => cases h
    | cons c r =>
      unfold nameL at h
      simp only [Bool.and_eq_true, decide_eq_true_eq] at h
      obtain ⟨⟨h1, h2⟩, h3⟩ := h
      have hw : (c :: r).takeWhile isW = c :: r := by
        have := tw_join (p := isW) (x := c :: r) (fun d hd => List.all_eq_true.1 h3 d hd) (Bd.nil _)
        rwa [List.append_nil] at this
      have hn : wordN (c :: r) = (c :: r).length := by unfold wordN; rw [hw]
      have hs := not_skip r (letter_skip h2).1 (letter_skip h2).2
      have ht : tokL (c :: r) = .tok 1 (c :: r) 0 (c :: r).length := by
        simp only [tokL]
        rw [if_pos h2, hn, if_neg (by omega), List.take_length]
      refine ⟨c :: r, 0, ?_⟩
      rw [lexL_tok (k := 1) (t := c :: r) (n := 0) (len := (c :: r).length) (by rw [hs]; simp) (by rw [hs]; exact ht), hs, Nat.zero_add, Nat.zero_add, List.drop_length, lexL_done rfl]
      rfl
  · rintro ⟨t, n, h⟩
    rcases lex_cases l 0 with ⟨h1, h2⟩ | ⟨s, o, e', h1, h2, h3, h4⟩ | ⟨s, k, t', n', len, h1, h2, h3, h4, h5⟩
    · rw [h2] at h; simp at h
    · rw [h4] at h; cases h
    · rw [h5] at h
      obtain ⟨ts', g1, g2⟩ := LR.push_ok h
      simp only [List.cons.injEq, Tk.mk.injEq] at g2
      obtain ⟨⟨rfl, rfl, rfl, g3, g4⟩, rfl⟩ := g2
      obtain rfl : s = 0 := by omega
      obtain rfl : len = l.length := by omega
      rw [List.drop_zero] at h4
      cases l with
      | nil => simp at h3
      | cons c r =>
        simp only [tokL] at h4
        split at h4
        · rename_i qL
          split at h4
          · cases h4
          · rename_i q64
            simp only [TR.tok.injEq] at h4
            obtain ⟨_, _, _, hn⟩ := h4
            have hall : (c :: r).takeWhile isW = c :: r := by
              have := tw_take isW (c :: r)
              rw [show ((c :: r).takeWhile isW).length = (c :: r).length from hn, List.take_length] at this
              exact this.symm
            unfold nameL
            simp only [Bool.and_eq_true, decide_eq_true_eq]
            refine ⟨⟨by omega, qL⟩, List.all_eq_true.2 fun d hd => tw_mem isW (c :: r) d (by rw [hall]; exact hd)⟩
        · split at h4
          · split at h4
            · cases h4
            · simp at h4
          · split at h4
            · split at h4 <;> simp at h4
            · split at h4
              · simp at h4
              · cases h4

/-- a byte as it stands in a quoted text -/
def qb (c : UInt8) : List UInt8 :=
  if c.toNat = 92 ∨ c.toNat = 34 then [92, c]
  else if c.toNat = 10 then [92, 110]
  else if c.toNat = 9 then [92, 116]
  else if 32 ≤ c.toNat ∧ c.toNat ≤ 126 then [c]
  else [92, 120, hexD (c.toNat / 16), hexD (c.toNat % 16)]
where hexD (p : Nat) : UInt8 := if p < 10 then UInt8.ofNat (48 + p) else UInt8.ofNat (87 + p)
def qbs (l : List UInt8) : List UInt8 := l.flatMap qb
def quoteL (l : List UInt8) : List UInt8 := 34 :: (qbs l ++ [34])

theorem dv_hexD {p : Nat} (h : p < 16) : dv (qb.hexD p).toNat = p := by
  have : ∀ p : Fin 16, dv (qb.hexD p).toNat = p := by decide
  exact this ⟨p, h⟩
theorem tx_qb (c : UInt8) (y : List UInt8) : txS (qb c ++ y) = (txS y).push c (qb c).length := by
  have hc := c.toNat_lt
  unfold qb
  split
  · rename_i q
    show txS (92 :: c :: y) = _
    rw [tx_esc _ rfl]
    show (match escD c y with | none => _ | some (x, k) => _) = _
    unfold escD
    rw [if_pos q]
    rfl
  · rename_i q
    split
    · rename_i q2
      obtain rfl : c = 10 := UInt8.toNat_inj.1 q2
      show txS (92 :: 110 :: y) = _
      rw [tx_esc _ rfl]
      rfl
    · rename_i q2
      split
      · rename_i q3
        obtain rfl : c = 9 := UInt8.toNat_inj.1 q3
        show txS (92 :: 116 :: y) = _
        rw [tx_esc _ rfl]
        rfl
      · rename_i q3
        split
        · rename_i q4
          show txS (c :: y) = _
          rw [tx_plain _ q2 (by omega) (by omega)]
          rfl
        · show txS (92 :: 120 :: qb.hexD (c.toNat / 16) :: qb.hexD (c.toNat % 16) :: y) = _
          rw [tx_esc _ rfl]
          show (match escD 120 (qb.hexD (c.toNat / 16) :: qb.hexD (c.toNat % 16) :: y) with | none => _ | some (x, k) => _) = _
          unfold escD
          have h1 := dv_hexD (p := c.toNat / 16) (by omega)
          have h2 := dv_hexD (p := c.toNat % 16) (by omega)
          rw [if_neg (by decide), if_neg (by decide), if_neg (by decide), if_pos (by decide)]
          dsimp only
          rw [h1, h2, if_neg (by omega)]
          dsimp only
          rw [show 16 * (c.toNat / 16) + c.toNat % 16 = c.toNat by omega]
          simp
theorem tx_qbs (l : List UInt8) : txS (qbs l ++ [34]) = .done l ((qbs l).length + 1) := by
  induction l with
  | nil => rfl
  | cons c r ih =>
    have e : qbs (c :: r) = qb c ++ qbs r := rfl
    rw [e, List.append_assoc, tx_qb, ih, List.length_append]
    show Tx.done (c :: r) _ = _
    congr 1
    omega
theorem quote_len (l : List UInt8) : (quoteL l).length = (qbs l).length + 2 := by unfold quoteL; simp
/-- what is quoted is read back -/
theorem lex_quote (l : List UInt8) : lexL (quoteL l) 0 = .ok [⟨3, l, 0, 0, (quoteL l).length⟩, endTk (quoteL l).length] := by
  have hs : skipS false (quoteL l) = 0 := not_skip _ (by decide) (by decide)
  have ht : tokL (quoteL l) = .tok 3 l 0 (quoteL l).length := by
    rw [quote_len]
    unfold quoteL
    simp only [tokL]
    rw [if_neg (by decide), if_neg (by decide), if_pos (by decide), tx_qbs]
  rw [lexL_tok (k := 3) (t := l) (n := 0) (len := (quoteL l).length) (by rw [hs, quote_len]; omega) (by rw [hs]; exact ht), hs, Nat.zero_add, Nat.zero_add, List.drop_length, lexL_done rfl]
  rfl
/-- a quoted text has bytes of 20 to 7e alone -/
theorem qb_plain (c : UInt8) : ∀ d ∈ qb c, 32 ≤ d.toNat ∧ d.toNat ≤ 126 := by
  have hc := c.toNat_lt
  have h16 : ∀ p : Fin 16, 32 ≤ (qb.hexD p).toNat ∧ (qb.hexD p).toNat ≤ 126 := by decide
  intro d hd
  unfold qb at hd
  split at hd
  · simp only [List.mem_cons, List.not_mem_nil, or_false] at hd
    rcases hd with rfl | rfl
    · decide
    · omega
  · split at hd
    · simp only [List.mem_cons, List.not_mem_nil, or_false] at hd
      rcases hd with rfl | rfl <;> decide
    · split at hd
      · simp only [List.mem_cons, List.not_mem_nil, or_false] at hd
        rcases hd with rfl | rfl <;> decide
      · split at hd
        · rename_i q
          simp only [List.mem_cons, List.not_mem_nil, or_false] at hd
          subst hd
          exact q
        · simp only [List.mem_cons, List.not_mem_nil, or_false] at hd
          rcases hd with rfl | rfl | rfl | rfl
          · decide
          · decide
          · exact h16 ⟨c.toNat / 16, by omega⟩
          · exact h16 ⟨c.toNat % 16, by omega⟩
theorem quote_plain (l : List UInt8) : ∀ d ∈ quoteL l, 32 ≤ d.toNat ∧ d.toNat ≤ 126 := by
  intro d hd
  unfold quoteL qbs at hd
  rcases List.mem_cons.1 hd with rfl | hd
  · decide
  · rcases List.mem_append.1 hd with hd | hd
    · obtain ⟨c, _, hc⟩ := List.mem_flatMap.1 hd
      exact qb_plain c d hc
    · rw [List.mem_singleton] at hd
      subst hd
      decide
theorem qb_len (c : UInt8) : 1 ≤ (qb c).length ∧ (qb c).length ≤ 4 := by
  unfold qb
  split
  · simp
  · split
    · simp
    · split
      · simp
      · split <;> simp
theorem qbs_len (l : List UInt8) : l.length ≤ (qbs l).length ∧ (qbs l).length ≤ 4 * l.length := by
  induction l with
  | nil => exact ⟨Nat.le_refl _, Nat.le_refl _⟩
  | cons c r ih =>
    have := qb_len c
    show _ ≤ (qb c ++ qbs r).length ∧ (qb c ++ qbs r).length ≤ _
    rw [List.length_append, List.length_cons]
    omega
end Go.Proofs.YtmbiompmhaiehaaDoor
/- More facts on the tokens of a text: how many, the last one, their places, a token by itself. No walk here. -/
namespace Go.Proofs.YtmbiompmhaiehaaDoor
open Go.RowKit

theorem tok_err {l : List UInt8} {o e : Nat} (h : tokL l = .bad o e) : e ≠ 0 := by
  cases l with
  | nil => cases h; decide
  | cons c r =>
    simp only [tokL] at h
    split at h
    · split at h
      · cases h; decide
      · cases h
    · split at h
      · split at h
        · cases h; decide
        · cases h
      · split at h
        · split at h
          · cases h
          · cases h; decide
          · cases h; decide
        · split at h
          · cases h
          · cases h; decide

theorem tok_err2 {l : List UInt8} {o e : Nat} (h : tokL l = .bad o e) : e ≠ 2 := by
  cases l with
  | nil => cases h; decide
  | cons c r =>
    simp only [tokL] at h
    split at h
    · split at h
      · cases h; decide
      · cases h
    · split at h
      · split at h
        · cases h; decide
        · cases h
      · split at h
        · split at h
          · cases h
          · cases h; decide
          · cases h; decide
        · split at h
          · cases h
          · cases h; decide
theorem tok_place {l : List UInt8} {o e : Nat} (h : tokL l = .bad o e) (h0 : l ≠ []) : o < l.length := by
  cases l with
  | nil => exact absurd rfl h0
  | cons c r =>
    simp only [tokL] at h
    simp only [List.length_cons]
    split at h
    · split at h
      · cases h; omega
      · cases h
    · split at h
      · split at h
        · cases h; omega
        · cases h
      · split at h
        · split at h
          · cases h
          · rename_i o' ho
            have := (tx_esc_take r ho).1
            cases h
            omega
          · cases h; omega
        · split at h
          · cases h
          · cases h; omega

theorem lex_len (N : Nat) : ∀ (l : List UInt8) (off : Nat) {ts : List Tk}, l.length ≤ N → lexL l off = .ok ts → ts.length ≤ l.length + 1 := by
  induction N with
  | zero =>
    intro l off ts hN h
    have : l = [] := List.eq_nil_of_length_eq_zero (by omega)
    subst this
    cases h
    exact Nat.le_refl _
  | succ N ih =>
    intro l off ts hN h
    rcases lex_cases l off with ⟨h1, h2⟩ | ⟨s, o, e, h1, h2, h3, h4⟩ | ⟨s, k, t, n, len, h1, h2, h3, h4, h5⟩
    · rw [h2] at h
      cases h
      simp
    · rw [h4] at h
      cases h
    · rw [h5] at h
      obtain ⟨ts', g1, rfl⟩ := LR.push_ok h
      have := ih _ _ (by rw [List.length_drop]; omega) g1
      rw [List.length_drop] at this
      simp only [List.length_cons]
      omega
theorem lex_err (N : Nat) : ∀ (l : List UInt8) (off : Nat) {a e : Nat}, l.length ≤ N → lexL l off = .bad a e → e ≠ 0 ∧ off ≤ a ∧ a < off + l.length ∧ e ≠ 2 := by
  induction N with
  | zero =>
    intro l off a e hN h
    have : l = [] := List.eq_nil_of_length_eq_zero (by omega)
    subst this
    cases h
  | succ N ih =>
    intro l off a e hN h
    rcases lex_cases l off with ⟨h1, h2⟩ | ⟨s, o, e', h1, h2, h3, h4⟩ | ⟨s, k, t, n, len, h1, h2, h3, h4, h5⟩
    · rw [h2] at h
      cases h
    · rw [h4] at h
      cases h
      have ho := tok_place h3 (by rw [Ne, List.drop_eq_nil_iff]; omega)
      rw [List.length_drop] at ho
      exact ⟨tok_err h3, by omega, by omega, tok_err2 h3⟩
    · rw [h5] at h
      have := ih _ _ (by rw [List.length_drop]; omega) (LR.push_bad h)
      rw [List.length_drop] at this
      exact ⟨this.1, by omega, by omega, this.2.2.2⟩

theorem lex_last (N : Nat) : ∀ (l : List UInt8) (off : Nat) {ts : List Tk}, l.length ≤ N → lexL l off = .ok ts → ∃ ts', ts = ts' ++ [endTk (off + l.length)] := by
  induction N with
  | zero =>
    intro l off ts hN h
    have : l = [] := List.eq_nil_of_length_eq_zero (by omega)
    subst this
    cases h
    exact ⟨[], rfl⟩
  | succ N ih =>
    intro l off ts hN h
    rcases lex_cases l off with ⟨h1, h2⟩ | ⟨s, o, e, h1, h2, h3, h4⟩ | ⟨s, k, t, n, len, h1, h2, h3, h4, h5⟩
    · rw [h2] at h
      cases h
      exact ⟨[], rfl⟩
    · rw [h4] at h
      cases h
    · rw [h5] at h
      obtain ⟨ts', g1, rfl⟩ := LR.push_ok h
      obtain ⟨ts2, rfl⟩ := ih _ _ (by rw [List.length_drop]; omega) g1
      rw [List.length_drop, show off + s + len + (l.length - (s + len)) = off + l.length by omega]
      exact ⟨_ :: ts2, rfl⟩

theorem isD_skip {c : UInt8} (h : isD c = true) : isBl c = false ∧ c.toNat ≠ 35 := by
  unfold isD at h
  have h := of_decide_eq_true h
  exact ⟨by unfold isBl; rw [decide_eq_false]; omega, by omega⟩
theorem isM_skip {c : UInt8} (h : isM c = true) : isBl c = false ∧ c.toNat ≠ 35 := by
  unfold isM at h
  have h := of_decide_eq_true h
  exact ⟨by unfold isBl; rw [decide_eq_false]; omega, by omega⟩
theorem tok_skip {l t : List UInt8} {k n len : Nat} (h : tokL l = .tok k t n len) : skipS false l = 0 ∧ k ≠ 0 := by
  cases l with
  | nil => cases h
  | cons c r =>
    simp only [tokL] at h
    split at h
    · rename_i q
      have := letter_skip q
      split at h
      · cases h
      · cases h
        exact ⟨not_skip r this.1 this.2, by decide⟩
    · split at h
      · rename_i q
        have := isD_skip q
        split at h
        · cases h
        · cases h
          exact ⟨not_skip r this.1 this.2, by decide⟩
      · split at h
        · rename_i q
          have e : c = 34 := UInt8.toNat_inj.1 q
          subst e
          split at h
          · cases h
            exact ⟨not_skip r (by decide) (by decide), by decide⟩
          · cases h
          · cases h
        · split at h
          · rename_i q
            have := isM_skip q
            cases h
            exact ⟨not_skip r this.1 this.2, by decide⟩
          · cases h

/-- a token's own bytes are that token -/
theorem lex_alone {l t : List UInt8} {k n len : Nat} (h : tokL l = .tok k t n len) : lexL (l.take len) 0 = .ok [⟨k, t, n, 0, len⟩, endTk len] := by
  have hl := tokL_len h
  have hj := tok_join h (y := []) (fun _ => Bd.nil _) (fun _ => Bd.nil _)
  rw [List.append_nil] at hj
  have hs := (tok_skip hj).1
  have hlen : (l.take len).length = len := by rw [List.length_take]; omega
  rw [lexL_tok (k := k) (t := t) (n := n) (len := len) (by rw [hs, hlen]; omega) (by rw [hs]; exact hj), hs, Nat.zero_add, Nat.zero_add]
  rw [List.drop_eq_nil_of_le (by omega), lexL_done rfl]
  rfl

theorem drop_cons {α : Type} {l : List α} {i : Nat} {x : α} {r : List α} (h : l.drop i = x :: r) : l[i]? = some x ∧ l.drop (i + 1) = r ∧ i < l.length := by
  have h0 : (l.drop i)[0]? = some x := by rw [h]; rfl
  rw [List.getElem?_drop, Nat.add_zero] at h0
  refine ⟨h0, ?_, ?_⟩
  · rw [← List.drop_drop, h]; rfl
  · rcases Nat.lt_or_ge i l.length with g | g
    · exact g
    · rw [List.getElem?_eq_none g] at h0; cases h0

theorem lex_order (N : Nat) : ∀ (l : List UInt8) (off : Nat) {ts : List Tk}, l.length ≤ N → lexL l off = .ok ts → ∀ x ∈ ts, x.a ≤ x.e ∧ x.e ≤ off + l.length := by
  induction N with
  | zero =>
    intro l off ts hN h
    have : l = [] := List.eq_nil_of_length_eq_zero (by omega)
    subst this
    cases h
    intro x hx
    rw [List.mem_singleton] at hx
    subst hx
    exact ⟨Nat.le_refl _, Nat.le_refl _⟩
  | succ N ih =>
    intro l off ts hN h
    rcases lex_cases l off with ⟨h1, h2⟩ | ⟨s, o, e, h1, h2, h3, h4⟩ | ⟨s, k, t, n, len, h1, h2, h3, h4, h5⟩
    · rw [h2] at h
      cases h
      intro x hx
      rw [List.mem_singleton] at hx
      subst hx
      exact ⟨Nat.le_refl _, Nat.le_refl _⟩
    · rw [h4] at h
      cases h
    · rw [h5] at h
      obtain ⟨ts', g1, rfl⟩ := LR.push_ok h
      intro x hx
      rcases List.mem_cons.1 hx with rfl | hx
      · show off + s ≤ off + s + len ∧ off + s + len ≤ off + l.length
        omega
      · have := ih _ _ (by rw [List.length_drop]; omega) g1 x hx
        rw [List.length_drop] at this
        omega

/-- what is read of a text ends in the end, and it stands nowhere else -/
def TkEnds (T : List Tk) : Prop := ∀ i x, T[i]? = some x → (x.k = 0 ↔ i + 1 = T.length)
theorem lex_ends (N : Nat) : ∀ (l : List UInt8) (off : Nat) {ts : List Tk}, l.length ≤ N → lexL l off = .ok ts → TkEnds ts := by
  induction N with
  | zero =>
    intro l off ts hN h
    have : l = [] := List.eq_nil_of_length_eq_zero (by omega)
    subst this
    cases h
    intro i x hx
    rcases i with _ | i
    · cases hx
      exact ⟨fun _ => rfl, fun _ => rfl⟩
    · simp at hx
  | succ N ih =>
    intro l off ts hN h
    rcases lex_cases l off with ⟨h1, h2⟩ | ⟨s, o, e, h1, h2, h3, h4⟩ | ⟨s, k, t, n, len, h1, h2, h3, h4, h5⟩
    · rw [h2] at h
      cases h
      intro i x hx
      rcases i with _ | i
      · cases hx
        exact ⟨fun _ => rfl, fun _ => rfl⟩
      · simp at hx
    · rw [h4] at h
      cases h
    · rw [h5] at h
      obtain ⟨ts', g1, rfl⟩ := LR.push_ok h
      have hd := ih _ _ (by rw [List.length_drop]; omega) g1
      obtain ⟨ts2, e2⟩ := lex_last _ _ _ (Nat.le_refl _) g1
      have hlen : 1 ≤ ts'.length := by rw [e2, List.length_append]; show 1 ≤ _ + 1; omega
      intro i x hx
      rcases i with _ | i
      · cases hx
        refine ⟨fun e => absurd e (tok_skip h4).2, fun e => ?_⟩
        rw [List.length_cons] at e
        omega
      · rw [List.getElem?_cons_succ] at hx
        rw [hd i x hx, List.length_cons]
        omega
end Go.Proofs.YtmbiompmhaiehaaDoor
/- Printing, plain: raw nodes, what they are together, the text of each. No walk here. -/
namespace Go.Proofs.YtmbiompmhaiehaaDoor

/-- a node as it may come in -/
structure Rn where
  op : Int
  n : Int
  num : Nat
  t : List UInt8
  a : Int
/-- how many kids a node has, if it can stand in an expression at all -/
def arity (x : Rn) : Option Nat :=
  if x.op = 1 then (if x.n = 0 ∧ x.t = [] then some 0 else none)
  else if x.op = 2 then (if x.n = 0 ∧ x.num = 0 then some 0 else none)
  else if x.op = 9 then (if 1 ≤ x.n ∧ x.num = 0 ∧ x.t = [] then some x.n.toNat else none)
  else if x.n = 0 ∧ x.num = 0 ∧ x.t = [] then
    (if x.op = 3 ∨ x.op = 4 then some 0
    else if x.op = 5 ∨ x.op = 11 ∨ x.op = 12 then some 1
    else if x.op = 6 ∨ x.op = 7 ∨ x.op = 8 ∨ x.op = 10 then some 2
    else none)
  else none
def sTrue : List UInt8 := [116, 114, 117, 101]
def sFalse : List UInt8 := [102, 97, 108, 115, 101]
def sCat : List UInt8 := [99, 97, 116, 40]
def sRep : List UInt8 := [114, 101, 112, 40]
def sLen : List UInt8 := [108, 101, 110, 40]
def sHex : List UInt8 := [104, 101, 120, 40]
def aheadL (x : Rn) : List UInt8 :=
  if x.op = 1 then Lib.decDigits x.num else if x.op = 2 then quoteL x.t else if x.op = 3 then sTrue else if x.op = 4 then sFalse else if x.op = 5 then [45]
  else if x.op = 6 ∨ x.op = 7 ∨ x.op = 8 then [40] else if x.op = 9 then sCat else if x.op = 10 then sRep else if x.op = 11 then sLen else sHex
def betwL (x : Rn) : List UInt8 := if x.op = 6 then [32, 43, 32] else if x.op = 7 then [32, 45, 32] else if x.op = 8 then [32, 42, 32] else [44, 32]
def behL (x : Rn) : List UInt8 := if 6 ≤ x.op then [41] else []
/-- texts with one between each two -/
def inter (b : List UInt8) : List (List UInt8) → List UInt8
  | [] => []
  | k :: r => k ++ (r.flatMap fun x => b ++ x)
/-- texts with a blank between each two -/
def blankL (l : List (List UInt8)) : List UInt8 := inter [32] l
theorem inter_snoc (b : List UInt8) (l : List (List UInt8)) (x : List UInt8) (h : l ≠ []) : inter b (l ++ [x]) = inter b l ++ (b ++ x) := by
  cases l with
  | nil => exact absurd rfl h
  | cons k r => simp [inter]
theorem inter_one (b x : List UInt8) : inter b [x] = x := by simp [inter]

/-- a subtree: its root's place, where it begins, how deep it is, its text -/
structure Pe where
  r : Nat
  fi : Nat
  dp : Nat
  tx : List UInt8
def bottom (i : Nat) : List Pe → Nat
  | [] => i
  | e :: r => bottom e.fi r
def deepest (ks : List Pe) : Nat := ks.foldl (fun d e => max d e.dp) 0
/-- a node over its kids, the last kid first -/
def overP (i : Nat) (x : Rn) (ks : List Pe) : Pe := ⟨i, bottom i ks, deepest ks + 1, aheadL x ++ inter (betwL x) (ks.reverse.map (·.tx)) ++ behL x⟩
def pushP (i : Nat) (x : Rn) (P : List Pe) : Option (List Pe) := match arity x with
  | none => none
  | some k => if k ≤ P.length then some (overP i x (P.take k) :: P.drop k) else none
/-- what stands, the last first, behind so many nodes -/
def pileP (N : List Rn) : Nat → Option (List Pe)
  | 0 => some []
  | i + 1 => match pileP N i, N[i]? with
    | some P, some x => pushP i x P
    | _, _ => none
def exprP (N : List Rn) : Option Pe := match pileP N N.length with
  | some [e] => some e
  | _ => none
/-- each stands right ahead of the next, the lowest at the beginning -/
def Chain : List Pe → Nat → Prop
  | [], i => i = 0
  | e :: P, i => e.r + 1 = i ∧ e.fi ≤ e.r ∧ Chain P e.fi
section
variable {N : List Rn}
theorem chain_drop : ∀ (P : List Pe) (i k : Nat), Chain P i → Chain (P.drop k) (bottom i (P.take k))
  | [], i, k, h => by simpa [bottom] using h
  | e :: P, i, 0, h => by simpa [bottom] using h
  | e :: P, i, k + 1, h => by
    have := chain_drop P e.fi k h.2.2
    rw [List.drop_succ_cons, List.take_succ_cons]
    exact this
theorem bottom_le : ∀ (P : List Pe) (i k : Nat), Chain P i → bottom i (P.take k) ≤ i
  | [], i, k, h => by simp [bottom]
  | e :: P, i, 0, h => by simp [bottom]
  | e :: P, i, k + 1, h => by
    have := bottom_le P e.fi k h.2.2
    rw [List.take_succ_cons]
    show bottom e.fi (P.take k) ≤ i
    have h1 := h.1
    have h2 := h.2.1
    omega
theorem chain_len : ∀ (P : List Pe) (i : Nat), Chain P i → P.length ≤ i
  | [], i, h => Nat.zero_le _
  | e :: P, i, h => by
    have := chain_len P e.fi h.2.2
    have h1 := h.1
    have h2 := h.2.1
    rw [List.length_cons]
    omega
theorem push_some {i : Nat} {x : Rn} {P Q : List Pe} (h : pushP i x P = some Q) : ∃ k, arity x = some k ∧ k ≤ P.length ∧ Q = overP i x (P.take k) :: P.drop k := by
  unfold pushP at h
  split at h
  · cases h
  · rename_i k hk
    split at h
    · rename_i hl
      exact ⟨k, hk, hl, (Option.some.inj h).symm⟩
    · cases h
theorem pile_succ {i : Nat} {Q : List Pe} (h : pileP N (i + 1) = some Q) : ∃ P x k, pileP N i = some P ∧ N[i]? = some x ∧ arity x = some k ∧ k ≤ P.length ∧ Q = overP i x (P.take k) :: P.drop k := by
  conv at h => lhs; unfold pileP
  split at h
  · rename_i P x hP hx
    obtain ⟨k, h1, h2, h3⟩ := push_some h
    exact ⟨P, x, k, hP, hx, h1, h2, h3⟩
  · cases h
theorem pile_chain : ∀ (i : Nat) (P : List Pe), pileP N i = some P → Chain P i
  | 0, P, h => by
    cases h
    rfl
  | i + 1, Q, h => by
    obtain ⟨P, x, k, hP, _, _, _, rfl⟩ := pile_succ h
    have hc := pile_chain i P hP
    exact ⟨rfl, bottom_le P i k hc, chain_drop P i k hc⟩
/-- what stands in the pile stood on its top right behind its root -/
theorem pile_mem : ∀ (i : Nat) (P : List Pe), pileP N i = some P → ∀ e ∈ P, e.r < i ∧ ∃ P', pileP N (e.r + 1) = some (e :: P')
  | 0, P, h, e, he => by
    cases h
    cases he
  | i + 1, Q, h, e, he => by
    have hq := h
    obtain ⟨P, x, k, hP, _, _, _, rfl⟩ := pile_succ h
    rcases List.mem_cons.1 he with rfl | he
    · exact ⟨Nat.lt_succ_self i, _, hq⟩
    · obtain ⟨h1, h2⟩ := pile_mem i P hP e (List.mem_of_mem_drop he)
      exact ⟨Nat.lt_succ_of_lt h1, h2⟩
theorem pile_back {i : Nat} {P : List Pe} (h : pileP N i = some P) (j : Nat) (hj : j ≤ i) : ∃ Q, pileP N j = some Q := by
  induction i generalizing P with
  | zero =>
    obtain rfl : j = 0 := by omega
    exact ⟨_, h⟩
  | succ i ih =>
    by_cases hji : j = i + 1
    · subst hji
      exact ⟨_, h⟩
    · obtain ⟨P', x, k, hP, _⟩ := pile_succ h
      exact ih hP (by omega)
theorem pile_none {i : Nat} (h : pileP N i = none) (j : Nat) (hj : i ≤ j) : pileP N j = none := by
  cases hq : pileP N j with
  | none => rfl
  | some Q =>
    obtain ⟨P, hP⟩ := pile_back hq i hj
    rw [h] at hP
    cases hP
theorem pile_le {i : Nat} {P : List Pe} (h : pileP N i = some P) : i ≤ N.length := by
  cases i with
  | zero => exact Nat.zero_le _
  | succ i =>
    obtain ⟨_, x, _, _, hx, _⟩ := pile_succ h
    exact (List.getElem?_eq_some_iff.1 hx).1
/-- the subtree whose root stands there -/
def peAt (N : List Rn) (j : Nat) (e : Pe) : Prop := ∃ P, pileP N (j + 1) = some (e :: P)
theorem peAt_one {j : Nat} {e f : Pe} (h : peAt N j e) (g : peAt N j f) : e = f := by
  obtain ⟨P, h⟩ := h
  obtain ⟨Q, g⟩ := g
  rw [h] at g
  cases g
  rfl
theorem peAt_r {j : Nat} {e : Pe} (h : peAt N j e) : e.r = j := by
  obtain ⟨P, h⟩ := h
  obtain ⟨_, _, _, _, _, _, _, h⟩ := pile_succ h
  cases h
  rfl
theorem peAt_of {i j : Nat} {P : List Pe} (h : pileP N i = some P) (hj : j < i) : ∃ e, peAt N j e := by
  obtain ⟨Q, hQ⟩ := pile_back h (j + 1) hj
  obtain ⟨_, _, _, _, _, _, _, hq⟩ := pile_succ hQ
  exact ⟨_, _, hq ▸ hQ⟩
theorem expr_some {e : Pe} (h : exprP N = some e) : pileP N N.length = some [e] := by
  unfold exprP at h
  split at h
  · rename_i e' he
    rw [he, Option.some.inj h]
  · cases h
theorem expr_at {e : Pe} (h : exprP N = some e) : 0 < N.length ∧ peAt N (N.length - 1) e ∧ e.fi = 0 := by
  have hp := expr_some h
  have hc := pile_chain _ _ hp
  have h1 : e.r + 1 = N.length := hc.1
  refine ⟨by omega, ⟨[], ?_⟩, hc.2.2⟩
  rw [show N.length - 1 + 1 = N.length by omega]
  exact hp
/-- the greatest depth of all stands on the pile -/
theorem deep_le {ks : List Pe} {e : Pe} (h : e ∈ ks) : e.dp ≤ deepest ks := by
  unfold deepest
  have : ∀ (l : List Pe) (d : Nat), d ≤ l.foldl (fun d e => max d e.dp) d ∧ ∀ e ∈ l, e.dp ≤ l.foldl (fun d e => max d e.dp) d := by
    intro l
    induction l with
    | nil => exact fun d => ⟨Nat.le_refl _, nofun⟩
    | cons a r ih =>
      intro d
      obtain ⟨h1, h2⟩ := ih (max d a.dp)
      refine ⟨by rw [List.foldl_cons]; omega, fun e he => ?_⟩
      rw [List.foldl_cons]
      rcases List.mem_cons.1 he with rfl | he
      · omega
      · exact h2 e he
  exact (this ks 0).2 e h
theorem deepest_le {ks : List Pe} {m : Nat} (h : ∀ e ∈ ks, e.dp ≤ m) : deepest ks ≤ m := by
  unfold deepest
  have : ∀ (l : List Pe) (d : Nat), d ≤ m → (∀ e ∈ l, e.dp ≤ m) → l.foldl (fun d e => max d e.dp) d ≤ m := by
    intro l
    induction l with
    | nil => exact fun d h _ => h
    | cons a r ih => exact fun d h hl => ih _ (by have := hl a (.head _); show max d a.dp ≤ m; omega) fun e he => hl e (.tail _ he)
  exact this ks 0 (Nat.zero_le _) h
theorem pile_dp : ∀ (i : Nat) (P : List Pe), pileP N i = some P → ∀ e ∈ P, e.dp ≤ e.r + 1
  | 0, P, h, e, he => by
    cases h
    cases he
  | i + 1, Q, h, e, he => by
    obtain ⟨P, x, k, hP, _, _, _, rfl⟩ := pile_succ h
    rcases List.mem_cons.1 he with rfl | he
    · refine Nat.succ_le_succ (deepest_le fun e he => ?_)
      have h1 := pile_dp i P hP e (List.mem_of_mem_take he)
      have h2 := (pile_mem i P hP e (List.mem_of_mem_take he)).1
      show e.dp ≤ i
      omega
    · exact pile_dp i P hP e (List.mem_of_mem_drop he)
end
theorem arity_op {x : Rn} {k : Nat} (h : arity x = some k) : (x.op = 1 ∧ k = 0) ∨ (x.op = 2 ∧ k = 0) ∨ (x.op = 3 ∧ k = 0) ∨ (x.op = 4 ∧ k = 0) ∨ (x.op = 5 ∧ k = 1) ∨ (x.op = 6 ∧ k = 2) ∨ (x.op = 7 ∧ k = 2) ∨ (x.op = 8 ∧ k = 2) ∨ (x.op = 9 ∧ 1 ≤ k) ∨ (x.op = 10 ∧ k = 2) ∨ (x.op = 11 ∧ k = 1) ∨ (x.op = 12 ∧ k = 1) := by
  unfold arity at h
  repeat' split at h
  all_goals first
    | (cases h; omega)
    | (cases h; done)
theorem expr_nil {N : List Rn} (h : N.length = 0) : exprP N = none := by
  unfold exprP
  rw [h]
  rfl
end Go.Proofs.YtmbiompmhaiehaaDoor
