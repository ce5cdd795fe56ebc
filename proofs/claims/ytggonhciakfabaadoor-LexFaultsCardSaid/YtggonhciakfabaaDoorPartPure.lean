/- Plain functions of layer 7: where a text stands in another, what is ahead and behind, texts put together, repeated, read from digits of base 16. No walk here. -/
import Derived.Test.YtggonhciakfabaaDoorBytMem
import Derived.Lib.Index
import Derived.Lib.IndexLaws
import Derived.Lib.IndexBytes
namespace Go.Proofs.YtggonhciakfabaaDoor
open Go.RowKit

/-- the bytes of a text -/
abbrev ls (s : ByteArray) : List UInt8 := s.data.toList

theorem ls_size (s : ByteArray) : (ls s).length = s.size := (Lib.size_eq s).symm
theorem str_ls (s : ByteArray) : str (ls s) = s := by
  obtain ⟨d⟩ := s
  simp [str, ls]
theorem ls_str (l : List UInt8) : ls (str l) = l := by simp [ls, str]
theorem str_size (l : List UInt8) : (str l).size = l.length := by rw [← ls_size, ls_str]
theorem ls_inj {a b : ByteArray} (h : ls a = ls b) : a = b := by rw [← str_ls a, ← str_ls b, h]
theorem str_inj {a b : List UInt8} (h : str a = str b) : a = b := by rw [← ls_str a, ← ls_str b, h]
theorem beq_ls (a b : ByteArray) : (a.toList == b.toList) = decide (a = b) := by
  have := str_eq (ls a) (ls b)
  rw [str_ls, str_ls] at this
  rw [this]
  by_cases h : a = b
  · subst h; simp
  · rw [decide_eq_false h, decide_eq_false fun e => h (ls_inj e)]
theorem ls_extract (s : ByteArray) (a b : Nat) : ls (s.extract a b) = (((ls s).drop a).take (b - a)) := Lib.extract_data s a b
theorem ls_append (a b : ByteArray) : ls (a ++ b) = ls a ++ ls b := by simp [ls]

/-- where sep stands in s first -/
def ix (s sep : ByteArray) : Int := if sep.size = 0 then -1 else Lib.index (ls s) (ls sep)

/-- sep stands at k -/
def At (s sep : ByteArray) (k : Nat) : Prop := k + sep.size ≤ s.size ∧ s.extract k (k + sep.size) = sep

theorem occ_at {s sep : ByteArray} (h0 : sep.size ≠ 0) (k : Nat) : Lib.occAt (ls s) (ls sep) k = true ↔ At s sep k := by
  constructor
  · intro h
    rcases Lib.occAt_room h with hr | hr
    · rw [ls_size, ls_size] at hr
      refine ⟨hr, ?_⟩
      rw [Lib.occ_of_piece s sep k hr, beq_ls] at h
      simpa using h
    · exact absurd (by rw [← ls_size, hr]; rfl) h0
  · rintro ⟨hr, he⟩
    rw [Lib.occ_of_piece s sep k hr, beq_ls, he]
    simp

/-- it stands at k, and nowhere earlier -/
def First (s sep : ByteArray) (k : Nat) : Prop := At s sep k ∧ ∀ j, j < k → ¬ At s sep j

theorem ix_empty {s sep : ByteArray} (h : sep.size = 0) : ix s sep = -1 := if_pos h
theorem ix_first {s sep : ByteArray} (h0 : sep.size ≠ 0) {k : Nat} (h : First s sep k) : ix s sep = k := by
  unfold ix
  rw [if_neg h0]
  refine Lib.index_first (by rw [ls_size]; have := h.1.1; omega) ((occ_at h0 k).2 h.1) fun j hj => ?_
  cases hc : Lib.occAt (ls s) (ls sep) j with
  | false => rfl
  | true => exact absurd ((occ_at h0 j).1 hc) (h.2 j hj)
theorem ix_none {s sep : ByteArray} (h : ∀ k, ¬ At s sep k) : ix s sep = -1 := by
  by_cases h0 : sep.size = 0
  · exact ix_empty h0
  · unfold ix
    rw [if_neg h0]
    refine Lib.index_none fun j _ => ?_
    cases hc : Lib.occAt (ls s) (ls sep) j with
    | false => rfl
    | true => exact absurd ((occ_at h0 j).1 hc) (h j)

theorem least {p : Nat → Prop} (h : ∃ k, p k) : ∃ k, p k ∧ ∀ j, j < k → ¬ p j := by
  obtain ⟨k, hk⟩ := h
  induction k using Nat.strongRecOn with
  | ind k ih =>
    by_cases hj : ∃ j, j < k ∧ p j
    · obtain ⟨j, hlt, hp⟩ := hj
      exact ih j hlt hp
    · exact ⟨k, hk, fun j hlt hp => hj ⟨j, hlt, hp⟩⟩

theorem ix_cases (s sep : ByteArray) : (ix s sep = -1 ∧ (sep.size = 0 ∨ ∀ k, ¬ At s sep k)) ∨ (∃ k : Nat, ix s sep = k ∧ sep.size ≠ 0 ∧ First s sep k) := by
  by_cases h0 : sep.size = 0
  · exact .inl ⟨ix_empty h0, .inl h0⟩
  · by_cases h : ∃ k, At s sep k
    · obtain ⟨k, hk⟩ := least h
      exact .inr ⟨k, ix_first h0 hk, h0, hk⟩
    · have hn : ∀ k, ¬ At s sep k := fun k hk => h ⟨k, hk⟩
      exact .inl ⟨ix_none hn, .inr hn⟩

/-- what is ahead, what is behind -/
def hd (s sep : ByteArray) : ByteArray := if ix s sep = -1 then s else s.extract 0 (ix s sep).toNat
def tl (s sep : ByteArray) : ByteArray := if ix s sep = -1 then ByteArray.empty else s.extract ((ix s sep).toNat + sep.size) s.size

theorem hd_none {s sep : ByteArray} (h : ix s sep = -1) : hd s sep = s := if_pos h
theorem tl_none {s sep : ByteArray} (h : ix s sep = -1) : tl s sep = ByteArray.empty := if_pos h
theorem hd_at {s sep : ByteArray} {k : Nat} (h : ix s sep = k) : hd s sep = s.extract 0 k := by
  unfold hd
  rw [if_neg (by omega), h]
  rfl
theorem tl_at {s sep : ByteArray} {k : Nat} (h : ix s sep = k) : tl s sep = s.extract (k + sep.size) s.size := by
  unfold tl
  rw [if_neg (by omega), h]
  rfl

/-- texts one behind the other -/
def catL (xs : List ByteArray) : List UInt8 := (xs.map ls).flatten
def cat (xs : List ByteArray) : ByteArray := str (catL xs)
theorem catL_cons (x : ByteArray) (r : List ByteArray) : catL (x :: r) = ls x ++ catL r := rfl
theorem catL_nil : catL [] = [] := rfl
theorem catL_append (a b : List ByteArray) : catL (a ++ b) = catL a ++ catL b := by simp [catL]
def lens (xs : List ByteArray) : Nat := (catL xs).length
theorem lens_cons (x : ByteArray) (r : List ByteArray) : lens (x :: r) = x.size + lens r := by
  unfold lens
  rw [catL_cons, List.length_append, ls_size]
theorem catL_take (xs : List ByteArray) (k : Nat) (h : k < xs.length) : catL (xs.take (k + 1)) = catL (xs.take k) ++ ls xs[k] := by
  rw [List.take_succ_eq_append_getElem h, catL_append]
  simp [catL]
theorem lens_take (xs : List ByteArray) (k : Nat) (h : k < xs.length) : lens (xs.take (k + 1)) = lens (xs.take k) + xs[k].size := by
  unfold lens
  rw [catL_take xs k h, List.length_append, ls_size]
theorem lens_take_le (xs : List ByteArray) (k : Nat) : lens (xs.take k) ≤ lens xs := by
  have h : catL xs = catL (xs.take k) ++ catL (xs.drop k) := by rw [← catL_append, List.take_append_drop]
  unfold lens
  rw [h, List.length_append]
  omega
theorem cat_one (s : ByteArray) : cat [s] = s := by unfold cat; rw [catL_cons, catL_nil, List.append_nil, str_ls]
theorem cat_three (a b c : ByteArray) : cat [a, b, c] = a ++ b ++ c := by
  apply ls_inj
  unfold cat
  rw [ls_str, ls_append, ls_append, catL_cons, catL_cons, catL_cons, catL_nil, List.append_nil, List.append_assoc]
theorem lens_three (a b c : ByteArray) : lens [a, b, c] = a.size + b.size + c.size := by
  rw [lens_cons, lens_cons, lens_cons]
  show _ + (_ + (_ + 0)) = _
  omega

/-- what was cut, put together again -/
theorem halves {s sep : ByteArray} {k : Nat} (h : At s sep k) : s.extract 0 k ++ sep ++ s.extract (k + sep.size) s.size = s := by
  apply ls_inj
  have h1 := h.1
  have h2 := congrArg ls h.2
  rw [ls_extract] at h2
  rw [ls_append, ls_append, ls_extract, ls_extract]
  rw [show k + sep.size - k = sep.size by omega] at h2
  rw [← h2]
  have e : (ls s).drop (k + sep.size) = ((ls s).drop k).drop sep.size := by rw [List.drop_drop]
  rw [List.take_of_length_le (l := (ls s).drop (k + sep.size)) (by rw [List.length_drop, ls_size]; omega), e, List.append_assoc, List.take_append_drop, List.drop_zero, Nat.sub_zero, List.take_append_drop]

/-- s n times -/
def rpL (s : ByteArray) (n : Nat) : List UInt8 := catL (List.replicate n s)
def rp (s : ByteArray) (n : Nat) : ByteArray := str (rpL s n)
theorem rpL_len (s : ByteArray) (n : Nat) : (rpL s n).length = n * s.size := by
  induction n with
  | zero => simp [rpL, catL]
  | succ n ih =>
    unfold rpL at ih ⊢
    rw [List.replicate_succ, catL_cons, List.length_append, ls_size, ih, Nat.add_mul]
    omega
theorem rpL_succ (s : ByteArray) (n : Nat) : rpL s (n + 1) = rpL s n ++ ls s := by
  unfold rpL
  rw [List.replicate_succ', catL_append, catL_cons, catL_nil, List.append_nil]
theorem rpL_add (s : ByteArray) (n m : Nat) : rpL s (n + m) = rpL s n ++ rpL s m := by
  unfold rpL
  rw [← List.replicate_append_replicate, catL_append]
theorem rp_size (s : ByteArray) (n : Nat) : (rp s n).size = n * s.size := by unfold rp; rw [str_size, rpL_len]
theorem rp_add (s : ByteArray) (n m : Nat) : rp s (n + m) = rp s n ++ rp s m := by
  apply ls_inj
  unfold rp
  rw [ls_append, ls_str, ls_str, ls_str, rpL_add]
theorem rp_empty {s : ByteArray} (h : s.size = 0) (n : Nat) : rp s n = ByteArray.empty := by
  apply ls_inj
  unfold rp
  rw [ls_str]
  have : (rpL s n).length = 0 := by rw [rpL_len, h, Nat.mul_zero]
  rw [List.eq_nil_of_length_eq_zero this]
  rfl
theorem rp_zero (s : ByteArray) : rp s 0 = ByteArray.empty := rfl

/-- what Rep answers -/
def repT (s : ByteArray) (n : Nat) : ByteArray := if n * s.size ≤ 4096 then rp s n else ByteArray.empty
def repE (s : ByteArray) (n : Nat) : Int := if n * s.size ≤ 4096 then 0 else 2

/-- what a digit says; 16 of none -/
def dv (c : Nat) : Nat := if 48 ≤ c ∧ c ≤ 57 then c - 48 else if 97 ≤ c ∧ c ≤ 102 then c - 87 else if 65 ≤ c ∧ c ≤ 70 then c - 55 else 16
theorem dv_le (c : Nat) : dv c ≤ 16 := by
  unfold dv
  split
  · omega
  · split
    · omega
    · split <;> omega

/-- the bytes that digits say -/
def hexL : List UInt8 → Option (List UInt8)
  | [] => some []
  | [_] => none
  | a :: b :: r => if dv a.toNat = 16 ∨ dv b.toNat = 16 then none else (hexL r).map fun t => UInt8.ofNat (16 * dv a.toNat + dv b.toNat) :: t
theorem hexL_odd : ∀ {l : List UInt8}, l.length % 2 ≠ 0 → hexL l = none
  | [], h => absurd rfl h
  | [_], _ => rfl
  | a :: b :: r, h => by
    have ih : hexL r = none := hexL_odd (by simp only [List.length_cons] at h; omega)
    unfold hexL
    rw [ih]
    simp
theorem hexL_len : ∀ {l t : List UInt8}, hexL l = some t → 2 * t.length = l.length
  | [], t, h => by
    have : [] = t := Option.some.inj h
    subst this; rfl
  | [_], t, h => by cases h
  | a :: b :: r, t, h => by
    unfold hexL at h
    split at h
    · cases h
    · obtain ⟨u, hu, rfl⟩ := Option.map_eq_some_iff.1 h
      have := hexL_len hu
      simp only [List.length_cons]
      omega
/-- one pair more -/
theorem hexL_drop (l : List UInt8) (k : Nat) (h : k + 1 < l.length) : hexL (l.drop k) = if dv (l[k]'(by omega)).toNat = 16 ∨ dv l[k + 1].toNat = 16 then none else (hexL (l.drop (k + 2))).map fun t => UInt8.ofNat (16 * dv (l[k]'(by omega)).toNat + dv l[k + 1].toNat) :: t := by
  rw [List.drop_eq_getElem_cons (by omega), List.drop_eq_getElem_cons h]
  rfl

/-- what Hex answers -/
def hexT (s : ByteArray) : ByteArray := match hexL (ls s) with | some t => str t | none => ByteArray.empty
def hexE (s : ByteArray) : Int := match hexL (ls s) with | some _ => 0 | none => 111
theorem hex_some {s : ByteArray} {t : List UInt8} (h : hexL (ls s) = some t) : hexT s = str t ∧ hexE s = 0 := by unfold hexT hexE; rw [h]; exact ⟨rfl, rfl⟩
theorem hex_none {s : ByteArray} (h : hexL (ls s) = none) : hexT s = ByteArray.empty ∧ hexE s = 111 := by unfold hexT hexE; rw [h]; exact ⟨rfl, rfl⟩
end Go.Proofs.YtggonhciakfabaaDoor
