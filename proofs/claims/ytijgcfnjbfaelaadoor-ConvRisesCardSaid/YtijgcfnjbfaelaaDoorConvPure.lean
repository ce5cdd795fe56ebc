/- What is true of conversions, in plain words: the table, digits, what Apply answers, there and back, the order. No walk here. -/
import Derived.Test.YtijgcfnjbfaelaaDoorUtfMem
import Derived.Test.YtijgcfnjbfaelaaDoorKindPure
namespace Go.Proofs.YtijgcfnjbfaelaaDoor
open Go.RowKit

/-- the kinds that a conversion takes and makes; the conversion between two kinds; those that never fail -/
def cfr (n : Int) : Int := if n = 1 ∨ n = 3 ∨ n = 10 then 1 else if n = 2 ∨ n = 4 then 2 else if n = 7 ∨ n = 9 then 3 else if n = 5 ∨ n = 6 ∨ n = 8 ∨ n = 11 then 4 else if n = 12 then 5 else 0
def cto (n : Int) : Int := if n = 2 ∨ n = 5 ∨ n = 9 then 1 else if n = 1 ∨ n = 6 then 2 else if n = 8 ∨ n = 10 then 3 else if n = 3 ∨ n = 4 ∨ n = 7 ∨ n = 12 then 4 else if n = 11 then 5 else 0
def cbe (f t : Int) : Int :=
  if f = 1 then (if t = 2 then 1 else if t = 4 then 3 else if t = 3 then 10 else 0)
  else if f = 2 then (if t = 1 then 2 else if t = 4 then 4 else 0)
  else if f = 3 then (if t = 4 then 7 else if t = 1 then 9 else 0)
  else if f = 4 then (if t = 1 then 5 else if t = 2 then 6 else if t = 3 then 8 else if t = 5 then 11 else 0)
  else if f = 5 then (if t = 4 then 12 else 0)
  else 0
def csu (n : Int) : Bool := decide (n = 3 ∨ n = 4 ∨ n = 7 ∨ n = 9 ∨ n = 11)

/-! digits -/
/-- a number's decimal digits -/
def dg (n : Nat) : List UInt8 := if n < 10 then [(48 + n).toUInt8] else dg (n / 10) ++ [(48 + n % 10).toUInt8]
termination_by n
def isD (b : UInt8) : Bool := decide (48 ≤ b.toNat) && decide (b.toNat ≤ 57)
def allD (l : List UInt8) : Bool := l.all isD
/-- the number that digits write -/
def dva (l : List UInt8) : Nat := l.foldl (fun a b => a * 10 + (b.toNat - 48)) 0

theorem dg_small {n : Nat} (h : n < 10) : dg n = [(48 + n).toUInt8] := by rw [dg, if_pos h]
theorem dg_big {n : Nat} (h : ¬ n < 10) : dg n = dg (n / 10) ++ [(48 + n % 10).toUInt8] := by rw [dg, if_neg h]
theorem dva_snoc (l : List UInt8) (b : UInt8) : dva (l ++ [b]) = dva l * 10 + (b.toNat - 48) := by simp [dva]
theorem d8 {d : Nat} (h : d < 10) : (48 + d).toUInt8.toNat = 48 + d := by
  rw [Nat.toUInt8_eq, UInt8.toNat_ofNat']; omega
theorem dva_dg (n : Nat) : dva (dg n) = n := by
  induction n using Nat.strongRecOn with
  | ind n ih =>
    by_cases h : n < 10
    · rw [dg_small h]; unfold dva; simp only [List.foldl_cons, List.foldl_nil]; rw [d8 h]; omega
    · rw [dg_big h, dva_snoc, ih (n / 10) (by omega), d8 (by omega)]; omega
theorem isD_d {d : Nat} (h : d < 10) : isD (48 + d).toUInt8 = true := by
  unfold isD; rw [d8 h, decide_eq_true (show 48 ≤ 48 + d by omega), decide_eq_true (show 48 + d ≤ 57 by omega)]; rfl
theorem allD_app (a b : List UInt8) : allD (a ++ b) = (allD a && allD b) := by unfold allD; rw [List.all_append]
theorem allD_dg (n : Nat) : allD (dg n) = true := by
  induction n using Nat.strongRecOn with
  | ind n ih =>
    by_cases h : n < 10
    · rw [dg_small h]; unfold allD; simp only [List.all_cons, List.all_nil, isD_d h]; rfl
    · rw [dg_big h, allD_app, ih (n / 10) (by omega)]
      unfold allD
      simp only [List.all_cons, List.all_nil, isD_d (show n % 10 < 10 by omega)]; rfl
theorem dg_ne (n : Nat) : dg n ≠ [] := by
  by_cases h : n < 10
  · rw [dg_small h]; simp
  · rw [dg_big h]; simp
theorem dg_len : ∀ (k n : Nat), n < 10 ^ k → (dg n).length ≤ k + 1
  | 0, n, h => by
    rw [dg_small (by simp at h; omega)]; simp
  | k + 1, n, h => by
    by_cases g : n < 10
    · rw [dg_small g]; simp
    · rw [dg_big g, List.length_append]
      have := dg_len k (n / 10) (by rw [Nat.pow_succ] at h; omega)
      simp; omega
theorem dg_len64 {n : Nat} (h : n < 18446744073709551616) : (dg n).length ≤ 21 := dg_len 20 n (Nat.lt_of_lt_of_le h (by decide))
theorem dva_zeros (k : Nat) (l : List UInt8) : dva (List.replicate k 48 ++ l) = dva l := by
  induction k with
  | zero => rfl
  | succ k ih =>
    rw [List.replicate_succ, List.cons_append, ← ih]
    unfold dva
    rw [List.foldl_cons]; rfl
theorem allD_zeros (k : Nat) : allD (List.replicate k 48) = true := by
  unfold allD; rw [List.all_eq_true]; intro x hx
  rw [List.eq_of_mem_replicate hx]; rfl
/-- digits are no sign -/
theorem isD_head {b : UInt8} {t : List UInt8} (h : allD (b :: t) = true) : b ≠ 45 := by
  rintro rfl
  simp [allD, isD] at h
theorem dva_take {l : List UInt8} {k : Nat} {b : UInt8} (h : l[k]? = some b) : dva (l.take (k + 1)) = dva (l.take k) * 10 + (b.toNat - 48) := by
  rw [List.take_add_one, h]
  exact dva_snoc _ _
theorem dva_ge : ∀ (l : List UInt8) (k : Nat), dva (l.take k) ≤ dva l := by
  intro l k
  have q : ∀ (t : List UInt8) (a : Nat), a ≤ t.foldl (fun a b => a * 10 + (b.toNat - 48)) a := by
    intro t
    induction t with
    | nil => intro a; exact Nat.le_refl _
    | cons b t ih =>
      intro a
      rw [List.foldl_cons]
      have := ih (a * 10 + (b.toNat - 48))
      omega
  have e : dva l = (l.drop k).foldl (fun a b => a * 10 + (b.toNat - 48)) (dva (l.take k)) := by
    unfold dva; rw [← List.foldl_append, List.take_append_drop]
  rw [e]; exact q _ _
theorem ok_ascii {l : List UInt8} (h : ∀ b ∈ l, b.toNat < 128) : okL l = true := by
  rw [← validD_ok, Go.Lib.validD_ascii l.length l (fun b hb => h b (List.mem_of_mem_take hb)), List.drop_length]; rfl
theorem allD_ascii {l : List UInt8} (h : allD l = true) : ∀ b ∈ l, b.toNat < 128 := fun b hb => by
  have := List.all_eq_true.1 h b hb
  simp [isD] at this; omega
theorem dg_ok (n : Nat) : okL (dg n) = true := ok_ascii (allD_ascii (allD_dg n))

/-! reading -/
/-- what reading a text of digits answers: the error, the number -/
def rdE (most : Nat) (l : List UInt8) : Int := if l = [] ∨ allD l = false then 61 else if dva l ≤ most then 0 else 60
def rdN (most : Nat) (l : List UInt8) : Nat := if rdE most l = 0 then dva l else 0
theorem rd_bad {most : Nat} {l : List UInt8} (h : l = [] ∨ allD l = false) : rdE most l = 61 ∧ rdN most l = 0 := by
  have e : rdE most l = 61 := by unfold rdE; rw [if_pos h]
  exact ⟨e, by unfold rdN; rw [e]; rfl⟩
theorem rd_good {most : Nat} {l : List UInt8} (h : l ≠ []) (ha : allD l = true) (hm : dva l ≤ most) : rdE most l = 0 ∧ rdN most l = dva l := by
  have e : rdE most l = 0 := by unfold rdE; rw [if_neg (by simp [h, ha]), if_pos hm]
  exact ⟨e, by unfold rdN; rw [e]; rfl⟩
theorem rd_big {most : Nat} {l : List UInt8} (h : l ≠ []) (ha : allD l = true) (hm : most < dva l) : rdE most l = 60 ∧ rdN most l = 0 := by
  have e : rdE most l = 60 := by unfold rdE; rw [if_neg (by simp [h, ha]), if_neg (by omega)]
  exact ⟨e, by unfold rdN; rw [e]; rfl⟩
theorem rd_three (most : Nat) (l : List UInt8) : (rdE most l = 0 ∧ rdN most l ≤ most) ∨ (rdE most l = 60 ∧ rdN most l = 0) ∨ (rdE most l = 61 ∧ rdN most l = 0) := by
  by_cases h : l = [] ∨ allD l = false
  · exact .inr (.inr (rd_bad h))
  · have h1 : l ≠ [] := fun e => h (.inl e)
    have h2 : allD l = true := by cases q : allD l; exact absurd (.inr q) h; rfl
    by_cases hm : dva l ≤ most
    · have := rd_good h1 h2 hm
      exact .inl ⟨this.1, by omega⟩
    · exact .inr (.inl (rd_big h1 h2 (by omega)))

/-! Apply -/
def bFalse : List UInt8 := [102, 97, 108, 115, 101]
def bTrue : List UInt8 := [116, 114, 117, 101]
def v0 : Val := ⟨0, 0, ⟨#[]⟩⟩
/-- the text of an int -/
def ditx (n : Nat) : List UInt8 := if 9223372036854775808 ≤ n then 45 :: dg (18446744073709551616 - n) else dg n
/-- what text-int answers: the error, the number in 64 bits -/
def riE (l : List UInt8) : Int := match l with
  | 45 :: t => rdE 9223372036854775808 t
  | l => rdE 9223372036854775807 l
def riN (l : List UInt8) : Nat := match l with
  | 45 :: t => (18446744073709551616 - rdN 9223372036854775808 t) % 18446744073709551616
  | l => rdN 9223372036854775807 l
/-- what Apply answers of a value of the kind that the conversion takes -/
def cap (n : Int) (v : Val) : Int × Val :=
  if n = 1 ∨ n = 2 then (if 9223372036854775808 ≤ v.n then (60, v0) else (0, ⟨cto n, v.n, ⟨#[]⟩⟩))
  else if n = 3 then (0, ⟨4, 0, tx (dg v.n.toNat)⟩)
  else if n = 4 then (0, ⟨4, 0, tx (ditx v.n.toNat)⟩)
  else if n = 5 then (if rdE 18446744073709551615 (ls v.s) = 0 then (0, ⟨1, rdN 18446744073709551615 (ls v.s), ⟨#[]⟩⟩) else (rdE 18446744073709551615 (ls v.s), v0))
  else if n = 6 then (if riE (ls v.s) = 0 then (0, ⟨2, riN (ls v.s), ⟨#[]⟩⟩) else (riE (ls v.s), v0))
  else if n = 7 then (0, ⟨4, 0, tx (if v.n = 0 then bFalse else bTrue)⟩)
  else if n = 8 then (if ls v.s = bTrue then (0, ⟨3, 1, ⟨#[]⟩⟩) else if ls v.s = bFalse then (0, ⟨3, 0, ⟨#[]⟩⟩) else (63, v0))
  else if n = 9 then (0, ⟨1, v.n, ⟨#[]⟩⟩)
  else if n = 10 then (if 1 < v.n then (60, v0) else (0, ⟨3, v.n, ⟨#[]⟩⟩))
  else if n = 11 then (0, ⟨5, 0, v.s⟩)
  else (if okL (ls v.s) = true then (0, ⟨4, 0, v.s⟩) else (62, v0))
/-- what Apply answers -/
def capp (n : Int) (v : Val) : Int × Val := if 1 ≤ n ∧ n ≤ 12 ∧ okV v = true ∧ v.k = cfr n then cap n v else (1, v0)
theorem capp_no {n : Int} {v : Val} (h : ¬ (1 ≤ n ∧ n ≤ 12 ∧ okV v = true ∧ v.k = cfr n)) : capp n v = (1, v0) := by unfold capp; rw [if_neg h]
theorem capp_yes {n : Int} {v : Val} (h : 1 ≤ n ∧ n ≤ 12 ∧ okV v = true ∧ v.k = cfr n) : capp n v = cap n v := by unfold capp; rw [if_pos h]
theorem twelve {n : Int} (h : 1 ≤ n) (h2 : n ≤ 12) : n = 1 ∨ n = 2 ∨ n = 3 ∨ n = 4 ∨ n = 5 ∨ n = 6 ∨ n = 7 ∨ n = 8 ∨ n = 9 ∨ n = 10 ∨ n = 11 ∨ n = 12 := by omega
theorem cap1 (v : Val) : cap 1 v = if 9223372036854775808 ≤ v.n then (60, v0) else (0, ⟨2, v.n, ⟨#[]⟩⟩) := rfl
theorem cap2 (v : Val) : cap 2 v = if 9223372036854775808 ≤ v.n then (60, v0) else (0, ⟨1, v.n, ⟨#[]⟩⟩) := rfl
theorem cap3 (v : Val) : cap 3 v = (0, ⟨4, 0, tx (dg v.n.toNat)⟩) := rfl
theorem cap4 (v : Val) : cap 4 v = (0, ⟨4, 0, tx (ditx v.n.toNat)⟩) := rfl
theorem cap5 (v : Val) : cap 5 v = if rdE 18446744073709551615 (ls v.s) = 0 then (0, ⟨1, rdN 18446744073709551615 (ls v.s), ⟨#[]⟩⟩) else (rdE 18446744073709551615 (ls v.s), v0) := rfl
theorem cap6 (v : Val) : cap 6 v = if riE (ls v.s) = 0 then (0, ⟨2, riN (ls v.s), ⟨#[]⟩⟩) else (riE (ls v.s), v0) := rfl
theorem cap7 (v : Val) : cap 7 v = (0, ⟨4, 0, tx (if v.n = 0 then bFalse else bTrue)⟩) := rfl
theorem cap8 (v : Val) : cap 8 v = if ls v.s = bTrue then (0, ⟨3, 1, ⟨#[]⟩⟩) else if ls v.s = bFalse then (0, ⟨3, 0, ⟨#[]⟩⟩) else (63, v0) := rfl
theorem cap9 (v : Val) : cap 9 v = (0, ⟨1, v.n, ⟨#[]⟩⟩) := rfl
theorem cap10 (v : Val) : cap 10 v = if 1 < v.n then (60, v0) else (0, ⟨3, v.n, ⟨#[]⟩⟩) := rfl
theorem cap11 (v : Val) : cap 11 v = (0, ⟨5, 0, v.s⟩) := rfl
theorem cap12 (v : Val) : cap 12 v = if okL (ls v.s) = true then (0, ⟨4, 0, v.s⟩) else (62, v0) := rfl
end Go.Proofs.YtijgcfnjbfaelaaDoor
