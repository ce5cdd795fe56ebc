/-
  Plain facts on numbers in groups of seven bits: their bytes, their length, and what is read at the front of a row of bytes.
-/
import Derived.Lib.Varint
import Derived.Lib.BitFns
namespace Go.Proofs.YtnflbnchkcigiaaDoor
open Go.Lib

/-- may the byte c not stand at place i? -/
def bad (c : UInt8) (i : Nat) : Bool := (i == 9 && decide (1 < c.toNat)) || (decide (c.toNat = 0) && !(i == 0))

/-- where reading ends: how many bytes, and the error's number -/
def stops (i : Nat) : List UInt8 → Nat × Nat
  | [] => (0, 5)
  | c :: r => if bad c i then (0, 3) else if c.toNat < 128 then (i + 1, 0) else stops (i + 1) r

/-- the number of the groups -/
def val : List UInt8 → Nat
  | [] => 0
  | c :: r => c.toNat % 128 + 128 * val r

def tkE (l : List UInt8) : Nat := (stops 0 l).2
def tkN (l : List UInt8) : Nat := (stops 0 l).1
def tkX (l : List UInt8) : Nat := val (l.take (stops 0 l).1)

theorem val_snoc (l : List UInt8) (c : UInt8) : val (l ++ [c]) = val l + c.toNat % 128 * 128 ^ l.length := by
  induction l with
  | nil => simp [val]
  | cons d r ih =>
    rw [List.cons_append, val, ih, val, List.length_cons, Nat.pow_succ, Nat.mul_add, ← Nat.add_assoc]
    congr 1
    rw [Nat.mul_comm 128, Nat.mul_assoc]

theorem val_lt (l : List UInt8) : val l < 128 ^ l.length := by
  induction l with
  | nil => simp [val]
  | cons d r ih =>
    rw [val, List.length_cons, Nat.pow_succ]
    have := Nat.mod_lt d.toNat (show 0 < 128 by decide)
    omega

theorem toU8 {a : Nat} (h : a < 256) : a.toUInt8.toNat = a := by
  simp [Nat.toUInt8, UInt8.toNat_ofNat']; omega

theorem val_uvarint (x : Nat) : val (uvarint x) = x := by
  induction x using Nat.strongRecOn with
  | _ x ih =>
    by_cases h : x < 128
    · rw [uvarint_small h]; simp only [val, toU8 (show x < 256 by omega)]; omega
    · rw [uvarint_big (by omega)]
      simp only [val]
      rw [ih (x / 128) (by omega), toU8 (by omega)]
      omega

/-- how many bytes -/
def vsz (x : Nat) : Nat := (uvarint x).length
theorem vsz_small {x : Nat} (h : x < 128) : vsz x = 1 := by unfold vsz; rw [uvarint_small h]; rfl
theorem vsz_big {x : Nat} (h : 128 ≤ x) : vsz x = 1 + vsz (x / 128) := by unfold vsz; rw [uvarint_big h, List.length_cons]; omega
theorem vsz_pos (x : Nat) : 1 ≤ vsz x := uvarint_pos x
theorem vsz_le {x : Nat} (h : x < 18446744073709551616) : vsz x ≤ 10 := uvarint_length64 h

theorem bits_vsz (x : Nat) (hx : x < 18446744073709551616) : (if 1 < (bitLen x + 6) / 7 then (bitLen x + 6) / 7 else 1) = vsz x := by
  induction x using Nat.strongRecOn with
  | _ x ih =>
    by_cases h : x < 128
    · rw [vsz_small h]
      have := bitLen_le x 7 (by decide) (by simpa using h)
      rw [if_neg (by omega)]
    · rw [vsz_big (by omega), ← ih (x / 128) (by omega) (by omega)]
      have e := bitLen_shift 7 x (by simpa using (by omega : 128 ≤ x)) (by simpa using hx)
      have e' : (2 : Nat) ^ 7 = 128 := by decide
      rw [e'] at e
      have hp : 1 ≤ bitLen (x / 128) := by
        have := bitLen_half (x / 128) (by omega) (by simpa using (by omega : x / 128 < 18446744073709551616))
        omega
      rw [e]
      by_cases h2 : 1 < (bitLen (x / 128) + 6) / 7
      · rw [if_pos h2, if_pos (by omega)]; omega
      · rw [if_neg h2, if_pos (by omega)]; omega

theorem vsz_mono (x : Nat) : ∀ y, y ≤ x → vsz y ≤ vsz x := by
  induction x using Nat.strongRecOn with
  | _ x ih =>
    intro y hy
    by_cases h : y < 128
    · rw [vsz_small h]; exact vsz_pos x
    · rw [vsz_big (by omega : 128 ≤ y), vsz_big (by omega : 128 ≤ x)]
      have := ih (x / 128) (by omega) (y / 128) (by omega)
      omega

theorem vsz_shift (x : Nat) (h : 0 < x) : vsz (x * 128) = vsz x + 1 := by
  rw [vsz_big (by omega), show x * 128 / 128 = x by omega]; omega

theorem stops_put (x : Nat) : ∀ (i : Nat) (more : List UInt8), i ≤ 9 → x * 128 ^ i < 18446744073709551616 → (i ≠ 0 → x ≠ 0) → stops i (uvarint x ++ more) = (i + vsz x, 0) := by
  induction x using Nat.strongRecOn with
  | _ x ih =>
    intro i more hi hx h0
    have hnine : i = 9 → x ≤ 1 := by
      rintro rfl
      have : (128 : Nat) ^ 9 = 9223372036854775808 := by decide
      rw [this] at hx; omega
    by_cases h : x < 128
    · rw [uvarint_small h, vsz_small h, List.singleton_append, stops, if_neg, if_pos (by rw [toU8 (by omega)]; exact h)]
      unfold bad
      rw [toU8 (by omega)]
      by_cases h9 : i = 9
      · have := hnine h9; have := h0 (by omega); subst h9; simp; omega
      · by_cases hz : i = 0
        · subst hz; simp
        · have := h0 hz; simp [h9]; omega
    · have h9 : i ≠ 9 := fun e => by have := hnine e; omega
      rw [uvarint_big (by omega), vsz_big (by omega), List.cons_append, stops, if_neg, if_neg (by rw [toU8 (by omega)]; omega)]
      · rw [ih (x / 128) (by omega) (i + 1) more (by omega) ?_ (fun _ => by omega)]
        · congr 1; omega
        · rw [Nat.pow_succ]
          refine Nat.lt_of_le_of_lt ?_ hx
          rw [Nat.mul_comm (128 ^ i), ← Nat.mul_assoc]
          exact Nat.mul_le_mul_right _ (Nat.div_mul_le_self x 128)
      · unfold bad
        rw [toU8 (by omega)]
        simp [h9]

/-- Reading ends with a number: it is one, and its bytes are those read. -/
theorem stops_ok (l : List UInt8) : ∀ (i n : Nat), i ≤ 9 → stops i l = (n, 0) → ∃ m, n = i + m ∧ 1 ≤ m ∧ m ≤ l.length ∧ n ≤ 10 ∧ l.take m = uvarint (val (l.take m)) ∧ val (l.take m) * 128 ^ i < 18446744073709551616 ∧ (i ≠ 0 → val (l.take m) ≠ 0) := by
  induction l with
  | nil => intro i n _ h; simp [stops] at h
  | cons c r ih =>
    intro i n hi h
    rw [stops] at h
    by_cases hb : bad c i = true
    · rw [if_pos hb] at h; simp at h
    · rw [if_neg hb] at h
      have hb' : bad c i = false := by simpa using hb
      unfold bad at hb'
      have h9 : i = 9 → c.toNat ≤ 1 := by intro e; subst e; simp at hb'; omega
      have hz : i ≠ 0 → c.toNat ≠ 0 := by intro e; simp [e] at hb'; exact hb'.2
      have hc := c.toNat_lt
      by_cases hs : c.toNat < 128
      · rw [if_pos hs] at h
        have hn : n = i + 1 := by simpa using (congrArg Prod.fst h).symm
        have hv : val [c] = c.toNat := by simp [val]; omega
        refine ⟨1, hn, by omega, by simp, by omega, ?_, ?_, fun hi0 => ?_⟩
        · rw [List.take_succ_cons, List.take_zero, hv, uvarint_small hs]; simp
        · rw [List.take_succ_cons, List.take_zero, hv]
          by_cases e : i = 9
          · have := h9 e; subst e
            refine Nat.lt_of_le_of_lt (Nat.mul_le_mul_right _ this) (by decide)
          · have h8 : 128 ^ i ≤ 128 ^ 8 := Nat.pow_le_pow_right (by decide) (by omega)
            have e8 : (128 : Nat) ^ 8 = 72057594037927936 := by decide
            have := Nat.mul_le_mul (show c.toNat ≤ 127 by omega) h8
            rw [e8] at this
            omega
        · rw [List.take_succ_cons, List.take_zero, hv]; exact hz hi0
      · rw [if_neg hs] at h
        have h9' : i ≠ 9 := fun e => by have := h9 e; omega
        obtain ⟨m, hm, hm1, hml, hn, htk, hval, hnz⟩ := ih (i + 1) n (by omega) h
        have hnz := hnz (by omega)
        have hv : val ((c :: r).take (m + 1)) = c.toNat % 128 + 128 * val (r.take m) := by rw [List.take_succ_cons, val]
        refine ⟨m + 1, by omega, by omega, by simpa using hml, hn, ?_, ?_, fun _ => ?_⟩
        · rw [hv, List.take_succ_cons, uvarint_big (by omega)]
          congr 1
          · have e : (c.toNat % 128 + 128 * val (r.take m)) % 128 + 128 = c.toNat := by omega
            rw [e]; simp
          · rw [show (c.toNat % 128 + 128 * val (r.take m)) / 128 = val (r.take m) by omega]; exact htk
        · rw [hv]
          rw [Nat.pow_succ] at hval
          -- (c%128 + 128 v) * 128^i < 2^64 where v * 128^(i+1) < 2^64: v * 128 ^ (i + 1) is a multiple of 128 ^ (i + 1)
          have hk : ∃ k, 18446744073709551616 = k * (128 ^ i * 128) := by
            refine ⟨18446744073709551616 / (128 ^ i * 128), ?_⟩
            have : i = 0 ∨ i = 1 ∨ i = 2 ∨ i = 3 ∨ i = 4 ∨ i = 5 ∨ i = 6 ∨ i = 7 ∨ i = 8 := by omega
            rcases this with h | h | h | h | h | h | h | h | h <;> subst h <;> decide
          obtain ⟨k, hk⟩ := hk
          rw [hk] at hval ⊢
          have hlt : val (r.take m) < k := Nat.lt_of_mul_lt_mul_right hval
          have h1 : c.toNat % 128 + 128 * val (r.take m) < 128 * k := by omega
          have hp : 0 < 128 ^ i := Nat.pow_pos (by decide)
          calc (c.toNat % 128 + 128 * val (r.take m)) * 128 ^ i < 128 * k * 128 ^ i := Nat.mul_lt_mul_of_pos_right h1 hp
            _ = k * (128 ^ i * 128) := by rw [Nat.mul_comm 128 k, Nat.mul_assoc, Nat.mul_comm 128]
        · rw [hv]; omega

/-- Where it ends ahead of the bytes' end, what stands behind changes nothing. -/
theorem stops_more (l : List UInt8) : ∀ (i : Nat) (m : List UInt8), (stops i l).2 ≠ 5 → stops i (l ++ m) = stops i l := by
  induction l with
  | nil => intro i m h; simp [stops] at h
  | cons c r ih =>
    intro i m h
    rw [List.cons_append, stops, stops]
    rw [stops] at h
    by_cases hb : bad c i = true
    · rw [if_pos hb, if_pos hb]
    · rw [if_neg hb] at h ⊢
      rw [if_neg hb]
      by_cases hs : c.toNat < 128
      · rw [if_pos hs, if_pos hs]
      · rw [if_neg hs] at h ⊢
        rw [if_neg hs]
        exact ih _ _ h

theorem stops_kind (l : List UInt8) : ∀ i, (stops i l).2 = 0 ∨ stops i l = (0, 3) ∨ stops i l = (0, 5) := by
  induction l with
  | nil => intro i; simp [stops]
  | cons c r ih =>
    intro i
    rw [stops]
    split
    · simp
    · split
      · simp
      · exact ih _

theorem stops_bad (l : List UInt8) : ∀ i, i ≤ 9 → stops i l = (0, 3) → 2 ≤ l.length + i := by
  induction l with
  | nil => intro i _ h; simp [stops] at h
  | cons c r ih =>
    intro i hi h
    by_cases h0 : i = 0
    · subst h0
      rw [stops] at h
      have hb : bad c 0 = false := by simp [bad]
      rw [if_neg (by simp [hb])] at h
      split at h
      · simp at h
      · cases r with
        | nil => simp [stops] at h
        | cons d q => simp
    · simp only [List.length_cons]; omega

/-- Short: every byte goes on, and there are at most nine. -/
theorem stops_short (l : List UInt8) : ∀ i, i ≤ 9 → (stops i l).2 = 5 → i + l.length ≤ 9 ∧ (∀ c ∈ l, 128 ≤ c.toNat) := by
  induction l with
  | nil => intro i hi _; exact ⟨by simpa using hi, by simp⟩
  | cons c r ih =>
    intro i hi h
    rw [stops] at h
    by_cases hb : bad c i = true
    · rw [if_pos hb] at h; simp at h
    · rw [if_neg hb] at h
      by_cases hs : c.toNat < 128
      · rw [if_pos hs] at h; simp at h
      · rw [if_neg hs] at h
        have h9 : i ≠ 9 := by rintro rfl; simp [bad] at hb; omega
        obtain ⟨h1, h2⟩ := ih (i + 1) (by omega) h
        refine ⟨by simp only [List.length_cons]; omega, fun d hd => ?_⟩
        rcases List.mem_cons.1 hd with e | e
        · subst e; omega
        · exact h2 d e

theorem stops_high (l : List UInt8) : ∀ i, i + l.length ≤ 9 → (∀ c ∈ l, 128 ≤ c.toNat) → ∀ m, stops i (l ++ m) = stops (i + l.length) m := by
  induction l with
  | nil => intro i _ _ m; simp
  | cons c r ih =>
    intro i hi h m
    have hc := h c (by simp)
    simp only [List.length_cons] at hi
    rw [List.cons_append, stops, if_neg, if_neg (by omega), ih (i + 1) (by omega) (fun d hd => h d (by simp [hd])) m]
    · congr 1; simp only [List.length_cons]; omega
    · simp only [bad]
      have h9 : i ≠ 9 := by omega
      simp [h9]; intro e; omega

theorem stops_high_short (l : List UInt8) (h9 : l.length ≤ 9) (h : ∀ c ∈ l, 128 ≤ c.toNat) : stops 0 l = (0, 5) := by
  have := stops_high l 0 (by omega) h []
  rw [List.append_nil] at this
  rw [this]; rfl

theorem stops_high_one (l : List UInt8) (h9 : l.length ≤ 9) (h : ∀ c ∈ l, 128 ≤ c.toNat) : stops 0 (l ++ [1]) = (l.length + 1, 0) := by
  rw [stops_high l 0 (by omega) h [1], Nat.zero_add, stops, if_neg, if_pos (by decide)]
  simp [bad]

/-- zig and zag -/
def zig (x : Int) : Int := if 0 ≤ x then 2 * x else -2 * x - 1
def zag (x : Int) : Int := if x % 2 = 1 then -(x / 2) - 1 else x / 2

end Go.Proofs.YtnflbnchkcigiaaDoor
