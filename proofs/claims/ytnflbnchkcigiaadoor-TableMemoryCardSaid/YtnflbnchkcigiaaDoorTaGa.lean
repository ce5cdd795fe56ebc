/- What the chapter's words are, plainly: what stands at the front of a text (nx), what is taken off when it is gone through (tk). No walk here. -/
import Derived.Lib.ValidAsc
import Derived.Lib.RuneCount
import Derived.Lib.RuneBytes
import Derived.Lib.Bytealg
import Derived.Lib.Small
import Derived.Sort.Walk0
import Derived.WalkKit
import Derived.WalkSpells
import Derived.WalkLawsBesides
import Derived.Handy
import Derived.Lib.Hide
import Derived.Lib.VarintMem
import Derived.Laws.BytesArg
import Derived.Laws.OwnMore
import Derived.Deep.Draws
namespace Go.Proofs.YtnflbnchkcigiaaDoor
open Go.Lib (decodeL decodeL_N decodeL_width decodeL_le encodeRune encodeRuneZ encode_decode decodeN decodeN_shape)

def isC (c : Int) : Prop := 0 ≤ c ∧ c ≤ 1114111 ∧ ¬ (55296 ≤ c ∧ c ≤ 57343)
instance isC_dec (c : Int) : Decidable (isC c) := by unfold isC; infer_instance
/-- the bytes of a character; none if it is none -/
def putL (c : Int) : List UInt8 := if isC c then encodeRune c else []
/-- what stands at the front, and how many bytes it has -/
def nx (l : List UInt8) : Int × Nat :=
  if l = [] then (-1, 0) else if (decodeL l).1 = 65533 ∧ (decodeL l).2 = 1 then (-1, 1) else ((decodeL l).1, (decodeL l).2)

theorem nx_nil : nx [] = (-1, 0) := rfl

theorem decode_isC (l : List UInt8) (hne : l ≠ []) (hv : ¬ ((decodeL l).1 = 65533 ∧ (decodeL l).2 = 1)) : isC (decodeL l).1 := by
  have hl : 0 < l.length := List.length_pos_iff.2 hne
  rw [decodeL_N] at hv ⊢
  have k0 := (l.getD 0 0).toNat_lt
  have k1 := (l.getD 1 0).toNat_lt
  have k2 := (l.getD 2 0).toNat_lt
  have k3 := (l.getD 3 0).toNat_lt
  unfold isC
  rcases decodeN_shape l.length (l.getD 0 0).toNat (l.getD 1 0).toNat (l.getD 2 0).toNat (l.getD 3 0).toNat with ⟨c, e⟩ | ⟨c1, c2, c3, cv, e⟩ | ⟨c1, c2, c3, c4, cv, cs, e⟩ | ⟨c1, c2, c3, c4, c5, cv, cw, e⟩ | e
  · rw [e]; dsimp only; omega
  · rw [e]; dsimp only; omega
  · rw [e]; dsimp only; omega
  · rw [e]; dsimp only; omega
  · rw [e] at hv; exact absurd ⟨rfl, rfl⟩ hv

theorem enc_len (c : Int) : 1 ≤ (encodeRune c).length ∧ (encodeRune c).length ≤ 4 := by
  have := Go.Lib.encodeRuneZ_length c
  simpa [encodeRune] using this
theorem enc_ne (c : Int) : encodeRune c ≠ [] := by
  intro h
  have := (enc_len c).1
  rw [h] at this
  simp at this

theorem nx_cases (l : List UInt8) (hne : l ≠ []) : nx l = (-1, 1) ∨ ∃ c r, isC c ∧ l = encodeRune c ++ r ∧ nx l = (c, (encodeRune c).length) := by
  by_cases hv : (decodeL l).1 = 65533 ∧ (decodeL l).2 = 1
  · left; unfold nx; rw [if_neg hne, if_pos hv]
  · right
    have he := encode_decode l hne hv
    refine ⟨(decodeL l).1, l.drop (decodeL l).2, decode_isC l hne hv, by rw [he, List.take_append_drop], ?_⟩
    unfold nx
    rw [if_neg hne, if_neg hv, he, List.length_take, Nat.min_eq_left (decodeL_le l hne)]

theorem u8 (z : Int) (n : Nat) (h : z = n) (h1 : n < 256) : (z.toNat.toUInt8).toNat = n := by
  subst h
  simp; omega

theorem nx_of {l : List UInt8} {c : Int} {n : Nat} (hne : l ≠ []) (h : decodeL l = (c.toNat, n)) (h0 : 0 ≤ c) (hn : ¬ (c = 65533 ∧ n = 1)) : nx l = (c, n) := by
  unfold nx
  rw [if_neg hne, h, if_neg (by dsimp only; omega)]
  simp only [Prod.mk.injEq, and_true]
  omega

set_option maxRecDepth 100000 in
theorem nx_put (c : Int) (r : List UInt8) (h : isC c) : nx (encodeRune c ++ r) = (c, (encodeRune c).length) := by
  obtain ⟨h0, h1, h2⟩ := h
  obtain ⟨C, rfl⟩ : ∃ C : Nat, c = C := ⟨c.toNat, by omega⟩
  have hne : encodeRune (C : Int) ++ r ≠ [] := by simp [enc_ne]
  by_cases a1 : (C : Int) ≤ 127
  · have e : encodeRune (C : Int) = [(C : Int).toNat.toUInt8] := by unfold encodeRune; rw [Go.Lib.encodeRuneZ_one h0 a1]; rfl
    have u := u8 (C : Int) C rfl (by omega)
    refine nx_of hne ?_ h0 (by omega)
    rw [decodeL_N, e]
    simp only [List.cons_append, List.nil_append, List.getD_cons_zero, List.length_cons, List.length_nil, u]
    unfold decodeN
    rw [if_pos (by omega), Int.toNat_natCast]
  · by_cases a2 : (C : Int) ≤ 2047
    · have e : encodeRune (C : Int) = [(192 + (C : Int) / 64).toNat.toUInt8, (128 + (C : Int) % 64).toNat.toUInt8] := by unfold encodeRune; rw [Go.Lib.encodeRuneZ_two (by omega) a2]; rfl
      have u := u8 (192 + (C : Int) / 64) (192 + C / 64) (by omega) (by omega)
      have v := u8 (128 + (C : Int) % 64) (128 + C % 64) (by omega) (by omega)
      refine nx_of hne ?_ h0 (by rw [e]; simp)
      rw [decodeL_N, e]
      simp only [List.cons_append, List.nil_append, List.getD_cons_zero, List.getD_cons_succ, List.length_cons, List.length_nil, u, v]
      rcases decodeN_shape (r.length + 1 + 1) (192 + C / 64) (128 + C % 64) (r.getD 0 0).toNat (r.getD 1 0).toNat with ⟨c', _⟩ | ⟨c1, c2, c3, cv, e'⟩ | ⟨c1, _⟩ | ⟨c1, _⟩ | e'
      · omega
      · rw [e', Int.toNat_natCast]; exact Prod.ext (by dsimp only; omega) rfl
      · omega
      · omega
      · rw [e']
        unfold decodeN at e'
        rw [if_neg (by omega), if_pos (by omega), if_pos (by omega)] at e'
        simp at e'
    · by_cases a3 : (C : Int) ≤ 65535
      · have e : encodeRune (C : Int) = [(224 + (C : Int) / 4096).toNat.toUInt8, (128 + (C : Int) / 64 % 64).toNat.toUInt8, (128 + (C : Int) % 64).toNat.toUInt8] := by unfold encodeRune; rw [Go.Lib.encodeRuneZ_three (by omega)]; rfl
        have u := u8 (224 + (C : Int) / 4096) (224 + C / 4096) (by omega) (by omega)
        have v := u8 (128 + (C : Int) / 64 % 64) (128 + C / 64 % 64) (by omega) (by omega)
        have x := u8 (128 + (C : Int) % 64) (128 + C % 64) (by omega) (by omega)
        refine nx_of hne ?_ h0 (by rw [e]; simp)
        rw [decodeL_N, e]
        simp only [List.cons_append, List.nil_append, List.getD_cons_zero, List.getD_cons_succ, List.length_cons, List.length_nil, u, v, x]
        rcases decodeN_shape (r.length + 1 + 1 + 1) (224 + C / 4096) (128 + C / 64 % 64) (128 + C % 64) (r.getD 0 0).toNat with ⟨c', _⟩ | ⟨c1, _⟩ | ⟨c1, c2, c3, c4, cv, cs, e'⟩ | ⟨c1, _⟩ | e'
        · omega
        · omega
        · rw [e', Int.toNat_natCast]; exact Prod.ext (by dsimp only; omega) rfl
        · omega
        · rw [e']
          unfold decodeN at e'
          rw [if_neg (by omega), if_neg (by omega), if_pos (by omega), if_pos (by omega)] at e'
          simp at e'
      · have e : encodeRune (C : Int) = [(240 + (C : Int) / 262144).toNat.toUInt8, (128 + (C : Int) / 4096 % 64).toNat.toUInt8, (128 + (C : Int) / 64 % 64).toNat.toUInt8, (128 + (C : Int) % 64).toNat.toUInt8] := by unfold encodeRune; rw [Go.Lib.encodeRuneZ_four (by omega) (by omega)]; rfl
        have u := u8 (240 + (C : Int) / 262144) (240 + C / 262144) (by omega) (by omega)
        have t := u8 (128 + (C : Int) / 4096 % 64) (128 + C / 4096 % 64) (by omega) (by omega)
        have v := u8 (128 + (C : Int) / 64 % 64) (128 + C / 64 % 64) (by omega) (by omega)
        have x := u8 (128 + (C : Int) % 64) (128 + C % 64) (by omega) (by omega)
        refine nx_of hne ?_ h0 (by rw [e]; simp)
        rw [decodeL_N, e]
        simp only [List.cons_append, List.nil_append, List.getD_cons_zero, List.getD_cons_succ, List.length_cons, List.length_nil, u, v, x, t]
        rcases decodeN_shape (r.length + 1 + 1 + 1 + 1) (240 + C / 262144) (128 + C / 4096 % 64) (128 + C / 64 % 64) (128 + C % 64) with ⟨c', _⟩ | ⟨c1, _⟩ | ⟨c1, _⟩ | ⟨c1, c2, c3, c4, c5, cv, cw, e'⟩ | e'
        · omega
        · omega
        · omega
        · rw [e', Int.toNat_natCast]; exact Prod.ext (by dsimp only; omega) rfl
        · rw [e']
          unfold decodeN at e'
          rw [if_neg (by omega), if_neg (by omega), if_neg (by omega), if_pos (by omega), if_pos (by omega)] at e'
          simp at e'

theorem nx_range (l : List UInt8) (hne : l ≠ []) : 1 ≤ (nx l).2 ∧ (nx l).2 ≤ 4 ∧ (nx l).2 ≤ l.length := by
  rcases nx_cases l hne with h | ⟨c, r, hc, hl, h⟩
  · rw [h]
    have := List.length_pos_iff.2 hne
    simp only; omega
  · have := enc_len c
    rw [h]
    have hl' := congrArg List.length hl
    rw [List.length_append] at hl'
    simp only; omega

/-- what is taken off, one by one: some: a character's bytes; none: a single byte where none stands -/
def toks : Nat → List UInt8 → List (Option (List UInt8))
  | 0, _ => []
  | n + 1, l => if l = [] then [] else (if (nx l).1 < 0 then none else some (l.take (nx l).2)) :: toks n (l.drop (nx l).2)
def tk (l : List UInt8) : List (Option (List UInt8)) := toks l.length l

theorem toks_fuel : ∀ (n m : Nat) (l : List UInt8), l.length ≤ n → l.length ≤ m → toks n l = toks m l
  | 0, 0, _, _, _ => rfl
  | 0, m + 1, l, h, _ => by
    have : l = [] := List.eq_nil_of_length_eq_zero (by omega)
    simp [toks, this]
  | n + 1, 0, l, _, h => by
    have : l = [] := List.eq_nil_of_length_eq_zero (by omega)
    simp [toks, this]
  | n + 1, m + 1, l, h1, h2 => by
    unfold toks
    by_cases hne : l = []
    · simp [hne]
    · have := nx_range l hne
      rw [if_neg hne, if_neg hne, toks_fuel n m (l.drop (nx l).2) (by rw [List.length_drop]; omega) (by rw [List.length_drop]; omega)]

theorem tk_nil : tk [] = [] := rfl
theorem tk_step (l : List UInt8) (hne : l ≠ []) : tk l = (if (nx l).1 < 0 then none else some (l.take (nx l).2)) :: tk (l.drop (nx l).2) := by
  have hl : 0 < l.length := List.length_pos_iff.2 hne
  have hr := nx_range l hne
  obtain ⟨n, hn⟩ : ∃ n, l.length = n + 1 := ⟨l.length - 1, by omega⟩
  unfold tk
  rw [hn]
  show (if l = [] then [] else _) = _
  rw [if_neg hne, toks_fuel n (l.drop (nx l).2).length _ (by rw [List.length_drop]; omega) (Nat.le_refl _)]
theorem tk_char (c : Int) (r : List UInt8) (h : isC c) : tk (encodeRune c ++ r) = some (encodeRune c) :: tk r := by
  rw [tk_step _ (by simp [enc_ne]), nx_put c r h]
  have := h.1
  rw [if_neg (by simp only; omega)]
  simp
theorem tk_bad (b : UInt8) (r : List UInt8) (h : nx (b :: r) = (-1, 1)) : tk (b :: r) = none :: tk r := by
  rw [tk_step _ (by simp), h]
  simp

theorem tk_ind {P : List UInt8 → Prop} (h0 : P []) (hc : ∀ c r, isC c → P r → P (encodeRune c ++ r)) (hb : ∀ b r, nx (b :: r) = (-1, 1) → P r → P (b :: r)) : ∀ (n : Nat) (l : List UInt8), l.length ≤ n → P l
  | 0, l, h => by
    have : l = [] := List.eq_nil_of_length_eq_zero (by omega)
    rw [this]; exact h0
  | n + 1, l, h => by
    by_cases hne : l = []
    · rw [hne]; exact h0
    · rcases nx_cases l hne with hx | ⟨c, r, hC, hl, _⟩
      · obtain ⟨b, r, rfl⟩ : ∃ b r, l = b :: r := by
          cases l with
          | nil => exact absurd rfl hne
          | cons b r => exact ⟨b, r, rfl⟩
        exact hb b r hx (tk_ind h0 hc hb n r (by simp at h; omega))
      · have := enc_len c
        have hl' := congrArg List.length hl
        rw [List.length_append] at hl'
        rw [hl]
        exact hc c r hC (tk_ind h0 hc hb n r (by omega))

def fl : List (Option (List UInt8)) → Nat
  | some b :: t => b.length + fl t
  | _ => 0
def mn : List (Option (List UInt8)) → List UInt8
  | some b :: t => b ++ mn t
  | none :: t => [239, 191, 189] ++ mn t
  | [] => []
def allC : List (Option (List UInt8)) → Bool
  | some _ :: t => allC t
  | none :: _ => false
  | [] => true

def fltL (l : List UInt8) : Nat := fl (tk l)
def cntL (l : List UInt8) : Nat := (tk l).length
def menL (l : List UInt8) : List UInt8 := mn (tk l)
def okL (l : List UInt8) : Bool := allC (tk l)

theorem flt_le (l : List UInt8) : fltL l ≤ l.length := by
  refine tk_ind (P := fun l => fltL l ≤ l.length) (Nat.le_refl _) ?_ ?_ l.length l (Nat.le_refl _)
  · intro c r h ih
    unfold fltL at ih ⊢
    rw [tk_char c r h, List.length_append]
    show _ + fl (tk r) ≤ _
    omega
  · intro b r h _
    unfold fltL
    rw [tk_bad b r h]
    exact Nat.zero_le _
theorem cnt_le (l : List UInt8) : cntL l ≤ l.length := by
  refine tk_ind (P := fun l => cntL l ≤ l.length) (Nat.le_refl _) ?_ ?_ l.length l (Nat.le_refl _)
  · intro c r h ih
    unfold cntL at ih ⊢
    have := enc_len c
    rw [tk_char c r h, List.length_append, List.length_cons]
    omega
  · intro b r h ih
    unfold cntL at ih ⊢
    rw [tk_bad b r h, List.length_cons, List.length_cons]
    omega
theorem men_le (l : List UInt8) : (menL l).length ≤ 3 * l.length := by
  refine tk_ind (P := fun l => (menL l).length ≤ 3 * l.length) (Nat.le_refl _) ?_ ?_ l.length l (Nat.le_refl _)
  · intro c r h ih
    unfold menL at ih ⊢
    rw [tk_char c r h, List.length_append]
    show (encodeRune c ++ mn (tk r)).length ≤ _
    rw [List.length_append]
    omega
  · intro b r h ih
    unfold menL at ih ⊢
    rw [tk_bad b r h, List.length_cons]
    show ([239, 191, 189] ++ mn (tk r)).length ≤ _
    rw [List.length_append]
    simp only [List.length_cons, List.length_nil]
    omega
theorem ok_flt (l : List UInt8) : okL l = decide (fltL l = l.length) := by
  refine tk_ind (P := fun l => okL l = decide (fltL l = l.length)) rfl ?_ ?_ l.length l (Nat.le_refl _)
  · intro c r h ih
    unfold okL fltL at ih ⊢
    rw [tk_char c r h, List.length_append]
    show allC (tk r) = decide (_ + fl (tk r) = _)
    rw [ih]
    simp
  · intro b r h _
    unfold okL fltL
    rw [tk_bad b r h]
    show false = decide (0 = _)
    simp

/-- a text of characters, and anything behind it -/
theorem tk_app (a t : List UInt8) (h : okL a = true) : tk (a ++ t) = tk a ++ tk t := by
  revert h
  refine tk_ind (P := fun a => okL a = true → tk (a ++ t) = tk a ++ tk t) (fun _ => rfl) ?_ ?_ a.length a (Nat.le_refl _)
  · intro c r h ih ho
    unfold okL at ih ho
    rw [tk_char c r h] at ho
    rw [List.append_assoc, tk_char c _ h, tk_char c r h, ih ho]
    rfl
  · intro b r h _ ho
    unfold okL at ho
    rw [tk_bad b r h] at ho
    exact absurd ho (by simp [allC])
theorem mn_app : ∀ x y, mn (x ++ y) = mn x ++ mn y
  | [], _ => rfl
  | some b :: x, y => by simp [mn, mn_app x y]
  | none :: x, y => by simp [mn, mn_app x y]
theorem allC_app : ∀ x y, allC (x ++ y) = (allC x && allC y)
  | [], _ => by simp [allC]
  | some _ :: x, y => by simp [allC, allC_app x y]
  | none :: x, y => by simp [allC]
theorem men_ok (a : List UInt8) (h : okL a = true) : menL a = a := by
  revert h
  refine tk_ind (P := fun a => okL a = true → menL a = a) (fun _ => rfl) ?_ ?_ a.length a (Nat.le_refl _)
  · intro c r h ih ho
    unfold okL at ih ho
    unfold menL at ih ⊢
    rw [tk_char c r h] at ho ⊢
    show encodeRune c ++ mn (tk r) = _
    rw [ih ho]
  · intro b r h _ ho
    unfold okL at ho
    rw [tk_bad b r h] at ho
    exact absurd ho (by simp [allC])
theorem fl_app : ∀ x y, allC x = true → fl (x ++ y) = fl x + fl y
  | [], _, _ => by simp [fl]
  | some b :: x, y, h => by simp only [List.cons_append, fl, fl_app x y h]; omega
  | none :: x, y, h => absurd h (by simp [allC])
theorem flt_app (a t : List UInt8) (h : okL a = true) : fltL (a ++ t) = a.length + fltL t := by
  have h2 : fltL a = a.length := by have := ok_flt a; rw [h] at this; exact of_decide_eq_true this.symm
  unfold fltL at h2 ⊢
  rw [tk_app a t h, fl_app _ _ h, h2]
theorem cnt_app (a t : List UInt8) (h : okL a = true) : cntL (a ++ t) = cntL a + cntL t := by
  unfold cntL
  rw [tk_app a t h, List.length_append]
theorem men_app (a t : List UInt8) (h : okL a = true) : menL (a ++ t) = a ++ menL t := by
  have := men_ok a h
  unfold menL at this ⊢
  rw [tk_app a t h, mn_app, this]
theorem ok_take (l : List UInt8) : okL (l.take (fltL l)) = true := by
  refine tk_ind (P := fun l => okL (l.take (fltL l)) = true) rfl ?_ ?_ l.length l (Nat.le_refl _)
  · intro c r h ih
    have e : fltL (encodeRune c ++ r) = (encodeRune c).length + fltL r := by
      unfold fltL; rw [tk_char c r h]; rfl
    rw [e, List.take_length_add_append]
    unfold okL at ih ⊢
    rw [tk_char c _ h]
    exact ih
  · intro b r h _
    have e : fltL (b :: r) = 0 := by unfold fltL; rw [tk_bad b r h]; rfl
    rw [e]; rfl

def fix : Option (List UInt8) → Option (List UInt8)
  | none => some [239, 191, 189]
  | x => x
theorem enc_fffd : encodeRune 65533 = [239, 191, 189] := by decide
theorem isC_fffd : isC 65533 := by decide
theorem tk_men (l : List UInt8) : tk (menL l) = (tk l).map fix := by
  refine tk_ind (P := fun l => tk (menL l) = (tk l).map fix) rfl ?_ ?_ l.length l (Nat.le_refl _)
  · intro c r h ih
    unfold menL at ih ⊢
    rw [tk_char c r h]
    show tk (encodeRune c ++ mn (tk r)) = _
    rw [tk_char c _ h, ih]
    rfl
  · intro b r h ih
    unfold menL at ih ⊢
    rw [tk_bad b r h]
    show tk ([239, 191, 189] ++ mn (tk r)) = _
    rw [← enc_fffd, tk_char 65533 _ isC_fffd, ih, enc_fffd]
    rfl
theorem allC_fix : ∀ x : List (Option (List UInt8)), allC (x.map fix) = true
  | [] => rfl
  | some _ :: x => allC_fix x
  | none :: x => allC_fix x
theorem men_valid (l : List UInt8) : okL (menL l) = true := by
  unfold okL; rw [tk_men]; exact allC_fix _
theorem men_cnt (l : List UInt8) : cntL (menL l) = cntL l := by
  unfold cntL; rw [tk_men, List.length_map]

/-! ### what the library's own words say -/
theorem validD_ok (l : List UInt8) : Go.Lib.validD l = okL l := by
  refine tk_ind (P := fun l => Go.Lib.validD l = okL l) rfl ?_ ?_ l.length l (Nat.le_refl _)
  · intro c r h ih
    have hne : encodeRune c ++ r ≠ [] := by simp [enc_ne]
    have hx := nx_put c r h
    unfold nx at hx
    rw [if_neg hne] at hx
    rw [Go.Lib.validD_step _ hne]
    by_cases hv : (decodeL (encodeRune c ++ r)).1 = 65533 ∧ (decodeL (encodeRune c ++ r)).2 = 1
    · rw [if_pos hv] at hx
      have h0 := h.1
      simp only [Prod.mk.injEq] at hx
      omega
    · rw [if_neg hv] at hx ⊢
      simp only [Prod.mk.injEq] at hx
      rw [hx.2, List.drop_left, ih]
      unfold okL
      rw [tk_char c r h]
      rfl
  · intro b r h _
    unfold nx at h
    rw [if_neg (by simp)] at h
    rw [Go.Lib.validD_step _ (by simp)]
    by_cases hv : (decodeL (b :: r)).1 = 65533 ∧ (decodeL (b :: r)).2 = 1
    · rw [if_pos hv]
      unfold okL
      rw [tk_bad b r (by unfold nx; rw [if_neg (by simp), if_pos hv])]
      rfl
    · rw [if_neg hv] at h
      simp only [Prod.mk.injEq] at h
      omega

theorem drop_char {l : List UInt8} {c : Int} (h : nx l = (c, (decodeL l).2)) (hne : l ≠ []) : tk l = (if c < 0 then none else some (l.take (decodeL l).2)) :: tk (l.drop (decodeL l).2) := by
  rw [tk_step l hne, h]
theorem nx_width (l : List UInt8) (hne : l ≠ []) : (nx l).2 = (decodeL l).2 := by
  unfold nx
  rw [if_neg hne]
  split
  · rename_i h; exact h.2.symm
  · rfl
theorem runeCount_cnt (s : ByteArray) : ∀ (f pos : Nat), s.size ≤ pos + f → Go.Lib.runeCountFrom s f pos = cntL (s.data.toList.drop pos)
  | 0, pos, h => by
    have : s.data.toList.drop pos = [] := List.drop_eq_nil_of_le (by rw [← Go.Lib.size_eq]; omega)
    rw [this]; rfl
  | f + 1, pos, h => by
    unfold Go.Lib.runeCountFrom
    by_cases hp : pos < s.size
    · have hne : s.data.toList.drop pos ≠ [] := by
        intro hn
        have := congrArg List.length hn
        rw [List.length_drop, ← Go.Lib.size_eq] at this
        simp at this
        omega
      have hw := decodeL_width (s.data.toList.drop pos)
      rw [if_pos hp, ← Go.Lib.decodeL_drop, runeCount_cnt s f _ (by omega)]
      unfold cntL
      rw [tk_step _ hne, nx_width _ hne, List.drop_drop, List.length_cons]
      omega
    · have : s.data.toList.drop pos = [] := List.drop_eq_nil_of_le (by rw [← Go.Lib.size_eq]; omega)
      rw [if_neg hp, this]; rfl
theorem runeCount_ok (s : ByteArray) : Go.Lib.runeCount s = cntL s.data.toList := by
  unfold Go.Lib.runeCount
  rw [runeCount_cnt s s.size 0 (by omega)]
  rfl
end Go.Proofs.YtnflbnchkcigiaaDoor
/- What is true of the kinds, in plain words: names, what is valid, the order. No walk here. -/
namespace Go.Proofs.YtnflbnchkcigiaaDoor
open Go.Lib (compareBytes compareInt)

/-- a value's parts -/
structure Val where
  k : Int
  n : Int
  s : ByteArray

/-- the bytes of the five names -/
def nUint : List UInt8 := [117, 105, 110, 116]
def nInt : List UInt8 := [105, 110, 116]
def nBool : List UInt8 := [98, 111, 111, 108]
def nText : List UInt8 := [116, 101, 120, 116]
def nBytes : List UInt8 := [98, 121, 116, 101, 115]
/-- a kind's name -/
def knameL (k : Int) : List UInt8 :=
  if k = 1 then nUint else if k = 2 then nInt else if k = 3 then nBool else if k = 4 then nText else if k = 5 then nBytes else []
/-- the number of the kind of this name -/
def ofL (l : List UInt8) : Int :=
  if l = nUint then 1 else if l = nInt then 2 else if l = nBool then 3 else if l = nText then 4 else if l = nBytes then 5 else 0

/-- what is valid -/
def okV (v : Val) : Bool :=
  if v.k = 1 ∨ v.k = 2 then decide (v.s.size = 0)
  else if v.k = 3 then decide (v.n ≤ 1) && decide (v.s.size = 0)
  else if v.k = 4 then decide (v.n = 0) && okL v.s.data.toList
  else if v.k = 5 then decide (v.n = 0)
  else false

/-- the number with a sign that 64 bits are -/
def sgn (n : Int) : Int := if 9223372036854775808 ≤ n then n - 18446744073709551616 else n
/-- the number by which a value of this kind is ordered -/
def key (k n : Int) : Int := if k = 2 then sgn n else n
def cmpN (k a b : Int) : Int := compareInt (key k a) (key k b)
/-- the order -/
def ordV (a b : Val) : Int :=
  if compareInt a.k b.k ≠ 0 then compareInt a.k b.k
  else if cmpN a.k a.n b.n ≠ 0 then cmpN a.k a.n b.n
  else compareBytes a.s.data.toList b.s.data.toList

theorem ci_eq (x y : Int) : compareInt x y = if x < y then -1 else if y < x then 1 else 0 := rfl
theorem ci_neg (x y : Int) : compareInt y x = - compareInt x y := by
  rw [ci_eq, ci_eq]; split <;> split <;> first | omega | rfl | (split <;> omega)
theorem ci_three (x y : Int) : (compareInt x y = -1 ∧ x < y) ∨ (compareInt x y = 0 ∧ x = y) ∨ (compareInt x y = 1 ∧ y < x) := by
  rw [ci_eq]
  rcases Int.lt_trichotomy x y with h | h | h
  · left; rw [if_pos h]; exact ⟨rfl, h⟩
  · right; left; rw [if_neg (by omega), if_neg (by omega)]; exact ⟨rfl, h⟩
  · right; right; rw [if_neg (by omega), if_pos h]; exact ⟨rfl, h⟩

theorem cb_three : ∀ (x y : List UInt8), (compareBytes x y = -1 ∧ x < y) ∨ (compareBytes x y = 0 ∧ x = y) ∨ (compareBytes x y = 1 ∧ y < x)
  | [], [] => .inr (.inl ⟨rfl, rfl⟩)
  | [], b :: bs => .inl ⟨rfl, List.nil_lt_cons b bs⟩
  | a :: r, [] => .inr (.inr ⟨rfl, List.nil_lt_cons a r⟩)
  | a :: r, b :: bs => by
    unfold compareBytes
    by_cases h : a < b
    · left; rw [if_pos h]; exact ⟨rfl, List.cons_lt_cons_iff.2 (.inl h)⟩
    · by_cases g : b < a
      · right; right; rw [if_neg h, if_pos g]; exact ⟨rfl, List.cons_lt_cons_iff.2 (.inl g)⟩
      · have e : a = b := UInt8.le_antisymm (UInt8.not_lt.1 g) (UInt8.not_lt.1 h)
        subst e
        rw [if_neg h, if_neg g]
        rcases cb_three r bs with ⟨q, u⟩ | ⟨q, u⟩ | ⟨q, u⟩
        · left; exact ⟨q, List.cons_lt_cons_iff.2 (.inr ⟨rfl, u⟩)⟩
        · right; left; exact ⟨q, by rw [u]⟩
        · right; right; exact ⟨q, List.cons_lt_cons_iff.2 (.inr ⟨rfl, u⟩)⟩
theorem ll_irrefl (x : List UInt8) : ¬ x < x := List.lt_irrefl x
theorem ll_trans {x y z : List UInt8} (h : x < y) (g : y < z) : x < z := List.lt_trans h g
theorem ll_asymm {x y : List UInt8} (h : x < y) : ¬ y < x := fun g => ll_irrefl x (ll_trans h g)

/-- one value ahead of the other, in plain words -/
def Ahead (a b : Val) : Prop :=
  a.k < b.k ∨ (a.k = b.k ∧ (key a.k a.n < key a.k b.n ∨ (key a.k a.n = key a.k b.n ∧ a.s.data.toList < b.s.data.toList)))
def Alike (a b : Val) : Prop := a.k = b.k ∧ key a.k a.n = key a.k b.n ∧ a.s.data.toList = b.s.data.toList
theorem ord_three (a b : Val) : (ordV a b = -1 ∧ Ahead a b) ∨ (ordV a b = 0 ∧ Alike a b) ∨ (ordV a b = 1 ∧ Ahead b a) := by
  unfold ordV Ahead Alike cmpN
  rcases ci_three a.k b.k with ⟨h, g⟩ | ⟨h, g⟩ | ⟨h, g⟩
  · left; rw [h]; exact ⟨by simp, .inl g⟩
  · rw [h, if_neg (by simp), ← g]
    rcases ci_three (key a.k a.n) (key a.k b.n) with ⟨h1, g1⟩ | ⟨h1, g1⟩ | ⟨h1, g1⟩
    · left; rw [h1]; exact ⟨by simp, .inr ⟨rfl, .inl g1⟩⟩
    · rw [h1, if_neg (by simp)]
      rcases cb_three a.s.data.toList b.s.data.toList with ⟨h2, g2⟩ | ⟨h2, g2⟩ | ⟨h2, g2⟩
      · left; exact ⟨h2, .inr ⟨rfl, .inr ⟨g1, g2⟩⟩⟩
      · right; left; exact ⟨h2, rfl, g1, g2⟩
      · right; right; exact ⟨h2, .inr ⟨rfl, .inr ⟨g1.symm, g2⟩⟩⟩
    · right; right; rw [h1]; exact ⟨by simp, .inr ⟨rfl, .inl g1⟩⟩
  · right; right; rw [h]; exact ⟨by simp, .inl g⟩
theorem ahead_not {a b : Val} (h : Ahead a b) : ¬ Ahead b a := by
  unfold Ahead at *
  intro g
  rcases h with h | ⟨h, h1⟩
  · rcases g with g | ⟨g, _⟩ <;> omega
  · rcases g with g | ⟨g, g1⟩
    · omega
    · rw [g] at g1
      rcases h1 with h1 | ⟨h1, h2⟩ <;> rcases g1 with g1 | ⟨g1, g2⟩ <;> first | omega | exact ll_asymm h2 g2
theorem alike_not {a b : Val} (h : Alike a b) : ¬ Ahead a b := by
  unfold Ahead Alike at *
  obtain ⟨h, h1, h2⟩ := h
  intro g
  rcases g with g | ⟨_, g | ⟨_, g⟩⟩
  · omega
  · omega
  · rw [h2] at g; exact ll_irrefl _ g
theorem alike_symm {a b : Val} (h : Alike a b) : Alike b a := by
  unfold Alike at *
  obtain ⟨h, h1, h2⟩ := h
  exact ⟨h.symm, by rw [← h]; exact h1.symm, h2.symm⟩
theorem ord_neg (a b : Val) : ordV b a = - ordV a b := by
  rcases ord_three a b with ⟨h, g⟩ | ⟨h, g⟩ | ⟨h, g⟩ <;> rcases ord_three b a with ⟨h1, g1⟩ | ⟨h1, g1⟩ | ⟨h1, g1⟩
  · exact absurd g1 (ahead_not g)
  · exact absurd g (alike_not (alike_symm g1))
  · omega
  · exact absurd g1 (alike_not (alike_symm g))
  · omega
  · exact absurd g1 (alike_not g)
  · omega
  · exact absurd g (alike_not g1)
  · exact absurd g1 (ahead_not g)
theorem ahead_trans {a b c : Val} (h : Ahead a b) (g : Ahead b c) : Ahead a c := by
  unfold Ahead at *
  rcases h with h | ⟨h, h1⟩
  · left; rcases g with g | ⟨g, _⟩ <;> omega
  · rcases g with g | ⟨g, g1⟩
    · left; omega
    · rw [← h] at g1
      right
      refine ⟨by omega, ?_⟩
      rcases h1 with h1 | ⟨h1, h2⟩ <;> rcases g1 with g1 | ⟨g1, g2⟩
      · left; omega
      · left; omega
      · left; omega
      · right; exact ⟨by omega, ll_trans h2 g2⟩
theorem alike_ahead {a b c : Val} (h : Alike a b) (g : Ahead b c) : Ahead a c := by
  unfold Ahead Alike at *
  obtain ⟨h, h1, h2⟩ := h
  rw [← h] at g
  rw [← h1, ← h2] at g
  exact g
theorem ahead_alike {a b c : Val} (h : Ahead a b) (g : Alike b c) : Ahead a c := by
  unfold Ahead Alike at *
  obtain ⟨g, g1, g2⟩ := g
  rcases h with h | ⟨h, h1⟩
  · left; omega
  · right
    rw [← h] at g1
    rw [← g1, ← g2]
    exact ⟨by omega, h1⟩
theorem alike_trans {a b c : Val} (h : Alike a b) (g : Alike b c) : Alike a c := by
  unfold Alike at *
  obtain ⟨h, h1, h2⟩ := h
  obtain ⟨g, g1, g2⟩ := g
  rw [← h] at g1
  exact ⟨by omega, by omega, h2.trans g2⟩
theorem ord_range (a b : Val) : -1 ≤ ordV a b ∧ ordV a b ≤ 1 := by
  rcases ord_three a b with ⟨h, _⟩ | ⟨h, _⟩ | ⟨h, _⟩ <;> omega
/-- it goes on from the first to the third through the second -/
theorem ord_trans (a b c : Val) : (ordV a b ≤ 0 → ordV b c ≤ 0 → ordV a c ≤ 0) ∧ (ordV a b < 0 → ordV b c ≤ 0 → ordV a c < 0) ∧ (ordV a b ≤ 0 → ordV b c < 0 → ordV a c < 0) := by
  rcases ord_three a b with ⟨h, g⟩ | ⟨h, g⟩ | ⟨h, g⟩ <;> rcases ord_three b c with ⟨h1, g1⟩ | ⟨h1, g1⟩ | ⟨h1, g1⟩ <;> rcases ord_three a c with ⟨h2, g2⟩ | ⟨h2, g2⟩ | ⟨h2, g2⟩ <;> refine ⟨fun x y => ?_, fun x y => ?_, fun x y => ?_⟩ <;> first | omega | (exfalso; first
    | exact ahead_not g2 (ahead_trans g g1) | exact alike_not g2 (ahead_trans g g1) | exact ahead_not g2 (ahead_alike g g1) | exact alike_not g2 (ahead_alike g g1)
    | exact ahead_not g2 (alike_ahead g g1) | exact alike_not g2 (alike_ahead g g1) | exact alike_not (alike_symm (alike_trans g g1)) g2)

theorem sgn_inj {a b : Int} (ha : 0 ≤ a ∧ a ≤ 18446744073709551615) (hb : 0 ≤ b ∧ b ≤ 18446744073709551615) (h : sgn a = sgn b) : a = b := by
  unfold sgn at h
  split at h <;> split at h <;> omega
theorem key_inj {k a b : Int} (ha : 0 ≤ a ∧ a ≤ 18446744073709551615) (hb : 0 ≤ b ∧ b ≤ 18446744073709551615) (h : key k a = key k b) : a = b := by
  unfold key at h
  split at h
  · exact sgn_inj ha hb h
  · exact h
theorem ord_zero {a b : Val} (ha : 0 ≤ a.n ∧ a.n ≤ 18446744073709551615) (hb : 0 ≤ b.n ∧ b.n ≤ 18446744073709551615) : ordV a b = 0 ↔ a.k = b.k ∧ a.n = b.n ∧ a.s = b.s := by
  constructor
  · intro h
    rcases ord_three a b with ⟨h1, _⟩ | ⟨_, g, g1, g2⟩ | ⟨h1, _⟩
    · omega
    · exact ⟨g, key_inj ha hb g1, ByteArray.ext (Array.toList_inj.1 g2)⟩
    · omega
  · rintro ⟨g, g1, g2⟩
    rcases ord_three a b with ⟨h1, h2⟩ | ⟨h1, _⟩ | ⟨h1, h2⟩
    · exact absurd h2 (alike_not ⟨g, by rw [g1], by rw [g2]⟩)
    · exact h1
    · exact absurd h2 (alike_not (alike_symm ⟨g, by rw [g1], by rw [g2]⟩))

/-- names and numbers, there and back -/
theorem of_cases (l : List UInt8) : (l = nUint ∧ ofL l = 1) ∨ (l = nInt ∧ ofL l = 2) ∨ (l = nBool ∧ ofL l = 3) ∨ (l = nText ∧ ofL l = 4) ∨ (l = nBytes ∧ ofL l = 5) ∨ (l ≠ nUint ∧ l ≠ nInt ∧ l ≠ nBool ∧ l ≠ nText ∧ l ≠ nBytes ∧ ofL l = 0) := by
  by_cases h1 : l = nUint
  · subst h1; exact .inl ⟨rfl, by decide⟩
  by_cases h2 : l = nInt
  · subst h2; exact .inr (.inl ⟨rfl, by decide⟩)
  by_cases h3 : l = nBool
  · subst h3; exact .inr (.inr (.inl ⟨rfl, by decide⟩))
  by_cases h4 : l = nText
  · subst h4; exact .inr (.inr (.inr (.inl ⟨rfl, by decide⟩)))
  by_cases h5 : l = nBytes
  · subst h5; exact .inr (.inr (.inr (.inr (.inl ⟨rfl, by decide⟩))))
  refine .inr (.inr (.inr (.inr (.inr ⟨h1, h2, h3, h4, h5, ?_⟩))))
  unfold ofL
  rw [if_neg h1, if_neg h2, if_neg h3, if_neg h4, if_neg h5]
theorem name_of (l : List UInt8) (h : ofL l ≠ 0) : knameL (ofL l) = l := by
  rcases of_cases l with ⟨g, e⟩ | ⟨g, e⟩ | ⟨g, e⟩ | ⟨g, e⟩ | ⟨g, e⟩ | ⟨_, _, _, _, _, e⟩
  · rw [e, g]; decide
  · rw [e, g]; decide
  · rw [e, g]; decide
  · rw [e, g]; decide
  · rw [e, g]; decide
  · exact absurd e h
theorem name_none (k : Int) : knameL k = [] ↔ (k < 1 ∨ 5 < k) := by
  unfold knameL
  constructor
  · intro h
    split at h
    · exact absurd h (by decide)
    · split at h
      · exact absurd h (by decide)
      · split at h
        · exact absurd h (by decide)
        · split at h
          · exact absurd h (by decide)
          · split at h
            · exact absurd h (by decide)
            · omega
  · intro h
    rw [if_neg (by omega), if_neg (by omega), if_neg (by omega), if_neg (by omega), if_neg (by omega)]
theorem of_name (k : Int) (h : knameL k ≠ []) : ofL (knameL k) = k := by
  have h1 : ¬ (k < 1 ∨ 5 < k) := fun g => h ((name_none k).2 g)
  have h2 : k = 1 ∨ k = 2 ∨ k = 3 ∨ k = 4 ∨ k = 5 := by omega
  rcases h2 with rfl | rfl | rfl | rfl | rfl <;> decide
theorem of_range (l : List UInt8) : 0 ≤ ofL l ∧ ofL l ≤ 5 := by
  unfold ofL
  repeat' split
  all_goals omega
end Go.Proofs.YtnflbnchkcigiaaDoor
/- Words on memory for rows of bytes: a slice that reads as bytes, a row of the call's own. No walk here. -/
namespace Go.Proofs.YtnflbnchkcigiaaDoor
open Go.RowKit
open Go.Lib (byteCells)

theorem ret_int {k : IntKind} {a b : Int} (h : a = b) : Ending.returned (.int k a) = .returned (.int k b) := by rw [h]
theorem ret_bool {a b : Bool} (h : a = b) : Ending.returned (.bool a) = .returned (.bool b) := by rw [h]
theorem Below.both {a b c : World} (h : Below a.heap.size a b) (g : Below b.heap.size b c) : Below a.heap.size a c := h.trans (g.mono h.size)
theorem Below.newN (w : World) (d : Nat) : Below w.heap.size w (w.drewN d) := ⟨rfl, rfl, rfl, Nat.le_refl _, fun _ _ => rfl⟩
theorem Below.thenN {B : Nat} {a w : World} (h : Below B a w) (n : Nat) : Below B a (w.drewN n) := ⟨h.os, h.tape, h.output, h.size, h.block⟩
theorem Below.cells {W w1 : World} (hb : Below W.heap.size W w1) : (∀ b o, b < W.heap.size → w1.cell? ⟨b, o, none⟩ = W.cell? ⟨b, o, none⟩) ∧ (∀ b o, b < W.heap.size → w1.frozen? ⟨b, o, none⟩ = W.frozen? ⟨b, o, none⟩) :=
  ⟨fun b o h => hb.cell (p := ⟨b, o, none⟩) h, fun b o h => hb.frozen (p := ⟨b, o, none⟩) h⟩

/-- At the address A stand the bytes l, below block B. -/
def Byt (w : World) (B : Nat) (A : Option Addr) (l : List UInt8) : Prop :=
  l = [] ∨ ∃ b o, A = some ⟨b, o, none⟩ ∧ b < B ∧ ∀ j (h : j < l.length), w.cell? ⟨b, o + j, none⟩ = some (.int .u8 (l[j].toNat : Nat))

section
variable {w w' : World} {B B' : Nat} {A : Option Addr} {l : List UInt8}
theorem Byt.nil : Byt w B A [] := .inl rfl
theorem Byt.at_ (h : Byt w B A l) (hl : 0 < l.length) : ∃ b o, A = some ⟨b, o, none⟩ ∧ b < B ∧ ∀ j (h : j < l.length), w.cell? ⟨b, o + j, none⟩ = some (.int .u8 (l[j].toNat : Nat)) := by
  rcases h with rfl | h
  · simp at hl
  · exact h
theorem Byt.keep (h : Byt w B A l) (hk : ∀ b o, b < B → w'.cell? ⟨b, o, none⟩ = w.cell? ⟨b, o, none⟩) : Byt w' B A l := by
  rcases h with rfl | ⟨b, o, rfl, hb, hc⟩
  · exact .inl rfl
  · exact .inr ⟨b, o, rfl, hb, fun j hj => (hk b _ hb).trans (hc j hj)⟩
theorem Byt.more (h : Byt w B A l) (hB : B ≤ B') : Byt w B' A l := by
  rcases h with rfl | ⟨b, o, rfl, hb, hc⟩
  · exact .inl rfl
  · exact .inr ⟨b, o, rfl, by omega, hc⟩
theorem Byt.below (h : Byt w B A l) (hb : Below B w w') : Byt w' B A l := h.keep fun _ _ hp => hb.cell hp
/-- the whole step: what stood below the heap's end stands there still -/
theorem Byt.then_ (h : Byt w w.heap.size A l) (hb : Below w.heap.size w w') : Byt w' w'.heap.size A l := (h.below hb).more hb.size
theorem Byt.drewN (h : Byt w B A l) (k : Nat) : Byt (w.drewN k) B A l := h
theorem Byt.take (h : Byt w B A l) (k : Nat) : Byt w B A (l.take k) := by
  rcases h with rfl | ⟨b, o, rfl, hb, hc⟩
  · exact .inl (by simp)
  · exact .inr ⟨b, o, rfl, hb, fun j hj => by
      simp only [List.length_take] at hj
      rw [List.getElem_take]; exact hc j (by omega)⟩
theorem Byt.drop (h : Byt w B A l) {k cap : Nat} (hc : l.length ≤ cap) (_hk : k ≤ l.length) : Byt w B (if cap = k then A else A.map (·.add k)) (l.drop k) := by
  rcases Nat.lt_or_ge k l.length with hl | hl
  · obtain ⟨b, o, rfl, hb, hcell⟩ := h.at_ (by omega)
    rw [if_neg (by omega)]
    refine .inr ⟨b, o + k, by simp [Addr.add_lit], hb, fun j hj => ?_⟩
    simp only [List.length_drop] at hj
    rw [List.getElem_drop, Nat.add_assoc]
    exact hcell (k + j) (by omega)
  · exact .inl (by rw [List.drop_eq_nil_of_le hl])

theorem byteCells_get (l : List UInt8) (j : Nat) (h : j < l.length) : (byteCells l)[j]? = some (.int .u8 (l[j].toNat : Nat)) := by
  simp [byteCells, List.getElem?_eq_getElem h]
theorem byteCells_one (l : List UInt8) : ∀ v ∈ byteCells l, v.oneCell' = true := by
  intro v hv
  obtain ⟨b, _, rfl⟩ := List.mem_map.1 hv
  rfl

/-- What a row of the call's own holds reads as its bytes. -/
theorem Byt.own {base : Nat} {e : TypeId} {n c : Nat} (h : w.ownsRow base e 1 (.slice A n c) l.length (byteCells l)) : n = l.length ∧ Byt w w.heap.size A l := by
  rcases h.2 with ⟨hv, hx⟩ | ⟨g, cap, cur, hv, hb, hg, hnc, hm, htk⟩
  · injection hv with h1 h2 h3
    exact ⟨h2.trans hx.symm, .inl (List.eq_nil_of_length_eq_zero hx)⟩
  · injection hv with h1 h2 h3
    refine ⟨h2, ?_⟩
    rcases Nat.eq_zero_or_pos l.length with h0 | h0
    · exact .inl (List.eq_nil_of_length_eq_zero h0)
    · subst h1
      refine .inr ⟨g, 0, rfl, (Array.getElem?_eq_some_iff.1 hg).1, fun j hj => ?_⟩
      have := h.cells (g := g) rfl j _ (byteCells_get l j hj)
      simpa [Addr.add_lit] using this

/-- The string of the bytes. -/
def str (l : List UInt8) : ByteArray := ⟨l.toArray⟩
theorem str_list (a : List UInt8) : (str a).toList = a := by rw [ByteArray.toList_eq]; rfl
theorem str_eq (a b : List UInt8) : ((str a).toList == (str b).toList) = decide (a = b) := by
  rw [str_list, str_list]
  by_cases h : a = b
  · simp [h]
  · simp [h]

theorem run_str {P : Program} (h : Byt w B A l) (src e dst : TypeId) (hs : P.underlying src = some (.slice e)) (he : P.underlying e = some (.int .u8)) (hd : P.underlying dst = some .string) (c : Nat) :
    (convert src dst (.slice A l.length c)).run P w = .ok (.string (str l)) w := by
  rcases Nat.eq_zero_or_pos l.length with h0 | h0
  · have hl := List.eq_nil_of_length_eq_zero h0
    subst hl
    rcases A with _ | a
    · exact run_convert_bytes_nil w src e hs he _ _ dst hd
    · have hc : (loadCells a 0).run P w = .ok (([] : List Int).map (Value.int .u8)).toArray w := by
        have := run_loadCells_list (P := P) w a [] (fun j v hj => by simp at hj)
        simpa using this
      rw [run_convert_bytes_string w src dst e _ _ c hs he hd]
      exact run_bytesToString w a 0 c [] hc
  · obtain ⟨b, o, rfl, _, hc⟩ := h.at_ h0
    have := run_convert_bytes_arg (P := P) w src e hs he b o l.length c (l.map fun x => (x.toNat : Int)) (by simp) (fun i hi => by
      rw [hc i hi]; simp [List.getD, List.getElem?_eq_getElem hi]) dst hd
    rw [this]
    simp [strOfNums, str, Function.comp_def]
end

end Go.Proofs.YtnflbnchkcigiaaDoor
