/- What the chapter's words are, plainly: what stands at the front of a text (nx), what is taken off when it is gone through (tk). No walk here. -/
import Derived.Lib.ValidAsc
import Derived.Lib.RuneCount
import Derived.Lib.RuneBytes
namespace Go.Proofs.YtijgcfnjbfaelaaDoor
open Go.Lib (decodeL decodeL_N decodeL_width decodeL_le encodeRune encodeRuneZ encode_decode decodeN decodeN_shape)

def isC (c : Int) : Prop := 0 ≤ c ∧ c ≤ 1114111 ∧ ¬ (55296 ≤ c ∧ c ≤ 57343)
instance isC_dec (c : Int) : Decidable (isC c) := by unfold isC; infer_instance
/-- the bytes of a character; none if it is none -/
def putL (c : Int) : List UInt8 := if isC c then encodeRune c else []
/-- what stands at the front, and how many bytes it has -/
def nx (l : List UInt8) : Int × Nat :=
  if l = [] then (-1, 0) else if (decodeL l).1 = 65533 ∧ (decodeL l).2 = 1 then (-1, 1) else ((decodeL l).1, (decodeL l).2)

theorem nx_nil : nx [] = (-1, 0) := rfl

theorem decode_isC (l : List UInt8) (hne : l ≠ []) (hv : ¬ ((decodeL l).1 = 65533 ∧ (decodeL l).2 = 1)) : isC (decodeL l).1 := by
  have hl : 0 < l.length := List.length_pos_iff.2 hne
  rw [decodeL_N] at hv ⊢
  have k0 := (l.getD 0 0).toNat_lt
  have k1 := (l.getD 1 0).toNat_lt
  have k2 := (l.getD 2 0).toNat_lt
  have k3 := (l.getD 3 0).toNat_lt
  unfold isC
  rcases decodeN_shape l.length (l.getD 0 0).toNat (l.getD 1 0).toNat (l.getD 2 0).toNat (l.getD 3 0).toNat with ⟨c, e⟩ | ⟨c1, c2, c3, cv, e⟩ | ⟨c1, c2, c3, c4, cv, cs, e⟩ | ⟨c1, c2, c3, c4, c5, cv, cw, e⟩ | e
  · rw [e]; dsimp only; omega
  · rw [e]; dsimp only; omega
  · rw [e]; dsimp only; omega
  · rw [e]; dsimp only; omega
  · rw [e] at hv; exact absurd ⟨rfl, rfl⟩ hv

theorem enc_len (c : Int) : 1 ≤ (encodeRune c).length ∧ (encodeRune c).length ≤ 4 := by
  have := Go.Lib.encodeRuneZ_length c
  simpa [encodeRune] using this
theorem enc_ne (c : Int) : encodeRune c ≠ [] := by
  intro h
  have := (enc_len c).1
  rw [h] at this
  simp at this

theorem nx_cases (l : List UInt8) (hne : l ≠ []) : nx l = (-1, 1) ∨ ∃ c r, isC c ∧ l = encodeRune c ++ r ∧ nx l = (c, (encodeRune c).length) := by
  by_cases hv : (decodeL l).1 = 65533 ∧ (decodeL l).2 = 1
  · left; unfold nx; rw [if_neg hne, if_pos hv]
  · right
    have he := encode_decode l hne hv
    refine ⟨(decodeL l).1, l.drop (decodeL l).2, decode_isC l hne hv, by rw [he, List.take_append_drop], ?_⟩
    unfold nx
    rw [if_neg hne, if_neg hv, he, List.length_take, Nat.min_eq_left (decodeL_le l hne)]

theorem u8 (z : Int) (n : Nat) (h : z = n) (h1 : n < 256) : (z.toNat.toUInt8).toNat = n := by
  subst h
  simp; omega

theorem nx_of {l : List UInt8} {c : Int} {n : Nat} (hne : l ≠ []) (h : decodeL l = (c.toNat, n)) (h0 : 0 ≤ c) (hn : ¬ (c = 65533 ∧ n = 1)) : nx l = (c, n) := by
  unfold nx
  rw [if_neg hne, h, if_neg (by dsimp only; omega)]
  simp only [Prod.mk.injEq, and_true]
  omega

set_option maxRecDepth 100000 in
theorem nx_put (c : Int) (r : List UInt8) (h : isC c) : nx (encodeRune c ++ r) = (c, (encodeRune c).length) := by
  obtain ⟨h0, h1, h2⟩ := h
  obtain ⟨C, rfl⟩ : ∃ C : Nat, c = C := ⟨c.toNat, by omega⟩
  have hne : encodeRune (C : Int) ++ r ≠ [] := by simp [enc_ne]
  by_cases a1 : (C : Int) ≤ 127
  · have e : encodeRune (C : Int) = [(C : Int).toNat.toUInt8] := by unfold encodeRune; rw [Go.Lib.encodeRuneZ_one h0 a1]; rfl
    have u := u8 (C : Int) C rfl (by omega)
    refine nx_of hne ?_ h0 (by omega)
    rw [decodeL_N, e]
    simp only [List.cons_append, List.nil_append, List.getD_cons_zero, List.length_cons, List.length_nil, u]
    unfold decodeN
    rw [if_pos (by omega), Int.toNat_natCast]
  · by_cases a2 : (C : Int) ≤ 2047
    · have e : encodeRune (C : Int) = [(192 + (C : Int) / 64).toNat.toUInt8, (128 + (C : Int) % 64).toNat.toUInt8] := by unfold encodeRune; rw [Go.Lib.encodeRuneZ_two (by omega) a2]; rfl
      have u := u8 (192 + (C : Int) / 64) (192 + C / 64) (by omega) (by omega)
      have v := u8 (128 + (C : Int) % 64) (128 + C % 64) (by omega) (by omega)
      refine nx_of hne ?_ h0 (by rw [e]; simp)
      rw [decodeL_N, e]
      simp only [List.cons_append, List.nil_append, List.getD_cons_zero, List.getD_cons_succ, List.length_cons, List.length_nil, u, v]
      rcases decodeN_shape (r.length + 1 + 1) (192 + C / 64) (128 + C % 64) (r.getD 0 0).toNat (r.getD 1 0).toNat with ⟨c', _⟩ | ⟨c1, c2, c3, cv, e'⟩ | ⟨c1, _⟩ | ⟨c1, _⟩ | e'
      · omega
      · rw [e', Int.toNat_natCast]; exact Prod.ext (by dsimp only; omega) rfl
      · omega
      · omega
      · rw [e']
        unfold decodeN at e'
        rw [if_neg (by omega), if_pos (by omega), if_pos (by omega)] at e'
        simp at e'
    · by_cases a3 : (C : Int) ≤ 65535
      · have e : encodeRune (C : Int) = [(224 + (C : Int) / 4096).toNat.toUInt8, (128 + (C : Int) / 64 % 64).toNat.toUInt8, (128 + (C : Int) % 64).toNat.toUInt8] := by unfold encodeRune; rw [Go.Lib.encodeRuneZ_three (by omega)]; rfl
        have u := u8 (224 + (C : Int) / 4096) (224 + C / 4096) (by omega) (by omega)
        have v := u8 (128 + (C : Int) / 64 % 64) (128 + C / 64 % 64) (by omega) (by omega)
        have x := u8 (128 + (C : Int) % 64) (128 + C % 64) (by omega) (by omega)
        refine nx_of hne ?_ h0 (by rw [e]; simp)
        rw [decodeL_N, e]
        simp only [List.cons_append, List.nil_append, List.getD_cons_zero, List.getD_cons_succ, List.length_cons, List.length_nil, u, v, x]
        rcases decodeN_shape (r.length + 1 + 1 + 1) (224 + C / 4096) (128 + C / 64 % 64) (128 + C % 64) (r.getD 0 0).toNat with ⟨c', _⟩ | ⟨c1, _⟩ | ⟨c1, c2, c3, c4, cv, cs, e'⟩ | ⟨c1, _⟩ | e'
        · omega
        · omega
        · rw [e', Int.toNat_natCast]; exact Prod.ext (by dsimp only; omega) rfl
        · omega
        · rw [e']
          unfold decodeN at e'
          rw [if_neg (by omega), if_neg (by omega), if_pos (by omega), if_pos (by omega)] at e'
          simp at e'
      · have e : encodeRune (C : Int) = [(240 + (C : Int) / 262144).toNat.toUInt8, (128 + (C : Int) / 4096 % 64).toNat.toUInt8, (128 + (C : Int) / 64 % 64).toNat.toUInt8, (128 + (C : Int) % 64).toNat.toUInt8] := by unfold encodeRune; rw [Go.Lib.encodeRuneZ_four (by omega) (by omega)]; rfl
        have u := u8 (240 + (C : Int) / 262144) (240 + C / 262144) (by omega) (by omega)
        have t := u8 (128 + (C : Int) / 4096 % 64) (128 + C / 4096 % 64) (by omega) (by omega)
        have v := u8 (128 + (C : Int) / 64 % 64) (128 + C / 64 % 64) (by omega) (by omega)
        have x := u8 (128 + (C : Int) % 64) (128 + C % 64) (by omega) (by omega)
        refine nx_of hne ?_ h0 (by rw [e]; simp)
        rw [decodeL_N, e]
        simp only [List.cons_append, List.nil_append, List.getD_cons_zero, List.getD_cons_succ, List.length_cons, List.length_nil, u, v, x, t]
        rcases decodeN_shape (r.length + 1 + 1 + 1 + 1) (240 + C / 262144) (128 + C / 4096 % 64) (128 + C / 64 % 64) (128 + C % 64) with ⟨c', _⟩ | ⟨c1, _⟩ | ⟨c1, _⟩ | ⟨c1, c2, c3, c4, c5, cv, cw, e'⟩ | e'
        · omega
        · omega
        · omega
        · rw [e', Int.toNat_natCast]; exact Prod.ext (by dsimp only; omega) rfl
        · rw [e']
          unfold decodeN at e'
          rw [if_neg (by omega), if_neg (by omega), if_neg (by omega), if_pos (by omega), if_pos (by omega)] at e'
          simp at e'

theorem nx_range (l : List UInt8) (hne : l ≠ []) : 1 ≤ (nx l).2 ∧ (nx l).2 ≤ 4 ∧ (nx l).2 ≤ l.length := by
  rcases nx_cases l hne with h | ⟨c, r, hc, hl, h⟩
  · rw [h]
    have := List.length_pos_iff.2 hne
    simp only; omega
  · have := enc_len c
    rw [h]
    have hl' := congrArg List.length hl
    rw [List.length_append] at hl'
    simp only; omega

/-- what is taken off, one by one: some: a character's bytes; none: a single byte where none stands -/
def toks : Nat → List UInt8 → List (Option (List UInt8))
  | 0, _ => []
  | n + 1, l => if l = [] then [] else (if (nx l).1 < 0 then none else some (l.take (nx l).2)) :: toks n (l.drop (nx l).2)
def tk (l : List UInt8) : List (Option (List UInt8)) := toks l.length l

theorem toks_fuel : ∀ (n m : Nat) (l : List UInt8), l.length ≤ n → l.length ≤ m → toks n l = toks m l
  | 0, 0, _, _, _ => rfl
  | 0, m + 1, l, h, _ => by
    have : l = [] := List.eq_nil_of_length_eq_zero (by omega)
    simp [toks, this]
  | n + 1, 0, l, _, h => by
    have : l = [] := List.eq_nil_of_length_eq_zero (by omega)
    simp [toks, this]
  | n + 1, m + 1, l, h1, h2 => by
    unfold toks
    by_cases hne : l = []
    · simp [hne]
    · have := nx_range l hne
      rw [if_neg hne, if_neg hne, toks_fuel n m (l.drop (nx l).2) (by rw [List.length_drop]; omega) (by rw [List.length_drop]; omega)]

theorem tk_nil : tk [] = [] := rfl
theorem tk_step (l : List UInt8) (hne : l ≠ []) : tk l = (if (nx l).1 < 0 then none else some (l.take (nx l).2)) :: tk (l.drop (nx l).2) := by
  have hl : 0 < l.length := List.length_pos_iff.2 hne
  have hr := nx_range l hne
  obtain ⟨n, hn⟩ : ∃ n, l.length = n + 1 := ⟨l.length - 1, by omega⟩
  unfold tk
  rw [hn]
  show (if l = [] then [] else _) = _
  rw [if_neg hne, toks_fuel n (l.drop (nx l).2).length _ (by rw [List.length_drop]; omega) (Nat.le_refl _)]
theorem tk_char (c : Int) (r : List UInt8) (h : isC c) : tk (encodeRune c ++ r) = some (encodeRune c) :: tk r := by
  rw [tk_step _ (by simp [enc_ne]), nx_put c r h]
  have := h.1
  rw [if_neg (by simp only; omega)]
  simp
theorem tk_bad (b : UInt8) (r : List UInt8) (h : nx (b :: r) = (-1, 1)) : tk (b :: r) = none :: tk r := by
  rw [tk_step _ (by simp), h]
  simp

theorem tk_ind {P : List UInt8 → Prop} (h0 : P []) (hc : ∀ c r, isC c → P r → P (encodeRune c ++ r)) (hb : ∀ b r, nx (b :: r) = (-1, 1) → P r → P (b :: r)) : ∀ (n : Nat) (l : List UInt8), l.length ≤ n → P l
  | 0, l, h => by
    have : l = [] := List.eq_nil_of_length_eq_zero (by omega)
    rw [this]; exact h0
  | n + 1, l, h => by
    by_cases hne : l = []
    · rw [hne]; exact h0
    · rcases nx_cases l hne with hx | ⟨c, r, hC, hl, _⟩
      · obtain ⟨b, r, rfl⟩ : ∃ b r, l = b :: r := by
          cases l with
          | nil => exact absurd rfl hne
          | cons b r => exact ⟨b, r, rfl⟩
        exact hb b r hx (tk_ind h0 hc hb n r (by simp at h; omega))
      · have := enc_len c
        have hl' := congrArg List.length hl
        rw [List.length_append] at hl'
        rw [hl]
        exact hc c r hC (tk_ind h0 hc hb n r (by omega))

def fl : List (Option (List UInt8)) → Nat
  | some b :: t => b.length + fl t
  | _ => 0
def mn : List (Option (List UInt8)) → List UInt8
  | some b :: t => b ++ mn t
  | none :: t => [239, 191, 189] ++ mn t
  | [] => []
def allC : List (Option (List UInt8)) → Bool
  | some _ :: t => allC t
  | none :: _ => false
  | [] => true

def fltL (l : List UInt8) : Nat := fl (tk l)
def cntL (l : List UInt8) : Nat := (tk l).length
def menL (l : List UInt8) : List UInt8 := mn (tk l)
def okL (l : List UInt8) : Bool := allC (tk l)

theorem flt_le (l : List UInt8) : fltL l ≤ l.length := by
  refine tk_ind (P := fun l => fltL l ≤ l.length) (Nat.le_refl _) ?_ ?_ l.length l (Nat.le_refl _)
  · intro c r h ih
    unfold fltL at ih ⊢
    rw [tk_char c r h, List.length_append]
    show _ + fl (tk r) ≤ _
    omega
  · intro b r h _
    unfold fltL
    rw [tk_bad b r h]
    exact Nat.zero_le _
theorem cnt_le (l : List UInt8) : cntL l ≤ l.length := by
  refine tk_ind (P := fun l => cntL l ≤ l.length) (Nat.le_refl _) ?_ ?_ l.length l (Nat.le_refl _)
  · intro c r h ih
    unfold cntL at ih ⊢
    have := enc_len c
    rw [tk_char c r h, List.length_append, List.length_cons]
    omega
  · intro b r h ih
    unfold cntL at ih ⊢
    rw [tk_bad b r h, List.length_cons, List.length_cons]
    omega
theorem men_le (l : List UInt8) : (menL l).length ≤ 3 * l.length := by
  refine tk_ind (P := fun l => (menL l).length ≤ 3 * l.length) (Nat.le_refl _) ?_ ?_ l.length l (Nat.le_refl _)
  · intro c r h ih
    unfold menL at ih ⊢
    rw [tk_char c r h, List.length_append]
    show (encodeRune c ++ mn (tk r)).length ≤ _
    rw [List.length_append]
    omega
  · intro b r h ih
    unfold menL at ih ⊢
    rw [tk_bad b r h, List.length_cons]
    show ([239, 191, 189] ++ mn (tk r)).length ≤ _
    rw [List.length_append]
    simp only [List.length_cons, List.length_nil]
    omega
theorem ok_flt (l : List UInt8) : okL l = decide (fltL l = l.length) := by
  refine tk_ind (P := fun l => okL l = decide (fltL l = l.length)) rfl ?_ ?_ l.length l (Nat.le_refl _)
  · intro c r h ih
    unfold okL fltL at ih ⊢
    rw [tk_char c r h, List.length_append]
    show allC (tk r) = decide (_ + fl (tk r) = _)
    rw [ih]
    simp
  · intro b r h _
    unfold okL fltL
    rw [tk_bad b r h]
    show false = decide (0 = _)
    simp

/-- a text of characters, and anything behind it -/
theorem tk_app (a t : List UInt8) (h : okL a = true) : tk (a ++ t) = tk a ++ tk t := by
  revert h
  refine tk_ind (P := fun a => okL a = true → tk (a ++ t) = tk a ++ tk t) (fun _ => rfl) ?_ ?_ a.length a (Nat.le_refl _)
  · intro c r h ih ho
    unfold okL at ih ho
    rw [tk_char c r h] at ho
    rw [List.append_assoc, tk_char c _ h, tk_char c r h, ih ho]
    rfl
  · intro b r h _ ho
    unfold okL at ho
    rw [tk_bad b r h] at ho
    exact absurd ho (by simp [allC])
theorem mn_app : ∀ x y, mn (x ++ y) = mn x ++ mn y
  | [], _ => rfl
  | some b :: x, y => by simp [mn, mn_app x y]
  | none :: x, y => by simp [mn, mn_app x y]
theorem allC_app : ∀ x y, allC (x ++ y) = (allC x && allC y)
  | [], _ => by simp [allC]
  | some _ :: x, y => by simp [allC, allC_app x y]
  | none :: x, y => by simp [allC]
theorem men_ok (a : List UInt8) (h : okL a = true) : menL a = a := by
  revert h
  refine tk_ind (P := fun a => okL a = true → menL a = a) (fun _ => rfl) ?_ ?_ a.length a (Nat.le_refl _)
  · intro c r h ih ho
    unfold okL at ih ho
    unfold menL at ih ⊢
    rw [tk_char c r h] at ho ⊢
    show encodeRune c ++ mn (tk r) = _
    rw [ih ho]
  · intro b r h _ ho
    unfold okL at ho
    rw [tk_bad b r h] at ho
    exact absurd ho (by simp [allC])
theorem fl_app : ∀ x y, allC x = true → fl (x ++ y) = fl x + fl y
  | [], _, _ => by simp [fl]
  | some b :: x, y, h => by simp only [List.cons_append, fl, fl_app x y h]; omega
  | none :: x, y, h => absurd h (by simp [allC])
theorem flt_app (a t : List UInt8) (h : okL a = true) : fltL (a ++ t) = a.length + fltL t := by
  have h2 : fltL a = a.length := by have := ok_flt a; rw [h] at this; exact of_decide_eq_true this.symm
  unfold fltL at h2 ⊢
  rw [tk_app a t h, fl_app _ _ h, h2]
theorem cnt_app (a t : List UInt8) (h : okL a = true) : cntL (a ++ t) = cntL a + cntL t := by
  unfold cntL
  rw [tk_app a t h, List.length_append]
theorem men_app (a t : List UInt8) (h : okL a = true) : menL (a ++ t) = a ++ menL t := by
  have := men_ok a h
  unfold menL at this ⊢
  rw [tk_app a t h, mn_app, this]
theorem ok_take (l : List UInt8) : okL (l.take (fltL l)) = true := by
  refine tk_ind (P := fun l => okL (l.take (fltL l)) = true) rfl ?_ ?_ l.length l (Nat.le_refl _)
  · intro c r h ih
    have e : fltL (encodeRune c ++ r) = (encodeRune c).length + fltL r := by
      unfold fltL; rw [tk_char c r h]; rfl
    rw [e, List.take_length_add_append]
    unfold okL at ih ⊢
    rw [tk_char c _ h]
    exact ih
  · intro b r h _
    have e : fltL (b :: r) = 0 := by unfold fltL; rw [tk_bad b r h]; rfl
    rw [e]; rfl

def fix : Option (List UInt8) → Option (List UInt8)
  | none => some [239, 191, 189]
  | x => x
theorem enc_fffd : encodeRune 65533 = [239, 191, 189] := by decide
theorem isC_fffd : isC 65533 := by decide
theorem tk_men (l : List UInt8) : tk (menL l) = (tk l).map fix := by
  refine tk_ind (P := fun l => tk (menL l) = (tk l).map fix) rfl ?_ ?_ l.length l (Nat.le_refl _)
  · intro c r h ih
    unfold menL at ih ⊢
    rw [tk_char c r h]
    show tk (encodeRune c ++ mn (tk r)) = _
    rw [tk_char c _ h, ih]
    rfl
  · intro b r h ih
    unfold menL at ih ⊢
    rw [tk_bad b r h]
    show tk ([239, 191, 189] ++ mn (tk r)) = _
    rw [← enc_fffd, tk_char 65533 _ isC_fffd, ih, enc_fffd]
    rfl
theorem allC_fix : ∀ x : List (Option (List UInt8)), allC (x.map fix) = true
  | [] => rfl
  | some _ :: x => allC_fix x
  | none :: x => allC_fix x
theorem men_valid (l : List UInt8) : okL (menL l) = true := by
  unfold okL; rw [tk_men]; exact allC_fix _
theorem men_cnt (l : List UInt8) : cntL (menL l) = cntL l := by
  unfold cntL; rw [tk_men, List.length_map]

/-! ### what the library's own words say -/
theorem validD_ok (l : List UInt8) : Go.Lib.validD l = okL l := by
  refine tk_ind (P := fun l => Go.Lib.validD l = okL l) rfl ?_ ?_ l.length l (Nat.le_refl _)
  · intro c r h ih
    have hne : encodeRune c ++ r ≠ [] := by simp [enc_ne]
    have hx := nx_put c r h
    unfold nx at hx
    rw [if_neg hne] at hx
    rw [Go.Lib.validD_step _ hne]
    by_cases hv : (decodeL (encodeRune c ++ r)).1 = 65533 ∧ (decodeL (encodeRune c ++ r)).2 = 1
    · rw [if_pos hv] at hx
      have h0 := h.1
      simp only [Prod.mk.injEq] at hx
      omega
    · rw [if_neg hv] at hx ⊢
      simp only [Prod.mk.injEq] at hx
      rw [hx.2, List.drop_left, ih]
      unfold okL
      rw [tk_char c r h]
      rfl
  · intro b r h _
    unfold nx at h
    rw [if_neg (by simp)] at h
    rw [Go.Lib.validD_step _ (by simp)]
    by_cases hv : (decodeL (b :: r)).1 = 65533 ∧ (decodeL (b :: r)).2 = 1
    · rw [if_pos hv]
      unfold okL
      rw [tk_bad b r (by unfold nx; rw [if_neg (by simp), if_pos hv])]
      rfl
    · rw [if_neg hv] at h
      simp only [Prod.mk.injEq] at h
      omega

theorem drop_char {l : List UInt8} {c : Int} (h : nx l = (c, (decodeL l).2)) (hne : l ≠ []) : tk l = (if c < 0 then none else some (l.take (decodeL l).2)) :: tk (l.drop (decodeL l).2) := by
  rw [tk_step l hne, h]
theorem nx_width (l : List UInt8) (hne : l ≠ []) : (nx l).2 = (decodeL l).2 := by
  unfold nx
  rw [if_neg hne]
  split
  · rename_i h; exact h.2.symm
  · rfl
theorem runeCount_cnt (s : ByteArray) : ∀ (f pos : Nat), s.size ≤ pos + f → Go.Lib.runeCountFrom s f pos = cntL (s.data.toList.drop pos)
  | 0, pos, h => by
    have : s.data.toList.drop pos = [] := List.drop_eq_nil_of_le (by rw [← Go.Lib.size_eq]; omega)
    rw [this]; rfl
  | f + 1, pos, h => by
    unfold Go.Lib.runeCountFrom
    by_cases hp : pos < s.size
    · have hne : s.data.toList.drop pos ≠ [] := by
        intro hn
        have := congrArg List.length hn
        rw [List.length_drop, ← Go.Lib.size_eq] at this
        simp at this
        omega
      have hw := decodeL_width (s.data.toList.drop pos)
      rw [if_pos hp, ← Go.Lib.decodeL_drop, runeCount_cnt s f _ (by omega)]
      unfold cntL
      rw [tk_step _ hne, nx_width _ hne, List.drop_drop, List.length_cons]
      omega
    · have : s.data.toList.drop pos = [] := List.drop_eq_nil_of_le (by rw [← Go.Lib.size_eq]; omega)
      rw [if_neg hp, this]; rfl
theorem runeCount_ok (s : ByteArray) : Go.Lib.runeCount s = cntL s.data.toList := by
  unfold Go.Lib.runeCount
  rw [runeCount_cnt s s.size 0 (by omega)]
  rfl
end Go.Proofs.YtijgcfnjbfaelaaDoor
