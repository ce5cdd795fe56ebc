/- What is true of records and their bytes, in plain words. No walk here. -/
import Derived.Test.YtnflbnchkcigiaaDoorVarPure
import Derived.Test.YtnflbnchkcigiaaDoorTaGa
namespace Go.Proofs.YtnflbnchkcigiaaDoor
open Go.Lib

/-- a field's parts -/
structure Fd where
  t : Int
  v : Val

/-- a value's number is one of 64 bits -/
def Fit (v : Val) : Prop := 0 ≤ v.n ∧ v.n ≤ 18446744073709551615
/-- whether the payload of this kind is a number -/
def isNum (k : Int) : Bool := k == 1 || k == 2 || k == 3
/-- the payload's number -/
def pnum (v : Val) : Int := if v.k = 2 then zig (sgn v.n) else v.n
/-- the payload -/
def pay (v : Val) : List UInt8 := if isNum v.k then uvarint (pnum v).toNat else v.s.data.toList
/-- the key -/
def keyF (f : Fd) : Int := 8 * f.t + f.v.k
/-- a field's bytes -/
def fb (f : Fd) : List UInt8 := uvarint (keyF f).toNat ++ (uvarint (pay f.v).length ++ pay f.v)
def enc (l : List Fd) : List UInt8 := l.flatMap fb
/-- whether a field can stand behind one of this tag -/
def canF (f : Fd) (last : Int) : Bool := decide (last < f.t) && decide (f.t ≤ 65535) && okV f.v
/-- these fields can stand behind one of this tag -/
def Is : Int → List Fd → Prop
  | _, [] => True
  | last, f :: r => canF f last = true ∧ Fit f.v ∧ Is f.t r
/-- the last one's tag -/
def lastOf : Int → List Fd → Int
  | last, [] => last
  | _, f :: r => lastOf f.t r

theorem enc_nil : enc [] = [] := rfl
theorem enc_cons (f : Fd) (r : List Fd) : enc (f :: r) = fb f ++ enc r := rfl
theorem enc_app (a b : List Fd) : enc (a ++ b) = enc a ++ enc b := List.flatMap_append
theorem enc_one (f : Fd) : enc [f] = fb f := by rw [enc_cons, enc_nil, List.append_nil]
theorem enc_snoc (a : List Fd) (f : Fd) : enc (a ++ [f]) = enc a ++ fb f := by rw [enc_app, enc_one]
theorem last_app (a b : List Fd) : ∀ last, lastOf last (a ++ b) = lastOf (lastOf last a) b := by
  induction a with
  | nil => intro last; rfl
  | cons f r ih => intro last; exact ih f.t
theorem last_snoc (last : Int) (a : List Fd) (f : Fd) : lastOf last (a ++ [f]) = f.t := by rw [last_app]; rfl
theorem is_app (a b : List Fd) : ∀ last, Is last (a ++ b) ↔ Is last a ∧ Is (lastOf last a) b := by
  induction a with
  | nil => intro last; simp [Is, lastOf]
  | cons f r ih =>
    intro last
    have := ih f.t
    simp only [List.cons_append, Is, lastOf, this, and_assoc]
theorem is_snoc {last : Int} {a : List Fd} {f : Fd} : Is last (a ++ [f]) ↔ Is last a ∧ canF f (lastOf last a) = true ∧ Fit f.v := by
  rw [is_app]; simp [Is]

theorem can_parts {f : Fd} {last : Int} (h : canF f last = true) : last < f.t ∧ f.t ≤ 65535 ∧ okV f.v = true := by
  simpa [canF, and_assoc] using h
theorem can_mono {f : Fd} {a b : Int} (h : canF f b = true) (hab : a ≤ b) : canF f a = true := by
  obtain ⟨h1, h2, h3⟩ := can_parts h
  simp [canF, h2, h3]; omega
theorem is_mono {l : List Fd} {a b : Int} (h : Is b l) (hab : a ≤ b) : Is a l := by
  cases l with
  | nil => trivial
  | cons f r => exact ⟨can_mono h.1 hab, h.2⟩
theorem is_last {l : List Fd} : ∀ {last : Int}, Is last l → last + (l.length : Int) ≤ lastOf last l ∧ (l = [] ∨ lastOf last l ≤ 65535) := by
  induction l with
  | nil => intro last _; simp [lastOf]
  | cons f r ih =>
    intro last h
    obtain ⟨h1, h2, h3⟩ := can_parts h.1
    have := ih h.2.2
    simp only [lastOf, List.length_cons]
    refine ⟨by omega, .inr ?_⟩
    rcases this.2 with rfl | g
    · exact h2
    · exact g
theorem is_few {l : List Fd} (h : Is 0 l) : l.length ≤ 65535 := by
  have := is_last h
  rcases this.2 with rfl | g
  · simp
  · omega
theorem is_take {l : List Fd} (c : Nat) (h : Is 0 l) : Is 0 (l.take c) := by
  have : Is 0 (l.take c ++ l.drop c) := by rw [List.take_append_drop]; exact h
  exact ((is_app _ _ _).1 this).1
theorem is_drop {l : List Fd} (c : Nat) (h : Is 0 l) : Is 0 (l.drop c) := by
  have : Is 0 (l.take c ++ l.drop c) := by rw [List.take_append_drop]; exact h
  obtain ⟨h1, h2⟩ := (is_app _ _ _).1 this
  have := is_last h1
  exact is_mono h2 (by omega)

theorem ok_kind {v : Val} (h : okV v = true) : 1 ≤ v.k ∧ v.k ≤ 5 := by
  unfold okV at h
  split at h
  · omega
  · split at h
    · omega
    · split at h
      · omega
      · split at h
        · omega
        · simp at h

theorem zig_range {x : Int} (h0 : -9223372036854775808 ≤ x) (h1 : x ≤ 9223372036854775807) : 0 ≤ zig x ∧ zig x ≤ 18446744073709551615 := by
  unfold zig; split <;> omega
theorem sgn_range {n : Int} (h0 : 0 ≤ n) (h1 : n ≤ 18446744073709551615) : -9223372036854775808 ≤ sgn n ∧ sgn n ≤ 9223372036854775807 := by
  unfold sgn; split <;> omega
theorem pnum_range {v : Val} (h : Fit v) : 0 ≤ pnum v ∧ pnum v ≤ 18446744073709551615 := by
  unfold pnum
  split
  · have := sgn_range h.1 h.2
    exact zig_range this.1 this.2
  · exact h
/-- the 64 bits of a number with a sign -/
def uns (z : Int) : Int := if z < 0 then z + 18446744073709551616 else z
theorem uns_sgn {n : Int} (h0 : 0 ≤ n) (h1 : n ≤ 18446744073709551615) : uns (sgn n) = n := by
  unfold uns sgn; split <;> split <;> omega
theorem sgn_uns {z : Int} (h0 : -9223372036854775808 ≤ z) (h1 : z ≤ 9223372036854775807) : sgn (uns z) = z := by
  unfold uns sgn; split <;> split <;> omega
theorem zag_zig (x : Int) : zag (zig x) = x := by
  unfold zag zig; split <;> split <;> omega
theorem zig_zag {y : Int} (h : 0 ≤ y) : zig (zag y) = y := by
  unfold zag zig; split <;> split <;> omega
theorem zag_range {y : Int} (h0 : 0 ≤ y) (h1 : y ≤ 18446744073709551615) : -9223372036854775808 ≤ zag y ∧ zag y ≤ 9223372036854775807 := by
  unfold zag; split <;> omega

/-- the value of this kind and this payload -/
def tkVal (k : Int) (p : List UInt8) : Option Val :=
  if isNum k then
    if tkE p = 0 ∧ tkN p = p.length then some ⟨k, if k = 2 then uns (zag (tkX p : Int)) else (tkX p : Int), ⟨#[]⟩⟩ else none
  else some ⟨k, 0, ⟨p.toArray⟩⟩
/-- the rest behind the key, and behind the length -/
def r1 (b : List UInt8) : List UInt8 := b.drop (tkN b)
def r2 (b : List UInt8) : List UInt8 := (r1 b).drop (tkN (r1 b))
/-- the field at the front, and how many bytes it has -/
def tkFld (b : List UInt8) : Option (Fd × Nat) :=
  if tkE b = 0 ∧ tkX b / 8 ≤ 65535 ∧ tkE (r1 b) = 0 ∧ tkX (r1 b) ≤ (r2 b).length then
    (tkVal (tkX b % 8 : Nat) ((r2 b).take (tkX (r1 b)))).map fun v => (⟨(tkX b / 8 : Nat), v⟩, tkN b + tkN (r1 b) + tkX (r1 b))
  else none

theorem tk_ok {l : List UInt8} (h : tkE l = 0) : tkN l ≤ l.length ∧ 1 ≤ tkN l ∧ tkN l ≤ 10 ∧ l.take (tkN l) = uvarint (tkX l) ∧ tkX l ≤ 18446744073709551615 := by
  have e : stops 0 l = (tkN l, 0) := Prod.ext rfl h
  obtain ⟨m, h1, h2, h3, h4, h5, h6, _⟩ := stops_ok l 0 (tkN l) (by omega) e
  have hm : m = tkN l := by omega
  subst hm
  refine ⟨h3, h2, h4, ?_, ?_⟩
  · exact h5
  · have : tkX l = val (l.take (tkN l)) := rfl
    rw [this]
    simp at h6
    omega
theorem tk_err {l : List UInt8} : tkE l = 0 ∨ (tkE l = 3 ∧ tkN l = 0) ∨ (tkE l = 5 ∧ tkN l = 0) := by
  unfold tkE tkN
  rcases stops_kind l 0 with h | h | h
  · exact .inl h
  · exact .inr (.inl (by rw [h]; exact ⟨rfl, rfl⟩))
  · exact .inr (.inr (by rw [h]; exact ⟨rfl, rfl⟩))
theorem tk_le (l : List UInt8) : tkN l ≤ l.length := by
  rcases tk_err (l := l) with h | h | h
  · exact (tk_ok h).1
  · omega
  · omega
theorem tk_put (x : Nat) (more : List UInt8) (hx : x ≤ 18446744073709551615) : tkE (uvarint x ++ more) = 0 ∧ tkN (uvarint x ++ more) = (uvarint x).length ∧ tkX (uvarint x ++ more) = x := by
  have h := stops_put x 0 more (by omega) (by simp; omega) (fun h => absurd rfl h)
  have hv : vsz x = (uvarint x).length := rfl
  refine ⟨by unfold tkE; rw [h], by unfold tkN; rw [h, hv]; omega, ?_⟩
  unfold tkX
  rw [h, Nat.zero_add, hv, List.take_left, val_uvarint]
theorem tk_put0 (x : Nat) (hx : x ≤ 18446744073709551615) : tkE (uvarint x) = 0 ∧ tkN (uvarint x) = (uvarint x).length ∧ tkX (uvarint x) = x := by
  have := tk_put x [] hx
  rwa [List.append_nil] at this

theorem tkVal_ok {k : Int} {p : List UInt8} {v : Val} (h : tkVal k p = some v) : v.k = k ∧ Fit v ∧ pay v = p := by
  unfold tkVal at h
  by_cases hk : isNum k = true
  · rw [if_pos hk] at h
    by_cases hp : tkE p = 0 ∧ tkN p = p.length
    · rw [if_pos hp] at h
      obtain ⟨h1, _, _, h2, h3⟩ := tk_ok hp.1
      rw [hp.2, List.take_length] at h2
      have hx0 : (0 : Int) ≤ (tkX p : Int) := by omega
      have hx1 : (tkX p : Int) ≤ 18446744073709551615 := by omega
      have := Option.some.inj h
      subst this
      refine ⟨rfl, ?_, ?_⟩
      · unfold Fit
        dsimp only
        split
        · have := zag_range hx0 hx1
          unfold uns; split <;> omega
        · exact ⟨hx0, hx1⟩
      · unfold pay pnum
        dsimp only
        rw [if_pos hk]
        by_cases h2k : k = 2
        · rw [if_pos h2k, if_pos h2k]
          have hz := zag_range hx0 hx1
          rw [sgn_uns hz.1 hz.2, zig_zag hx0, Int.toNat_natCast]
          exact h2.symm
        · rw [if_neg h2k, if_neg h2k, Int.toNat_natCast]
          exact h2.symm
    · rw [if_neg hp] at h; simp at h
  · rw [if_neg hk] at h
    have := Option.some.inj h
    subst this
    refine ⟨rfl, ?_, ?_⟩
    · unfold Fit; dsimp only; omega
    · unfold pay; dsimp only; rw [if_neg hk]
/-- What is taken are just a field's bytes. -/
theorem tkFld_ok {b : List UInt8} {f : Fd} {n : Nat} (h : tkFld b = some (f, n)) : Fit f.v ∧ n = (fb f).length ∧ b = fb f ++ b.drop n ∧ 1 ≤ n ∧ n ≤ b.length := by
  unfold tkFld at h
  by_cases hc : tkE b = 0 ∧ tkX b / 8 ≤ 65535 ∧ tkE (r1 b) = 0 ∧ tkX (r1 b) ≤ (r2 b).length
  · rw [if_pos hc] at h
    obtain ⟨h1, h2, h3, h4⟩ := hc
    obtain ⟨v, hv, he⟩ := Option.map_eq_some_iff.1 h
    simp only [Prod.mk.injEq] at he
    obtain ⟨hf, hn⟩ := he
    obtain ⟨k1, k2, _, k3, _⟩ := tk_ok h1
    obtain ⟨m1, m2, _, m3, _⟩ := tk_ok h3
    obtain ⟨v1, v2, v3⟩ := tkVal_ok hv
    have hfv : f.v = v := by rw [← hf]
    have hft : f.t = (tkX b / 8 : Nat) := by rw [← hf]
    have hkey : (keyF f).toNat = tkX b := by
      unfold keyF; rw [hfv, hft, v1]; omega
    have hlen : (pay f.v).length = tkX (r1 b) := by
      rw [hfv, v3, List.length_take]; omega
    have e1 : b = uvarint (tkX b) ++ r1 b := by
      rw [← k3]; exact (List.take_append_drop _ _).symm
    have e2 : r1 b = uvarint (tkX (r1 b)) ++ r2 b := by
      rw [← m3]; exact (List.take_append_drop _ _).symm
    have e3 : r2 b = pay f.v ++ (r2 b).drop (tkX (r1 b)) := by
      rw [hfv, v3]; exact (List.take_append_drop _ _).symm
    have hfb : b = fb f ++ (r2 b).drop (tkX (r1 b)) := by
      unfold fb
      rw [hkey, hlen, List.append_assoc, List.append_assoc, ← e3, ← e2, ← e1]
    have hnl : n = (fb f).length := by
      have a1 : (uvarint (tkX b)).length = tkN b := by rw [← k3, List.length_take]; omega
      have a2 : (uvarint (tkX (r1 b))).length = tkN (r1 b) := by rw [← m3, List.length_take]; omega
      unfold fb
      rw [hkey, hlen, List.length_append, List.length_append, hlen, a1, a2, ← hn]; omega
    have hd : b.drop n = (r2 b).drop (tkX (r1 b)) := by
      rw [hnl]
      conv => lhs; rw [hfb]
      exact List.drop_left
    refine ⟨by rw [hfv]; exact v2, hnl, by rw [hd]; exact hfb, by omega, ?_⟩
    have := congrArg List.length hfb
    rw [List.length_append] at this
    omega
  · rw [if_neg hc] at h; simp at h

theorem size0 {s : ByteArray} (h : s.size = 0) : s = ⟨#[]⟩ := by
  cases s with
  | mk d => have : d.size = 0 := h; have : d = #[] := Array.eq_empty_of_size_eq_zero this; rw [this]
/-- what a valid value of each kind has -/
theorem ok_num {v : Val} (h : okV v = true) (hk : isNum v.k = true) : v.s = ⟨#[]⟩ := by
  unfold okV at h
  simp only [isNum, Bool.or_eq_true, beq_iff_eq] at hk
  by_cases h1 : v.k = 1 ∨ v.k = 2
  · rw [if_pos h1] at h
    exact size0 (by simpa using h)
  · rw [if_neg h1] at h
    have h3 : v.k = 3 := by omega
    rw [if_pos h3] at h
    rw [Bool.and_eq_true, decide_eq_true_eq, decide_eq_true_eq] at h
    exact size0 h.2
theorem ok_txt {v : Val} (h : okV v = true) (hk : isNum v.k = false) : v.n = 0 := by
  unfold okV at h
  simp [isNum] at hk
  rw [if_neg (by omega), if_neg (by omega)] at h
  split at h
  · simp at h; exact h.1
  · split at h
    · simpa using h
    · simp at h
theorem ok_bool {v : Val} (h : okV v = true) (hk : v.k = 3) : v.n ≤ 1 := by
  unfold okV at h
  rw [if_neg (by omega), if_pos hk] at h
  simp at h
  exact h.1

theorem tkVal_pay {v : Val} (hv : okV v = true) (hf : Fit v) : tkVal v.k (pay v) = some v := by
  unfold tkVal pay
  by_cases hk : isNum v.k = true
  · simp only [if_pos hk]
    have hp := pnum_range hf
    obtain ⟨a1, a2, a3⟩ := tk_put0 (pnum v).toNat (by omega)
    rw [if_pos ⟨a1, a2⟩, a3]
    have hs := ok_num hv hk
    have e : (((pnum v).toNat : Nat) : Int) = pnum v := by omega
    rw [e]
    have : (if v.k = 2 then uns (zag (pnum v)) else pnum v) = v.n := by
      unfold pnum
      by_cases h2 : v.k = 2
      · rw [if_pos h2, if_pos h2, zag_zig, uns_sgn hf.1 hf.2]
      · rw [if_neg h2, if_neg h2]
    rw [this]
    cases v; simp_all
  · have hk' : isNum v.k = false := by simpa using hk
    simp only [if_neg hk]
    have hn := ok_txt hv hk'
    cases v; simp_all
theorem key_range {f : Fd} {last : Int} (h : canF f last = true) (h0 : 0 ≤ last) : (keyF f).toNat = 8 * f.t.toNat + f.v.k.toNat ∧ f.v.k.toNat < 8 ∧ f.t.toNat ≤ 65535 ∧ 0 < f.t := by
  obtain ⟨h1, h2, h3⟩ := can_parts h
  have := ok_kind h3
  unfold keyF
  omega
/-- The field at the front is taken. -/
theorem tkFld_fb {f : Fd} {last : Int} (more : List UInt8) (h : canF f last = true) (h0 : 0 ≤ last) (hf : Fit f.v) (hl : (pay f.v).length ≤ 18446744073709551615) :
    tkFld (fb f ++ more) = some (f, (fb f).length) := by
  obtain ⟨g1, g2, g3, g4⟩ := key_range h h0
  obtain ⟨h1, h2, h3⟩ := can_parts h
  have hk := ok_kind h3
  obtain ⟨K, hK⟩ : ∃ K, (keyF f).toNat = K := ⟨_, rfl⟩
  have hb : fb f ++ more = uvarint K ++ (uvarint (pay f.v).length ++ (pay f.v ++ more)) := by
    unfold fb; rw [hK, List.append_assoc, List.append_assoc]
  rw [hK] at g1
  obtain ⟨a1, a2, a3⟩ := tk_put K (uvarint (pay f.v).length ++ (pay f.v ++ more)) (by omega)
  rw [← hb] at a1 a2 a3
  have hr1 : r1 (fb f ++ more) = uvarint (pay f.v).length ++ (pay f.v ++ more) := by
    unfold r1; rw [a2, hb]; exact List.drop_left
  obtain ⟨b1, b2, b3⟩ := tk_put (pay f.v).length (pay f.v ++ more) hl
  rw [← hr1] at b1 b2 b3
  have hr2 : r2 (fb f ++ more) = pay f.v ++ more := by
    unfold r2; rw [b2, hr1]; exact List.drop_left
  unfold tkFld
  rw [if_pos ⟨a1, by rw [a3]; omega, b1, by rw [b3, hr2]; simp⟩, a2, a3, b2, b3, hr2, List.take_left]
  have e1 : ((K % 8 : Nat) : Int) = f.v.k := by omega
  have e2 : ((K / 8 : Nat) : Int) = f.t := by omega
  rw [e1, e2, tkVal_pay h3 hf]
  show some (_, _) = some (_, _)
  congr 2
  unfold fb
  rw [hK, List.length_append, List.length_append]
  omega

/-- A record's bytes are those of none other, whatever stands behind one of them. -/
theorem enc_front {a : List Fd} : ∀ {last : Int} {l : List Fd} {more : List UInt8}, 0 ≤ last → Is last a → Is last l → enc l = enc a ++ more → (enc l).length ≤ 18446744073709551615 → ∃ r, l = a ++ r ∧ enc r = more ∧ Is (lastOf last a) r := by
  induction a with
  | nil => intro last l more _ _ hl he _; exact ⟨l, rfl, by rw [he]; rfl, hl⟩
  | cons f r ih =>
    intro last l more h0 ha hl he hm
    have hf := ha.1
    have hfl : (pay f.v).length ≤ 18446744073709551615 := by
      have : (pay f.v).length ≤ (enc l).length := by
        rw [he, enc_cons, fb]; simp; omega
      omega
    have t1 := tkFld_fb (enc r ++ more) hf h0 ha.2.1 hfl
    have e1 : enc l = fb f ++ (enc r ++ more) := by rw [he, enc_cons, List.append_assoc]
    rw [← e1] at t1
    cases l with
    | nil =>
      rw [enc_nil] at t1
      have := tkFld_ok t1
      have h1 := this.2.2.2.1
      have h2 := this.2.2.2.2
      simp only [List.length_nil] at h2
      omega
    | cons g l' =>
      have hgl : (pay g.v).length ≤ 18446744073709551615 := by
        have : (pay g.v).length ≤ (enc (g :: l')).length := by
          rw [enc_cons, fb]; simp; omega
        omega
      have t2 := tkFld_fb (enc l') hl.1 h0 hl.2.1 hgl
      rw [← enc_cons, t1] at t2
      simp only [Option.some.injEq, Prod.mk.injEq] at t2
      obtain ⟨rfl, _⟩ := t2
      rw [enc_cons] at e1
      have e2 := List.append_cancel_left e1
      have hfp := (can_parts hf).1
      obtain ⟨q, hq1, hq2, hq3⟩ := ih (last := f.t) (by omega) ha.2.2 hl.2.2 e2 (by rw [enc_cons, List.length_append] at hm; omega)
      exact ⟨q, by rw [hq1]; rfl, hq2, hq3⟩
theorem enc_inj {a l : List Fd} (ha : Is 0 a) (hl : Is 0 l) (he : enc l = enc a) (hm : (enc l).length ≤ 18446744073709551615) : l = a := by
  obtain ⟨r, h1, h2, _⟩ := enc_front (more := []) (Int.le_refl 0) ha hl (by rw [List.append_nil]; exact he) hm
  cases r with
  | nil => rw [h1, List.append_nil]
  | cons f r =>
    rw [enc_cons, fb] at h2
    have := congrArg List.length h2
    have hp := uvarint_pos (keyF f).toNat
    simp only [List.length_append, List.length_nil] at this
    omega

/-- the place of the first field that can't stand there -/
def chk : Int → List Fd → Option Nat
  | _, [] => none
  | last, f :: r => if canF f last then (chk f.t r).map (· + 1) else some 0
theorem chk_none {l : List Fd} (hl : ∀ f ∈ l, Fit f.v) : ∀ last, chk last l = none ↔ Is last l := by
  induction l with
  | nil => intro last; simp [chk, Is]
  | cons f r ih =>
    intro last
    have := ih (fun g hg => hl g (by simp [hg])) f.t
    have hf := hl f (by simp)
    unfold chk Is
    by_cases hc : canF f last = true
    · rw [if_pos hc, Option.map_eq_none_iff, this]; simp [hc, hf]
    · rw [if_neg hc]; simp [hc]
theorem chk_some {a : List Fd} {f : Fd} {r : List Fd} : ∀ {last : Int}, Is last a → canF f (lastOf last a) = false → chk last (a ++ f :: r) = some a.length := by
  induction a with
  | nil => intro last _ h; simp only [lastOf] at h; simp [chk, h]
  | cons g s ih =>
    intro last h1 h2
    rw [List.cons_append, chk, if_pos h1.1, ih h1.2.2 h2]
    rfl

/-- the error, the place, the size, the bytes that are answered -/
def cer (l : List Fd) : Int := if (chk 0 l).isSome then 1 else if 16777215 < (enc l).length then 2 else 0
def cat (l : List Fd) : Int := ((chk 0 l).getD 0 : Nat)
def csz (l : List Fd) : Int := if cer l = 0 then ((enc l).length : Nat) else 0
def cby (l : List Fd) : List UInt8 := if cer l = 0 then enc l else []
theorem cer_bad {l : List Fd} {i : Nat} {f : Fd} (hi : l[i]? = some f) (h1 : Is 0 (l.take i)) (h2 : canF f (lastOf 0 (l.take i)) = false) : cer l = 1 ∧ cat l = i ∧ csz l = 0 ∧ cby l = [] := by
  obtain ⟨hlt, hif⟩ := List.getElem?_eq_some_iff.1 hi
  have hl : l = l.take i ++ f :: l.drop (i + 1) := by
    rw [← hif, ← List.drop_eq_getElem_cons hlt, List.take_append_drop]
  have hc : chk 0 l = some i := by
    rw [hl, chk_some h1 h2, List.length_take]; congr 1; omega
  have he : cer l = 1 := by unfold cer; rw [hc]; rfl
  exact ⟨he, by unfold cat; rw [hc]; rfl, by unfold csz; rw [he]; rfl, by unfold cby; rw [he]; rfl⟩
theorem is_fit {l : List Fd} : ∀ {last : Int}, Is last l → ∀ f ∈ l, Fit f.v := by
  induction l with
  | nil => intro _ _ f hf; cases hf
  | cons g r ih =>
    intro last h f hf
    rcases List.mem_cons.1 hf with rfl | hf
    · exact h.2.1
    · exact ih h.2.2 f hf
theorem cer_long {l : List Fd} (h : Is 0 l) (hm : 16777215 < (enc l).length) : cer l = 2 ∧ cat l = 0 ∧ csz l = 0 ∧ cby l = [] := by
  have hc : chk 0 l = none := (chk_none (is_fit h) 0).2 h
  have he : cer l = 2 := by unfold cer; rw [hc, if_neg (by simp), if_pos hm]
  exact ⟨he, by unfold cat; rw [hc]; rfl, by unfold csz; rw [he]; rfl, by unfold cby; rw [he]; rfl⟩
theorem cer_ok {l : List Fd} (h : Is 0 l) (hm : (enc l).length ≤ 16777215) : cer l = 0 ∧ cat l = 0 ∧ csz l = ((enc l).length : Nat) ∧ cby l = enc l := by
  have hc : chk 0 l = none := (chk_none (is_fit h) 0).2 h
  have he : cer l = 0 := by unfold cer; rw [hc, if_neg (by simp), if_neg (by omega)]
  exact ⟨he, by unfold cat; rw [hc]; rfl, by unfold csz; rw [he]; rfl, by unfold cby; rw [he]; rfl⟩
theorem cer_is {l : List Fd} (hl : ∀ f ∈ l, Fit f.v) : (cer l = 1 ∧ ¬ Is 0 l) ∨ (cer l = 2 ∧ Is 0 l ∧ 16777215 < (enc l).length) ∨ (cer l = 0 ∧ Is 0 l ∧ (enc l).length ≤ 16777215) := by
  by_cases h : Is 0 l
  · by_cases hm : 16777215 < (enc l).length
    · exact .inr (.inl ⟨(cer_long h hm).1, h, hm⟩)
    · exact .inr (.inr ⟨(cer_ok h (by omega)).1, h, by omega⟩)
  · left
    refine ⟨?_, h⟩
    have : chk 0 l ≠ none := fun g => h ((chk_none hl 0).1 g)
    unfold cer
    rw [if_pos]
    cases hq : chk 0 l with
    | none => exact absurd hq this
    | some _ => rfl

open Classical in
/-- the record of these bytes, if there is one -/
noncomputable def decO (b : List UInt8) : Option (List Fd) := if h : ∃ r, Is 0 r ∧ enc r = b then some h.choose else none
theorem dec_some {b : List UInt8} {r : List Fd} (h1 : Is 0 r) (h2 : enc r = b) (hm : b.length ≤ 18446744073709551615) : decO b = some r := by
  have h : ∃ r, Is 0 r ∧ enc r = b := ⟨r, h1, h2⟩
  unfold decO
  rw [dif_pos h]
  obtain ⟨g1, g2⟩ := h.choose_spec
  rw [enc_inj h1 g1 (by rw [g2, h2]) (by rw [g2]; exact hm)]
theorem dec_is {b : List UInt8} {r : List Fd} (h : decO b = some r) : Is 0 r ∧ enc r = b := by
  unfold decO at h
  by_cases g : ∃ r, Is 0 r ∧ enc r = b
  · rw [dif_pos g] at h
    obtain rfl := Option.some.inj h
    exact g.choose_spec
  · rw [dif_neg g] at h; simp at h
theorem dec_none {b : List UInt8} (h : ∀ r, Is 0 r → enc r ≠ b) : decO b = none := by
  unfold decO
  rw [dif_neg]
  rintro ⟨r, h1, h2⟩
  exact h r h1 h2
/-- what Decode answers -/
noncomputable def der (b : List UInt8) : Int := if 16777215 < b.length then 2 else if (decO b).isSome then 0 else 3
noncomputable def dre (b : List UInt8) : List Fd := if 16777215 < b.length then [] else (decO b).getD []
theorem der_long {b : List UInt8} (h : 16777215 < b.length) : der b = 2 ∧ dre b = [] := by
  unfold der dre; rw [if_pos h, if_pos h]; exact ⟨rfl, rfl⟩
theorem der_ok {b : List UInt8} {r : List Fd} (h : b.length ≤ 16777215) (h1 : Is 0 r) (h2 : enc r = b) : der b = 0 ∧ dre b = r := by
  have hn : ¬ 16777215 < b.length := by omega
  unfold der dre; rw [if_neg hn, if_neg hn, dec_some h1 h2 (by omega)]; exact ⟨rfl, rfl⟩
theorem der_bad {b : List UInt8} (h : b.length ≤ 16777215) (h1 : ∀ r, Is 0 r → enc r ≠ b) : der b = 3 ∧ dre b = [] := by
  have hn : ¬ 16777215 < b.length := by omega
  unfold der dre; rw [if_neg hn, if_neg hn, dec_none h1]; exact ⟨rfl, rfl⟩
theorem der_three (b : List UInt8) : (16777215 < b.length ∧ der b = 2 ∧ dre b = []) ∨ (b.length ≤ 16777215 ∧ der b = 0 ∧ Is 0 (dre b) ∧ enc (dre b) = b) ∨ (b.length ≤ 16777215 ∧ der b = 3 ∧ dre b = [] ∧ ∀ r, Is 0 r → enc r ≠ b) := by
  by_cases h : 16777215 < b.length
  · exact .inl ⟨h, der_long h⟩
  · by_cases g : ∃ r, Is 0 r ∧ enc r = b
    · obtain ⟨r, h1, h2⟩ := g
      obtain ⟨a1, a2⟩ := der_ok (by omega) h1 h2
      exact .inr (.inl ⟨by omega, a1, by rw [a2]; exact h1, by rw [a2]; exact h2⟩)
    · have g' : ∀ r, Is 0 r → enc r ≠ b := fun r h1 h2 => g ⟨r, h1, h2⟩
      obtain ⟨a1, a2⟩ := der_bad (by omega) g'
      exact .inr (.inr ⟨by omega, a1, a2, g'⟩)

/-- one step of Decode, in the middle of the bytes -/
theorem dec_step {b c : List UInt8} {a : List Fd} {f : Fd} {n : Nat} (ha : Is 0 a) (hb : b = enc a ++ c) (ht : tkFld c = some (f, n)) (hc : canF f (lastOf 0 a) = true) :
    Is 0 (a ++ [f]) ∧ b = enc (a ++ [f]) ++ c.drop n := by
  obtain ⟨h1, _, h3, _⟩ := tkFld_ok ht
  refine ⟨is_snoc.2 ⟨ha, hc, h1⟩, ?_⟩
  rw [enc_snoc, List.append_assoc, ← h3, hb]
theorem dec_stop {b c : List UInt8} {a : List Fd} (ha : Is 0 a) (hb : b = enc a ++ c) (hm : b.length ≤ 16777215) (h0 : c ≠ []) (h : ∀ f n, tkFld c = some (f, n) → canF f (lastOf 0 a) = false) :
    ∀ r, Is 0 r → enc r ≠ b := by
  intro r hr he
  obtain ⟨q, hq1, hq2, hq3⟩ := enc_front (more := c) (Int.le_refl 0) ha hr (by rw [he, hb]) (by rw [he]; omega)
  cases q with
  | nil => exact h0 hq2.symm
  | cons f q =>
    have hlast := (is_last ha).1
    have hp : (pay f.v).length ≤ c.length := by rw [← hq2, enc_cons, fb]; simp; omega
    have hcl : c.length ≤ b.length := by rw [hb]; simp
    have := tkFld_fb (enc q) hq3.1 (by omega) hq3.2.1 (by omega)
    rw [← enc_cons, hq2] at this
    have := h f _ this
    rw [hq3.1] at this
    simp at this
end Go.Proofs.YtnflbnchkcigiaaDoor
