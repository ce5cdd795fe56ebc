/- What the statements about conversions ask, in plain words: what is made, there and back, the order, digits with zeros and junk. No walk here. -/
import Derived.Test.YtijgcfnjbfaelaaDoorConvPure
namespace Go.Proofs.YtijgcfnjbfaelaaDoor
open Go.RowKit

theorem ba_empty {s : ByteArray} (h : s.size = 0) : s = ⟨#[]⟩ := ls_inj (by
  have : (ls s).length = 0 := by rw [← h]; exact (Go.Lib.size_eq s).symm
  rw [List.eq_nil_of_length_eq_zero this]; rfl)
theorem ok_num0 {v : Val} (h : okV v = true) (hk : v.k = 1 ∨ v.k = 2) : v.s = ⟨#[]⟩ := by
  unfold okV at h
  rw [if_pos hk] at h
  exact ba_empty (of_decide_eq_true h)
theorem ok_bool {v : Val} (h : okV v = true) (hk : v.k = 3) : v.n ≤ 1 ∧ v.s = ⟨#[]⟩ := by
  unfold okV at h
  rw [if_neg (by omega), if_pos hk] at h
  simp only [Bool.and_eq_true, decide_eq_true_eq] at h
  exact ⟨h.1, ba_empty h.2⟩
theorem ok_text {v : Val} (h : okV v = true) (hk : v.k = 4) : v.n = 0 ∧ okL (ls v.s) = true := by
  unfold okV at h
  rw [if_neg (by omega), if_neg (by omega), if_pos hk] at h
  simp only [Bool.and_eq_true, decide_eq_true_eq] at h
  exact h
theorem ok_byts {v : Val} (h : okV v = true) (hk : v.k = 5) : v.n = 0 := by
  unfold okV at h
  rw [if_neg (by omega), if_neg (by omega), if_neg (by omega), if_pos hk] at h
  exact of_decide_eq_true h
theorem ok_of1 (n : Int) : okV ⟨1, n, ⟨#[]⟩⟩ = true := rfl
theorem ok_of2 (n : Int) : okV ⟨2, n, ⟨#[]⟩⟩ = true := rfl
theorem ok_of3 {n : Int} (h : n ≤ 1) : okV ⟨3, n, ⟨#[]⟩⟩ = true := by
  show (decide (n ≤ 1) && true) = true
  rw [decide_eq_true h]; rfl
theorem ok_of4 {s : ByteArray} (h : okL (ls s) = true) : okV ⟨4, 0, s⟩ = true := by
  show (true && okL (ls s)) = true
  rw [h]; rfl
theorem ok_of5 (s : ByteArray) : okV ⟨5, 0, s⟩ = true := rfl

theorem ri_minus (t : List UInt8) : riE (45 :: t) = rdE 9223372036854775808 t ∧ riN (45 :: t) = (18446744073709551616 - rdN 9223372036854775808 t) % 18446744073709551616 := ⟨rfl, rfl⟩
theorem ri_plain {l : List UInt8} (h : ∀ t, l ≠ 45 :: t) : riE l = rdE 9223372036854775807 l ∧ riN l = rdN 9223372036854775807 l := by
  match l, h with
  | [], _ => exact ⟨rfl, rfl⟩
  | b :: t, h =>
    have hb : b ≠ 45 := fun e => h t (by rw [e])
    unfold riE riN
    refine ⟨?_, ?_⟩ <;> (split <;> simp_all)
theorem ri_three (l : List UInt8) : riE l = 0 ∨ riE l = 60 ∨ riE l = 61 := by
  by_cases h : ∃ t, l = 45 :: t
  · obtain ⟨t, rfl⟩ := h
    rw [(ri_minus t).1]
    rcases rd_three 9223372036854775808 t with ⟨e, _⟩ | ⟨e, _⟩ | ⟨e, _⟩ <;> simp [e]
  · rw [(ri_plain fun t e => h ⟨t, e⟩).1]
    rcases rd_three 9223372036854775807 l with ⟨e, _⟩ | ⟨e, _⟩ | ⟨e, _⟩ <;> simp [e]
theorem ri_lt (l : List UInt8) : riN l < 18446744073709551616 := by
  by_cases h : ∃ t, l = 45 :: t
  · obtain ⟨t, rfl⟩ := h
    rw [(ri_minus t).2]; omega
  · rw [(ri_plain fun t e => h ⟨t, e⟩).2]
    rcases rd_three 9223372036854775807 l with ⟨_, e⟩ | ⟨_, e⟩ | ⟨_, e⟩ <;> omega

theorem ditx_ok (n : Nat) : okL (ditx n) = true := by
  unfold ditx
  split
  · refine ok_ascii fun b hb => ?_
    rcases List.mem_cons.1 hb with rfl | hb
    · decide
    · exact allD_ascii (allD_dg _) b hb
  · exact dg_ok n
theorem dg_head (n : Nat) : ∀ t, dg n ≠ 45 :: t := fun t e => by
  have h := allD_dg n
  rw [e] at h
  exact isD_head h rfl
/-- a number's text with zeros ahead is read as it -/
theorem read_dg {n z most : Nat} (h : n ≤ most) : rdE most (List.replicate z 48 ++ dg n) = 0 ∧ rdN most (List.replicate z 48 ++ dg n) = n := by
  have h1 : List.replicate z 48 ++ dg n ≠ [] := by simp [dg_ne]
  have h2 : allD (List.replicate z 48 ++ dg n) = true := by rw [allD_app, allD_zeros, allD_dg]; rfl
  have h3 : dva (List.replicate z 48 ++ dg n) = n := by rw [dva_zeros, dva_dg]
  have := rd_good h1 h2 (most := most) (by omega)
  exact ⟨this.1, by rw [this.2, h3]⟩
theorem zeros_head (z n : Nat) : ∀ t, List.replicate z 48 ++ dg n ≠ 45 :: t := fun t e => by
  have h2 : allD (List.replicate z 48 ++ dg n) = true := by rw [allD_app, allD_zeros, allD_dg]; rfl
  rw [e] at h2
  exact isD_head h2 rfl
/-- an int's text, zeros ahead of its digits -/
theorem read_int {n z : Nat} (hn : n < 18446744073709551616) :
    (9223372036854775808 ≤ n → riE (45 :: (List.replicate z 48 ++ dg (18446744073709551616 - n))) = 0 ∧ riN (45 :: (List.replicate z 48 ++ dg (18446744073709551616 - n))) = n) ∧
    (n < 9223372036854775808 → riE (List.replicate z 48 ++ dg n) = 0 ∧ riN (List.replicate z 48 ++ dg n) = n) := by
  refine ⟨fun h => ?_, fun h => ?_⟩
  · have := read_dg (n := 18446744073709551616 - n) (z := z) (most := 9223372036854775808) (by omega)
    rw [(ri_minus _).1, (ri_minus _).2, this.1, this.2]
    exact ⟨rfl, by omega⟩
  · have := read_dg (n := n) (z := z) (most := 9223372036854775807) (by omega)
    rw [(ri_plain (zeros_head z n)).1, (ri_plain (zeros_head z n)).2]
    exact this
theorem read_ditx {n : Nat} (hn : n < 18446744073709551616) : riE (ditx n) = 0 ∧ riN (ditx n) = n := by
  have := read_int (z := 0) hn
  unfold ditx
  split
  · exact this.1 (by omega)
  · exact this.2 (by omega)

/-- a value's parts are numbers of 64 bits -/
def Fit64 (v : Val) : Prop := 0 ≤ v.n ∧ v.n ≤ 18446744073709551615

/-- P6.2: what is made, what is refused -/
theorem cap_makes {n : Int} {v : Val} (h : 1 ≤ n ∧ n ≤ 12 ∧ okV v = true ∧ v.k = cfr n) :
    ((cap n v).1 = 0 ∧ okV (cap n v).2 = true ∧ (cap n v).2.k = cto n) ∨ ((cap n v).2 = v0 ∧ csu n = false ∧ ((cap n v).1 = 60 ∨ (cap n v).1 = 61 ∨ (cap n v).1 = 62 ∨ (cap n v).1 = 63)) := by
  obtain ⟨h1, h2, h3, h4⟩ := h
  rcases twelve h1 h2 with rfl | rfl | rfl | rfl | rfl | rfl | rfl | rfl | rfl | rfl | rfl | rfl
  · by_cases g : 9223372036854775808 ≤ v.n
    · right; simp only [cap]; simp [g, csu]
    · left; simp only [cap]; simp [g, cto, ok_of2]
  · by_cases g : 9223372036854775808 ≤ v.n
    · right; simp only [cap]; simp [g, csu]
    · left; simp only [cap]; simp [g, cto, ok_of1]
  · left; exact ⟨rfl, ok_of4 (dg_ok _), rfl⟩
  · left; exact ⟨rfl, ok_of4 (ditx_ok _), rfl⟩
  · have q := rd_three 18446744073709551615 (ls v.s)
    by_cases g : rdE 18446744073709551615 (ls v.s) = 0
    · left; simp only [cap]; simp [g, cto, ok_of1]
    · right; simp only [cap]; simp [g, csu]; omega
  · have q := ri_three (ls v.s)
    by_cases g : riE (ls v.s) = 0
    · left; simp only [cap]; simp [g, cto, ok_of2]
    · right; simp only [cap]; simp [g, csu]; omega
  · left
    refine ⟨rfl, ok_of4 ?_, rfl⟩
    rw [ls_tx]
    split
    · exact ok_ascii (by decide)
    · exact ok_ascii (by decide)
  · by_cases g : ls v.s = bTrue
    · left; simp only [cap]; simp [g, cto, ok_of3]
    · by_cases g2 : ls v.s = bFalse
      · left
        have e : cap 8 v = (0, ⟨3, 0, ⟨#[]⟩⟩) := by rw [cap8, if_neg g, if_pos g2]
        rw [e]
        exact ⟨rfl, ok_of3 (by decide), rfl⟩
      · right; simp only [cap]; simp [g, g2, csu]
  · left
    exact ⟨rfl, ok_of1 _, rfl⟩
  · by_cases g : 1 < v.n
    · right; simp only [cap]; simp [g, csu]
    · left; simp only [cap]; simp [g, cto, ok_of3 (show v.n ≤ 1 by omega)]
  · left
    exact ⟨rfl, ok_of5 _, rfl⟩
  · by_cases g : okL (ls v.s) = true
    · left; simp only [cap]; simp [g, cto, ok_of4]
    · right; simp only [cap]; simp [g, csu]

theorem v_of {v : Val} {k n : Int} {s : ByteArray} (h1 : v.k = k) (h2 : v.n = n) (h3 : v.s = s) : v = ⟨k, n, s⟩ := by cases v; simp_all
/-- P6.3: there and back -/
theorem cap_back {n : Int} {v : Val} (hf : Fit64 v) (h : 1 ≤ n ∧ n ≤ 12 ∧ okV v = true ∧ v.k = cfr n) (he : (cap n v).1 = 0) (h5 : n ≠ 5) (h6 : n ≠ 6) :
    cbe (cto n) (cfr n) ≠ 0 ∧ capp (cbe (cto n) (cfr n)) (cap n v).2 = (0, v) := by
  obtain ⟨h1, h2, h3, h4⟩ := h
  obtain ⟨f1, f2⟩ := hf
  rcases twelve h1 h2 with rfl | rfl | rfl | rfl | rfl | rfl | rfl | rfl | rfl | rfl | rfl | rfl
  · have hs := ok_num0 h3 (.inl h4)
    refine ⟨by decide, ?_⟩
    rw [cap1] at he ⊢
    by_cases g : 9223372036854775808 ≤ v.n
    · rw [if_pos g] at he; cases he
    · rw [if_neg g]
      show capp 2 ⟨2, v.n, ⟨#[]⟩⟩ = _
      rw [capp_yes ⟨by decide, by decide, rfl, rfl⟩, cap2, if_neg g]
      exact congrArg _ (v_of h4 rfl hs).symm
  · have hs := ok_num0 h3 (.inr h4)
    refine ⟨by decide, ?_⟩
    rw [cap2] at he ⊢
    by_cases g : 9223372036854775808 ≤ v.n
    · rw [if_pos g] at he; cases he
    · rw [if_neg g]
      show capp 1 ⟨1, v.n, ⟨#[]⟩⟩ = _
      rw [capp_yes ⟨by decide, by decide, rfl, rfl⟩, cap1, if_neg g]
      exact congrArg _ (v_of h4 rfl hs).symm
  · have hs := ok_num0 h3 (.inl h4)
    refine ⟨by decide, ?_⟩
    rw [cap3]
    show capp 5 ⟨4, 0, tx (dg v.n.toNat)⟩ = _
    have q := read_dg (n := v.n.toNat) (z := 0) (most := 18446744073709551615) (by omega)
    simp only [List.replicate_zero, List.nil_append] at q
    have o4 : okV ⟨4, 0, tx (dg v.n.toNat)⟩ = true := ok_of4 (dg_ok _)
    rw [capp_yes ⟨by decide, by decide, o4, rfl⟩, cap5, if_pos (show rdE 18446744073709551615 (ls (tx (dg v.n.toNat))) = 0 from q.1)]
    exact congrArg _ (v_of h4 (show v.n = ((rdN 18446744073709551615 (dg v.n.toNat) : Nat) : Int) by rw [q.2]; omega) hs).symm
  · have hs := ok_num0 h3 (.inr h4)
    refine ⟨by decide, ?_⟩
    rw [cap4]
    show capp 6 ⟨4, 0, tx (ditx v.n.toNat)⟩ = _
    have q := read_ditx (n := v.n.toNat) (by omega)
    have o4 : okV ⟨4, 0, tx (ditx v.n.toNat)⟩ = true := ok_of4 (ditx_ok _)
    rw [capp_yes ⟨by decide, by decide, o4, rfl⟩, cap6, if_pos (show riE (ls (tx (ditx v.n.toNat))) = 0 from q.1)]
    exact congrArg _ (v_of h4 (show v.n = ((riN (ditx v.n.toNat) : Nat) : Int) by rw [q.2]; omega) hs).symm
  · exact absurd rfl h5
  · exact absurd rfl h6
  · obtain ⟨hn, hs⟩ := ok_bool h3 h4
    refine ⟨by decide, ?_⟩
    rw [cap7]
    show capp 8 ⟨4, 0, tx (if v.n = 0 then bFalse else bTrue)⟩ = _
    by_cases g : v.n = 0
    · have o4 : okV ⟨4, 0, tx bFalse⟩ = true := ok_of4 (ok_ascii (by decide))
      rw [if_pos g, capp_yes ⟨by decide, by decide, o4, rfl⟩, cap8, if_neg (show ¬ ls (tx bFalse) = bTrue from fun e => absurd (show bFalse = bTrue from e) (by decide)), if_pos (show ls (tx bFalse) = bFalse from rfl)]
      exact congrArg _ (v_of h4 g hs).symm
    · have o4 : okV ⟨4, 0, tx bTrue⟩ = true := ok_of4 (ok_ascii (by decide))
      rw [if_neg g, capp_yes ⟨by decide, by decide, o4, rfl⟩, cap8, if_pos (show ls (tx bTrue) = bTrue from rfl)]
      exact congrArg _ (v_of h4 (by omega) hs).symm
  · obtain ⟨hn, _⟩ := ok_text h3 h4
    refine ⟨by decide, ?_⟩
    rw [cap8] at he ⊢
    by_cases g : ls v.s = bTrue
    · rw [if_pos g]
      show capp 7 ⟨3, 1, ⟨#[]⟩⟩ = _
      rw [capp_yes ⟨by decide, by decide, rfl, rfl⟩, cap7, if_neg (by decide)]
      exact congrArg _ (v_of h4 hn (ls_inj (by rw [g]; rfl))).symm
    · rw [if_neg g] at he ⊢
      by_cases g2 : ls v.s = bFalse
      · rw [if_pos g2]
        show capp 7 ⟨3, 0, ⟨#[]⟩⟩ = _
        rw [capp_yes ⟨by decide, by decide, rfl, rfl⟩, cap7, if_pos rfl]
        exact congrArg _ (v_of h4 hn (ls_inj (by rw [g2]; rfl))).symm
      · rw [if_neg g2] at he; cases he
  · obtain ⟨hn, hs⟩ := ok_bool h3 h4
    refine ⟨by decide, ?_⟩
    rw [cap9]
    show capp 10 ⟨1, v.n, ⟨#[]⟩⟩ = _
    rw [capp_yes ⟨by decide, by decide, rfl, rfl⟩, cap10, if_neg (by show ¬ 1 < v.n; omega)]
    exact congrArg _ (v_of h4 rfl hs).symm
  · have hs := ok_num0 h3 (.inl h4)
    refine ⟨by decide, ?_⟩
    rw [cap10] at he ⊢
    by_cases g : 1 < v.n
    · rw [if_pos g] at he; cases he
    · rw [if_neg g]
      show capp 9 ⟨3, v.n, ⟨#[]⟩⟩ = _
      rw [capp_yes ⟨by decide, by decide, ok_of3 (by omega), rfl⟩, cap9]
      exact congrArg _ (v_of h4 rfl hs).symm
  · obtain ⟨hn, hs⟩ := ok_text h3 h4
    refine ⟨by decide, ?_⟩
    rw [cap11]
    show capp 12 ⟨5, 0, v.s⟩ = _
    rw [capp_yes ⟨by decide, by decide, rfl, rfl⟩, cap12, if_pos hs]
    exact congrArg _ (v_of h4 hn rfl).symm
  · have hn := ok_byts h3 h4
    refine ⟨by decide, ?_⟩
    rw [cap12] at he ⊢
    by_cases g : okL (ls v.s) = true
    · rw [if_pos g]
      show capp 11 ⟨4, 0, v.s⟩ = _
      rw [capp_yes ⟨by decide, by decide, ok_of4 g, rfl⟩, cap11]
      exact congrArg _ (v_of h4 hn rfl).symm
    · rw [if_neg g] at he; cases he

/-- P6.4: the order is kept -/
theorem key_same {k k' a : Int} (h : a < 9223372036854775808) : key k a = key k' a := by
  unfold key sgn
  rw [if_neg (show ¬ 9223372036854775808 ≤ a by omega)]
  split <;> split <;> rfl
theorem ord_same {k k' a b : Int} {s : ByteArray} (ha : a < 9223372036854775808) (hb : b < 9223372036854775808) : ordV ⟨k, a, s⟩ ⟨k, b, s⟩ = ordV ⟨k', a, s⟩ ⟨k', b, s⟩ := by
  have e : ∀ x : Int, Go.Lib.compareInt x x = 0 := fun x => by rw [ci_eq, if_neg (by omega), if_neg (by omega)]
  unfold ordV cmpN
  simp only [e, ne_eq, not_true_eq_false, if_false]
  rw [key_same (k' := k') ha, key_same (k' := k') hb]
theorem cap_rises {n a : Int} (hn : n = 1 ∨ n = 2 ∨ n = 9 ∨ n = 10) (he : (capp n ⟨cfr n, a, ⟨#[]⟩⟩).1 = 0) : a < 9223372036854775808 ∧ capp n ⟨cfr n, a, ⟨#[]⟩⟩ = (0, ⟨cto n, a, ⟨#[]⟩⟩) := by
  by_cases h : 1 ≤ n ∧ n ≤ 12 ∧ okV ⟨cfr n, a, ⟨#[]⟩⟩ = true ∧ (⟨cfr n, a, ⟨#[]⟩⟩ : Val).k = cfr n
  · rw [capp_yes h] at he ⊢
    rcases hn with rfl | rfl | rfl | rfl
    · rw [cap1] at he ⊢
      by_cases g : 9223372036854775808 ≤ a
      · rw [if_pos g] at he; cases he
      · rw [if_neg g]; exact ⟨by omega, rfl⟩
    · rw [cap2] at he ⊢
      by_cases g : 9223372036854775808 ≤ a
      · rw [if_pos g] at he; cases he
      · rw [if_neg g]; exact ⟨by omega, rfl⟩
    · rw [cap9]
      have := (ok_bool h.2.2.1 rfl).1
      exact ⟨by have : a ≤ 1 := this; omega, rfl⟩
    · rw [cap10] at he ⊢
      by_cases g : 1 < a
      · rw [if_pos g] at he; cases he
      · rw [if_neg g]; exact ⟨by omega, rfl⟩
  · rw [capp_no h] at he; cases he

/-- junk among digits: a byte that is neither a digit nor a sign -/
def oddB (b : UInt8) : Bool := decide (57 < b.toNat) || (decide (b.toNat < 48) && !decide (b = 45))
def oddL (l : List UInt8) : Bool := l.any oddB
theorem odd_not {b : UInt8} (h : oddB b = true) : isD b = false ∧ b ≠ 45 := by
  unfold oddB at h
  unfold isD
  simp only [Bool.or_eq_true, Bool.and_eq_true, decide_eq_true_eq, Bool.not_eq_true', decide_eq_false_iff_not] at h
  refine ⟨?_, ?_⟩
  · rcases h with h | ⟨h, _⟩
    · rw [decide_eq_false (show ¬ b.toNat ≤ 57 by omega), Bool.and_false]
    · rw [decide_eq_false (show ¬ 48 ≤ b.toNat by omega), Bool.false_and]
  · rintro rfl
    rcases h with h | ⟨_, h⟩
    · exact absurd h (by decide)
    · exact h rfl
theorem junk_num {a j b : List UInt8} (h : oddL j = true) (most : Nat) : rdE most (a ++ j ++ b) = 61 := by
  obtain ⟨x, hx, ho⟩ := List.any_eq_true.1 h
  refine (rd_bad (.inr ?_)).1
  unfold allD
  rw [List.all_eq_false]
  exact ⟨x, by simp [hx], by rw [(odd_not ho).1]; decide⟩
theorem junk_int {a j b : List UInt8} (h : oddL j = true) : riE (a ++ j ++ b) = 61 := by
  obtain ⟨x, hx, ho⟩ := List.any_eq_true.1 h
  have hm : x ∈ a ++ j ++ b := by simp [hx]
  by_cases g : ∃ t, a ++ j ++ b = 45 :: t
  · obtain ⟨t, e⟩ := g
    rw [e] at hm ⊢
    rw [(ri_minus t).1]
    refine (rd_bad (.inr ?_)).1
    unfold allD
    rw [List.all_eq_false]
    rcases List.mem_cons.1 hm with e | hm
    · exact absurd e (odd_not ho).2
    · exact ⟨x, hm, by rw [(odd_not ho).1]; decide⟩
  · rw [(ri_plain fun t e => g ⟨t, e⟩).1]
    exact junk_num h _
end Go.Proofs.YtijgcfnjbfaelaaDoor
