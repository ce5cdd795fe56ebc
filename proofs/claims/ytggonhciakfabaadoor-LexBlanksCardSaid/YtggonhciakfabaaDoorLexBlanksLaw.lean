/- The walk of LexBlanks. -/
import Derived.Test.YtggonhciakfabaaDoorLexSide
import Derived.Deep.DeepCutAuto
import Derived.Deep.QuietTactic
import Derived.BigQuiet
namespace Go.Proofs.YtggonhciakfabaaDoor
open Go.RowKit

/-- what may be put between two tokens, by number -/
def blk (k : Int) : ByteArray :=
  if k = 1 then ⟨#[10]⟩ else if k = 2 then ⟨#[9, 13, 32]⟩ else if k = 3 then ⟨#[35, 32, 123, 32, 34, 32, 92, 10]⟩ else if k = 4 then ⟨#[35, 10, 35, 10]⟩ else ⟨#[32]⟩
def Bk (l : List UInt8) : Prop := (∀ m, skipS m l = l.length) ∧ endS false l = false ∧ Sep l ∧ l.length ≤ 8
theorem blk_ok (k : Int) : Bk (ls (blk k)) := by
  unfold blk
  split
  · exact ⟨fun m => by cases m <;> rfl, rfl, ⟨_, _, rfl, rfl⟩, by decide⟩
  · split
    · exact ⟨fun m => by cases m <;> rfl, rfl, ⟨_, _, rfl, rfl⟩, by decide⟩
    · split
      · exact ⟨fun m => by cases m <;> rfl, rfl, ⟨_, _, rfl, rfl⟩, by decide⟩
      · split
        · exact ⟨fun m => by cases m <;> rfl, rfl, ⟨_, _, rfl, rfl⟩, by decide⟩
        · exact ⟨fun m => by cases m <;> rfl, rfl, ⟨_, _, rfl, rfl⟩, by decide⟩

theorem cores_some {r : LR} {x : List (Nat × List UInt8 × Nat × Nat)} (h : cores r = some x) : ∃ ts, r = .ok ts ∧ ts.map core = x := by
  cases r with
  | ok ts => exact ⟨ts, rfl, Option.some.inj h⟩
  | bad a e => cases h

theorem Sep.bd0 {b : List UInt8} (h : Sep b) : Bd isW b := by
  have := h.bd []
  rwa [List.append_nil] at this

theorem blanks_core {S : List UInt8} {ts : List Tk} (h : lexL S 0 = .ok ts) {B : List UInt8} (hB : Bk B) {cut : Nat} (hc : cut = 0 ∨ ∃ (i : Nat) (x : Tk), ts[i]? = some x ∧ cut = x.e) :
    cut ≤ S.length ∧ ∃ ms, lexL (((((B ++ S.take cut) ++ B) ++ S.drop cut) ++ [10]) ++ B) 0 = .ok ms ∧ ms.map core = ts.map core := by
  obtain ⟨b1, b2, b3, _⟩ := hB
  have hz : ∀ m, skipS m (10 :: B) = (10 :: B).length := fun m => by
    rw [skip_cons, if_neg (fun q => q.2 rfl), if_pos (by decide), b1, List.length_cons]
  have hbd : Bd isW (10 :: B) := Bd.cons _ (by decide)
  -- what stands in the middle
  have mid : cut ≤ S.length ∧ ∃ ms, lexL (S.take cut ++ (B ++ S.drop cut)) 0 = .ok ms ∧ ms.map core = ts.map core := by
    rcases hc with rfl | ⟨i, x, hx, rfl⟩
    · refine ⟨Nat.zero_le _, ?_⟩
      rw [List.take_zero, List.drop_zero, List.nil_append, lex_gap (b1 false) b2]
      refine cores_some ?_
      rw [lex_core _ S _ 0 (Nat.le_refl _), h]
      rfl
    · obtain ⟨ts2, e2⟩ := lex_last _ _ _ (Nat.le_refl _) h
      have hlen : ts.length = ts2.length + 1 := by rw [e2, List.length_append]; rfl
      have hi : i < ts.length := by
        rcases Nat.lt_or_ge i ts.length with g | g
        · exact g
        · rw [List.getElem?_eq_none g] at hx; cases hx
      by_cases hl : i + 1 < ts.length
      · obtain ⟨_, q2, q3⟩ := lex_cut (b1 false) b2 b3 _ S 0 i x (Nat.le_refl _) h hl hx
        rw [Nat.sub_zero] at q3
        exact ⟨by omega, cores_some q3⟩
      · rw [e2, List.getElem?_append_right (by omega), show i - ts2.length = 0 by omega] at hx
        obtain rfl : endTk (0 + S.length) = x := Option.some.inj hx
        show 0 + S.length ≤ S.length ∧ _
        rw [Nat.zero_add]
        refine ⟨Nat.le_refl _, ?_⟩
        show ∃ ms, lexL (S.take S.length ++ (B ++ S.drop S.length)) 0 = .ok ms ∧ ms.map core = ts.map core
        rw [List.take_length, List.drop_length, List.append_nil]
        exact cores_some (lex_tail b1 b3.bd0 _ S 0 (Nat.le_refl _) h)
  obtain ⟨m1, ms, m2, m3⟩ := mid
  refine ⟨m1, ?_⟩
  have e : ((((B ++ S.take cut) ++ B) ++ S.drop cut) ++ [10]) ++ B = B ++ ((S.take cut ++ (B ++ S.drop cut)) ++ (10 :: B)) := by simp
  rw [e, lex_gap (b1 false) b2, ← m3]
  refine cores_some ?_
  rw [lex_core _ _ _ 0 (Nat.le_refl _)]
  exact lex_tail hz hbd _ _ 0 (Nat.le_refl _) m2

set_option maxRecDepth 100000 in
set_option maxHeartbeats 2000000 in
theorem lblanks_any (w : World) (k : Int) : Calls Tryd.prog 19 #[.int .i64 k] w fun e w' => e = .returned (.string (blk k)) ∧ Below w.heap.size w w' := by
  have hb : ∀ o, Below w.heap.size w (w.alloc o) := fun o => (Below.refl _ w).alloc (Nat.le_refl _) o
  have cs : k < 0 ∨ (¬ k < 0 ∧ 5 ≤ k) ∨ k = 0 ∨ k = 1 ∨ k = 2 ∨ k = 3 ∨ k = 4 := by omega
  rcases cs with h | ⟨h, h2⟩ | rfl | rfl | rfl | rfl | rfl
  · have hk : blk k = ⟨#[32]⟩ := by unfold blk; rw [if_neg (by omega), if_neg (by omega), if_neg (by omega), if_neg (by omega)]
    rw [hk]
    go_enter Tryd.func19, Tryd.ntmps19
    go_wp2
    go_ret
    exact ⟨rfl, hb _⟩
  · have hk : blk k = ⟨#[32]⟩ := by unfold blk; rw [if_neg (by omega), if_neg (by omega), if_neg (by omega), if_neg (by omega)]
    rw [hk]
    go_enter Tryd.func19, Tryd.ntmps19
    go_wp2
    go_ret
    exact ⟨rfl, hb _⟩
  all_goals
    go_enter Tryd.func19, Tryd.ntmps19
    go_wp2
    go_ret
    exact ⟨rfl, hb _⟩
/-- two rows of one kind of tokens, their places aside -/
theorem core_at {ms ts : List Tk} (h : ms.map core = ts.map core) {i : Nat} {x : Tk} (hx : ts[i]? = some x) : ∃ y, ms[i]? = some y ∧ y.k = x.k ∧ y.t = x.t ∧ y.n = x.n ∧ y.e - y.a = x.e - x.a := by
  have e := congrArg (fun z => z[i]?) h
  simp only [List.getElem?_map, hx, Option.map_some] at e
  cases hy : ms[i]? with
  | none => rw [hy] at e; cases e
  | some y =>
    rw [hy] at e
    simp only [Option.map_some, core, Option.some.injEq, Prod.mk.injEq] at e
    exact ⟨y, rfl, e.1, e.2.1, e.2.2.1, e.2.2.2⟩

set_option maxRecDepth 100000 in
set_option maxHeartbeats 8000000 in
theorem blanks_any (C : LexSide) (w : World) (hEV : EV w) (s : ByteArray) (p k : Int) (hs0 : s.size ≤ 140737488351232) : Calls Tryd.prog 7 #[.string s, .int .i64 p, .int .i64 k] w (YesX w) := by
  have cv := fun W h => llives_any C W h
  have cb := fun W => lblanks_any W k
  have hB := blk_ok k
  obtain ⟨b, hb⟩ : ∃ b, blk k = b := ⟨_, rfl⟩
  simp only [hb] at cb
  rw [hb] at hB
  have hb9 : b.size ≤ 8 := by have := hB.2.2.2; rwa [ls_size] at this
  clear hb
  cases hR : lexS s with
  | bad a x =>
    have hx0 : x ≠ 0 := by
      unfold lexS at hR
      split at hR
      · cases hR; decide
      · exact (lex_err _ _ _ (Nat.le_refl _) hR).1
    have cl' : ∀ W : World, EV W → Calls Tryd.prog 12 #[.string s] W fun e w' => Below W.heap.size W w' ∧ e = .returned (.tuple #[.slice none 0 0, .int .i64 (a : Nat), .int .i64 (x : Nat)]) := fun W hW => (C.lex W s hW).mono fun e w' h => by
      rw [hR] at h
      exact h
    have hx : ((x : Int) != 0) = true := by simp; omega
    clear C hR hB hx0
    go_enter Tryd.func7, Tryd.ntmps7
    go_wp2_with (first
      | (go_at_call 10; refine (cv _ hEV).mono ?_; rintro e w1 ⟨rfl, hb1⟩)
      | (go_at_call 12; refine (cl' _ (hEV.below hb1)).mono ?_; rintro e w2 ⟨hb2, rfl⟩)
      | (go_at_call 19; refine (cb _).mono ?_; rintro e w3 ⟨rfl, hb3⟩))
    go_ret
    exact ⟨rfl, Below.both (Below.both hb1 hb2) hb3⟩
  | ok l =>
    obtain ⟨hlen, hs, hL⟩ := lexS_len hR
    obtain ⟨l0, hl0⟩ := lex_last _ _ _ (Nat.le_refl _) hL
    have hpos : 1 ≤ l.length := by rw [hl0, List.length_append]; show 1 ≤ _ + 1; omega
    have hlz : ((l.length : Int) == 0) = false := beq_eq_false_iff_ne.2 (by omega)
    have cl' : ∀ W : World, EV W → Calls Tryd.prog 12 #[.string s] W fun e w' => Below W.heap.size W w' ∧ ∃ A c, e = .returned (.tuple #[.slice A l.length c, .int .i64 0, .int .i64 0]) ∧ TRow w' w'.heap.size A l := fun W hW => (C.lex W s hW).mono fun e w' h => by
      rw [hR] at h
      exact h
    by_cases hbig : 1048576 < s.size + 3 * b.size
    · have hbz : (1048576 : Int) < (s.size : Int) + 3 * (b.size : Int) := by omega
      clear C hR hB hL hl0
      go_enter Tryd.func7, Tryd.ntmps7
      go_wp2_with (first
        | (go_at_call 10; refine (cv _ hEV).mono ?_; rintro e w1 ⟨rfl, hb1⟩)
        | (go_at_call 12; refine (cl' _ (hEV.below hb1)).mono ?_; rintro e w2 ⟨hb2, A, c, rfl, ht⟩)
        | (go_at_call 19; refine (cb _).mono ?_; rintro e w3 ⟨rfl, hb3⟩))
      go_ret
      exact ⟨rfl, Below.both (Below.both hb1 hb2) hb3⟩
    · have hbz : ¬ (1048576 : Int) < (s.size : Int) + 3 * (b.size : Int) := by omega
      have hcut : ∃ cut : Nat, (cut = 0 ∨ ∃ (i : Nat) (x : Tk), l[i]? = some x ∧ cut = x.e) ∧
          ((cut = 0 ∧ ¬ (0 : Int) ≤ p) ∨ (cut = 0 ∧ (0 : Int) ≤ p ∧ ¬ p < (l.length : Int)) ∨ (∃ i : Nat, p = (i : Int) ∧ i < l.length ∧ ∃ x, l[i]? = some x ∧ cut = x.e)) := by
        by_cases h1 : (0 : Int) ≤ p
        · by_cases h2 : p < (l.length : Int)
          · obtain ⟨i, rfl⟩ := Int.eq_ofNat_of_zero_le h1
            have hi : i < l.length := by omega
            exact ⟨l[i].e, .inr ⟨i, l[i], List.getElem?_eq_getElem hi, rfl⟩, .inr (.inr ⟨i, rfl, hi, l[i], List.getElem?_eq_getElem hi, rfl⟩)⟩
          · exact ⟨0, .inl rfl, .inr (.inl ⟨rfl, h1, h2⟩)⟩
        · exact ⟨0, .inl rfl, .inl ⟨rfl, h1⟩⟩
      obtain ⟨cut, hc1, hc2⟩ := hcut
      obtain ⟨hcs, ms, hm, hmc⟩ := blanks_core hL hB hc1
      rw [ls_size] at hcs
      have hml : ms.length = l.length := by have := congrArg List.length hmc; simpa using this
      obtain ⟨M, hM⟩ : ∃ M : ByteArray, (((((b ++ s.extract 0 cut) ++ b) ++ s.extract cut s.size) ++ ⟨#[10]⟩) ++ b) = M := ⟨_, rfl⟩
      have hMl : ls M = ((((ls b ++ (ls s).take cut) ++ ls b) ++ (ls s).drop cut) ++ [10]) ++ ls b := by
        rw [← hM, ls_append, ls_append, ls_append, ls_append, ls_append, ls_extract, ls_extract, List.drop_zero, Nat.sub_zero, List.take_of_length_le (l := (ls s).drop cut) (by rw [List.length_drop, ls_size]; omega)]
      have hMs : M.size = s.size + 3 * b.size + 1 := by
        rw [← ls_size, hMl]
        simp only [List.length_append, List.length_take, List.length_drop, ls_size, List.length_cons, List.length_nil]
        omega
      have hord : ∀ x ∈ l, x.a ≤ x.e ∧ x.e ≤ s.size := fun x hx => by have := lex_order _ _ _ (Nat.le_refl _) hL x hx; rwa [ls_size, Nat.zero_add] at this
      have hord2 : ∀ x ∈ ms, x.a ≤ x.e := fun x hx => (lex_order _ _ _ (Nat.le_refl _) hm x hx).1
      have hMx : lexS M = if 1048576 < M.size then .bad 0 2 else .ok ms := by
        unfold lexS
        rw [hMl, hm]
      have n1 : (0 : Int) ≤ (cut : Int) := by omega
      have n2 : (cut : Int) ≤ (s.size : Int) := by omega
      have cM := fun (W : World) hW => (C.lex W M hW).mono fun e w' h => LexAt.row h
      rw [hMx] at cM
      have HO := Lib.hid hord
      have HO2 := Lib.hid hord2
      have HMC := Lib.hid hmc
      clear C hR hB hL hl0 hm hMl hc1 hMx hord hord2 hmc
      by_cases hMb : 1048576 < M.size
      · rw [if_pos hMb] at cM
        have cM' : ∀ W : World, EV W → Calls Tryd.prog 12 #[.string M] W fun e w' => Below W.heap.size W w' ∧ ∃ A c, e = .returned (.tuple #[.slice A 0 c, .int .i64 0, .int .i64 2]) := fun W hW => (cM W hW).mono fun e w' ⟨hb, A, c, h, _⟩ => ⟨hb, A, c, h⟩
        have hMz : (1048576 : Int) < (M.size : Int) := by omega
        clear cM HO HO2 HMC
        rcases hc2 with ⟨rfl, h1⟩ | ⟨rfl, h1, h2⟩ | ⟨i, rfl, hi, x, hx, rfl⟩
        · have hM0 : b ++ b ++ s ++ ⟨#[10]⟩ ++ b = M := by
            rw [← hM]
            apply ls_inj
            simp only [ls_append, ls_extract]
            rw [List.drop_zero, Nat.sub_self, List.take_zero, List.append_nil, Nat.sub_zero, ← ls_size, List.take_length]
          go_enter Tryd.func7, Tryd.ntmps7
          go_wp2_with (first
            | (go_at_call 10; refine (cv _ hEV).mono ?_; rintro e w1 ⟨rfl, hb1⟩)
            | (go_at_call 12; (with_reducible refine (cl' _ (hEV.below hb1)).mono ?_); rintro e w2 ⟨hb2, A, c, rfl, ht⟩)
            | (go_at_call 19; refine (cb _).mono ?_; rintro e w3 ⟨rfl, hb3⟩; have HT3 := Lib.hid (ht.then_ hb3); clear ht))
          go_quiet (fail)
          clear hbz hbig hM hM0 n1 n2 hMs hMb hcs hb9
          go_wp2_with (go_at_call 12; (with_reducible refine (cM' _ ((((hEV.below hb1).below hb2).below hb3).below (Below.newN _ _))).mono ?_); rintro e w4 ⟨hb4, A', c', rfl⟩)
          go_ret
          exact ⟨rfl, (Below.thenN (Below.both (Below.both hb1 hb2) hb3) _).trans (hb4.mono (Nat.le_trans (Nat.le_trans hb1.size hb2.size) hb3.size))⟩
        · have hM0 : b ++ b ++ s ++ ⟨#[10]⟩ ++ b = M := by
            rw [← hM]
            apply ls_inj
            simp only [ls_append, ls_extract]
            rw [List.drop_zero, Nat.sub_self, List.take_zero, List.append_nil, Nat.sub_zero, ← ls_size, List.take_length]
          go_enter Tryd.func7, Tryd.ntmps7
          go_wp2_with (first
            | (go_at_call 10; refine (cv _ hEV).mono ?_; rintro e w1 ⟨rfl, hb1⟩)
            | (go_at_call 12; (with_reducible refine (cl' _ (hEV.below hb1)).mono ?_); rintro e w2 ⟨hb2, A, c, rfl, ht⟩)
            | (go_at_call 19; refine (cb _).mono ?_; rintro e w3 ⟨rfl, hb3⟩; have HT3 := Lib.hid (ht.then_ hb3); clear ht))
          go_quiet (fail)
          clear hbz hbig hM hM0 n1 n2 hMs hMb hcs hb9
          go_wp2_with (go_at_call 12; (with_reducible refine (cM' _ ((((hEV.below hb1).below hb2).below hb3).below (Below.newN _ _))).mono ?_); rintro e w4 ⟨hb4, A', c', rfl⟩)
          go_ret
          exact ⟨rfl, (Below.thenN (Below.both (Below.both hb1 hb2) hb3) _).trans (hb4.mono (Nat.le_trans (Nat.le_trans hb1.size hb2.size) hb3.size))⟩
        · have i0 : (0 : Int) ≤ (i : Int) := by omega
          have iz : (i : Int) < (l.length : Int) := by omega
          go_enter Tryd.func7, Tryd.ntmps7
          go_wp2_with (first
            | (go_at_call 10; refine (cv _ hEV).mono ?_; rintro e w1 ⟨rfl, hb1⟩)
            | (go_at_call 12; (with_reducible refine (cl' _ (hEV.below hb1)).mono ?_); rintro e w2 ⟨hb2, A, c, rfl, ht⟩)
            | (go_at_call 19; refine (cb _).mono ?_; rintro e w3 ⟨rfl, hb3⟩; have HT3 := Lib.hid (ht.then_ hb3); clear ht; obtain ⟨g, o, rfl, _, _, _, _, _, a4⟩ := HT3.out.at_ hx))
          go_quiet (fail)
          clear hbz hbig hM n1 n2 hMs hMb hcs hb9
          go_wp2_with (go_at_call 12; (with_reducible refine (cM' _ ((((hEV.below hb1).below hb2).below hb3).below (Below.newN _ _))).mono ?_); rintro e w4 ⟨hb4, A', c', rfl⟩)
          go_ret
          exact ⟨rfl, (Below.thenN (Below.both (Below.both hb1 hb2) hb3) _).trans (hb4.mono (Nat.le_trans (Nat.le_trans hb1.size hb2.size) hb3.size))⟩

      · rw [if_neg hMb] at cM
        have cM' : ∀ W : World, EV W → Calls Tryd.prog 12 #[.string M] W fun e w' => Below W.heap.size W w' ∧ ∃ A c, e = .returned (.tuple #[.slice A l.length c, .int .i64 0, .int .i64 0]) ∧ TRow w' w'.heap.size A ms := fun W hW => (cM W hW).mono fun e w' ⟨hb, A, c, h, ht⟩ => by
          refine ⟨hb, A, c, ?_, ht⟩
          rw [← hml]
          exact h
        have hMz : ¬ (1048576 : Int) < (M.size : Int) := by omega
        clear cM
        rcases hc2 with ⟨rfl, h1⟩ | ⟨rfl, h1, h2⟩ | ⟨i, rfl, hi, x, hx, rfl⟩
        · have hM0 : b ++ b ++ s ++ ⟨#[10]⟩ ++ b = M := by
            rw [← hM]
            apply ls_inj
            simp only [ls_append, ls_extract]
            rw [List.drop_zero, Nat.sub_self, List.take_zero, List.append_nil, Nat.sub_zero, ← ls_size, List.take_length]
          go_enter Tryd.func7, Tryd.ntmps7
          go_wp2_with (first
            | (go_at_call 10; refine (cv _ hEV).mono ?_; rintro e w1 ⟨rfl, hb1⟩)
            | (go_at_call 12; (with_reducible refine (cl' _ (hEV.below hb1)).mono ?_); rintro e w2 ⟨hb2, A, c, rfl, ht⟩)
            | (go_at_call 19; refine (cb _).mono ?_; rintro e w3 ⟨rfl, hb3⟩; have HT3 := Lib.hid (ht.then_ hb3); clear ht))
          go_quiet (fail)
          clear hbz hbig hM hM0 n1 n2 hMs hMb hcs hb9
          go_wp2_with (go_at_call 12; (with_reducible refine (cM' _ ((((hEV.below hb1).below hb2).below hb3).below (Below.newN _ _))).mono ?_); rintro e w4 ⟨hb4, A', c', rfl, ht4⟩; have HT4 := Lib.hid ht4; have HTl := Lib.hid ((HT3.out.then_ (Below.newN w3 _)).then_ hb4); clear ht4)
          have HBw := Lib.hid ((Below.thenN (Below.both (Below.both hb1 hb2) hb3) _).trans (hb4.mono (Nat.le_trans (Nat.le_trans hb1.size hb2.size) hb3.size)))
          go_loopw [16] (fun v wr => ∃ j : Nat, v = .int .i64 j ∧ j ≤ l.length ∧ ∃ d, wr = w4.drewN d) (fun v _ => l.length - (intOf v).toNat)
          case atStart => exact ⟨0, rfl, Nat.zero_le _, 0, rfl⟩
          case round =>
            obtain ⟨j, rfl, hj, d, rfl⟩ := hrel
            by_cases hlt : j < l.length
            · have hltz : (j : Int) < (l.length : Int) := by omega
              have j0 : (0 : Int) ≤ (j : Int) := by omega
              obtain ⟨u, hu⟩ : ∃ u, l[j]? = some u := ⟨l[j], List.getElem?_eq_getElem hlt⟩
              obtain ⟨v, hv, e1, e2, e3, e4⟩ := core_at HMC.out hu
              have o1 := HO.out u (List.mem_of_getElem? hu)
              have o2 := HO2.out v (List.mem_of_getElem? hv)
              obtain ⟨g1, q1, r1, _, a0, a1, a2, a3, a4⟩ := HTl.out.at_ hu
              obtain ⟨g2, q2, r2, _, b0, b1, b2, b3, b4⟩ := HT4.out.at_ hv
              subst r2
              cases r1
              rw [e1] at b0
              rw [e2] at b1
              rw [e3] at b2
              have hd : (v.e : Int) - (v.a : Int) = (u.e : Int) - (u.a : Int) := by omega
              have hw1 : IntKind.i64.wrap ((v.e : Int) - (v.a : Int)) = (u.e : Int) - (u.a : Int) := by rw [IntKind.wrap_i64]; omega
              have hw2 : IntKind.i64.wrap ((u.e : Int) - (u.a : Int)) = (u.e : Int) - (u.a : Int) := by rw [IntKind.wrap_i64]; omega
              have a0' : (w4.drewN d).cell? ⟨g1, q1 + j * 5, none⟩ = some (.int .i64 (u.k : Nat)) := a0
              have a1' : (w4.drewN d).cell? ⟨g1, q1 + j * 5 + 1, none⟩ = some (.string (str u.t)) := a1
              have a2' : (w4.drewN d).cell? ⟨g1, q1 + j * 5 + 2, none⟩ = some (.int .u64 (u.n : Nat)) := a2
              have a3' : (w4.drewN d).cell? ⟨g1, q1 + j * 5 + 3, none⟩ = some (.int .i64 (u.a : Nat)) := a3
              have a4' : (w4.drewN d).cell? ⟨g1, q1 + j * 5 + 4, none⟩ = some (.int .i64 (u.e : Nat)) := a4
              have b0' : (w4.drewN d).cell? ⟨g2, q2 + j * 5, none⟩ = some (.int .i64 (u.k : Nat)) := b0
              have b1' : (w4.drewN d).cell? ⟨g2, q2 + j * 5 + 1, none⟩ = some (.string (str u.t)) := b1
              have b2' : (w4.drewN d).cell? ⟨g2, q2 + j * 5 + 2, none⟩ = some (.int .u64 (u.n : Nat)) := b2
              have b3' : (w4.drewN d).cell? ⟨g2, q2 + j * 5 + 3, none⟩ = some (.int .i64 (v.a : Nat)) := b3
              have b4' : (w4.drewN d).cell? ⟨g2, q2 + j * 5 + 4, none⟩ = some (.int .i64 (v.e : Nat)) := b4
              have hjm : (j : Int) < (ms.length : Int) := by omega
              obtain ⟨uk, ut, un, ua, ue⟩ := u
              obtain ⟨vk, vt, vn, va, ve⟩ := v
              dsimp only at *
              clear hu hv e1 e2 e3 e4 o1 o2
              go_wp2
              go_quiet (fail)
              go_wp2
              go_roundw
              case rel => exact ⟨j + 1, by go_num, by omega, _, rfl⟩
              case measure => simp [intOf]; omega
            · have hltz : ¬ (j : Int) < (l.length : Int) := by omega
              go_wp2
              go_ret
              exact ⟨rfl, Below.thenN HBw.out d⟩
        · have hM0 : b ++ b ++ s ++ ⟨#[10]⟩ ++ b = M := by
            rw [← hM]
            apply ls_inj
            simp only [ls_append, ls_extract]
            rw [List.drop_zero, Nat.sub_self, List.take_zero, List.append_nil, Nat.sub_zero, ← ls_size, List.take_length]
          go_enter Tryd.func7, Tryd.ntmps7
          go_wp2_with (first
            | (go_at_call 10; refine (cv _ hEV).mono ?_; rintro e w1 ⟨rfl, hb1⟩)
            | (go_at_call 12; (with_reducible refine (cl' _ (hEV.below hb1)).mono ?_); rintro e w2 ⟨hb2, A, c, rfl, ht⟩)
            | (go_at_call 19; refine (cb _).mono ?_; rintro e w3 ⟨rfl, hb3⟩; have HT3 := Lib.hid (ht.then_ hb3); clear ht))
          go_quiet (fail)
          clear hbz hbig hM hM0 n1 n2 hMs hMb hcs hb9
          go_wp2_with (go_at_call 12; (with_reducible refine (cM' _ ((((hEV.below hb1).below hb2).below hb3).below (Below.newN _ _))).mono ?_); rintro e w4 ⟨hb4, A', c', rfl, ht4⟩; have HT4 := Lib.hid ht4; have HTl := Lib.hid ((HT3.out.then_ (Below.newN w3 _)).then_ hb4); clear ht4)
          have HBw := Lib.hid ((Below.thenN (Below.both (Below.both hb1 hb2) hb3) _).trans (hb4.mono (Nat.le_trans (Nat.le_trans hb1.size hb2.size) hb3.size)))
          go_loopw [16] (fun v wr => ∃ j : Nat, v = .int .i64 j ∧ j ≤ l.length ∧ ∃ d, wr = w4.drewN d) (fun v _ => l.length - (intOf v).toNat)
          case atStart => exact ⟨0, rfl, Nat.zero_le _, 0, rfl⟩
          case round =>
            obtain ⟨j, rfl, hj, d, rfl⟩ := hrel
            by_cases hlt : j < l.length
            · have hltz : (j : Int) < (l.length : Int) := by omega
              have j0 : (0 : Int) ≤ (j : Int) := by omega
              obtain ⟨u, hu⟩ : ∃ u, l[j]? = some u := ⟨l[j], List.getElem?_eq_getElem hlt⟩
              obtain ⟨v, hv, e1, e2, e3, e4⟩ := core_at HMC.out hu
              have o1 := HO.out u (List.mem_of_getElem? hu)
              have o2 := HO2.out v (List.mem_of_getElem? hv)
              obtain ⟨g1, q1, r1, _, a0, a1, a2, a3, a4⟩ := HTl.out.at_ hu
              obtain ⟨g2, q2, r2, _, b0, b1, b2, b3, b4⟩ := HT4.out.at_ hv
              subst r2
              cases r1
              rw [e1] at b0
              rw [e2] at b1
              rw [e3] at b2
              have hd : (v.e : Int) - (v.a : Int) = (u.e : Int) - (u.a : Int) := by omega
              have hw1 : IntKind.i64.wrap ((v.e : Int) - (v.a : Int)) = (u.e : Int) - (u.a : Int) := by rw [IntKind.wrap_i64]; omega
              have hw2 : IntKind.i64.wrap ((u.e : Int) - (u.a : Int)) = (u.e : Int) - (u.a : Int) := by rw [IntKind.wrap_i64]; omega
              have a0' : (w4.drewN d).cell? ⟨g1, q1 + j * 5, none⟩ = some (.int .i64 (u.k : Nat)) := a0
              have a1' : (w4.drewN d).cell? ⟨g1, q1 + j * 5 + 1, none⟩ = some (.string (str u.t)) := a1
              have a2' : (w4.drewN d).cell? ⟨g1, q1 + j * 5 + 2, none⟩ = some (.int .u64 (u.n : Nat)) := a2
              have a3' : (w4.drewN d).cell? ⟨g1, q1 + j * 5 + 3, none⟩ = some (.int .i64 (u.a : Nat)) := a3
              have a4' : (w4.drewN d).cell? ⟨g1, q1 + j * 5 + 4, none⟩ = some (.int .i64 (u.e : Nat)) := a4
              have b0' : (w4.drewN d).cell? ⟨g2, q2 + j * 5, none⟩ = some (.int .i64 (u.k : Nat)) := b0
              have b1' : (w4.drewN d).cell? ⟨g2, q2 + j * 5 + 1, none⟩ = some (.string (str u.t)) := b1
              have b2' : (w4.drewN d).cell? ⟨g2, q2 + j * 5 + 2, none⟩ = some (.int .u64 (u.n : Nat)) := b2
              have b3' : (w4.drewN d).cell? ⟨g2, q2 + j * 5 + 3, none⟩ = some (.int .i64 (v.a : Nat)) := b3
              have b4' : (w4.drewN d).cell? ⟨g2, q2 + j * 5 + 4, none⟩ = some (.int .i64 (v.e : Nat)) := b4
              have hjm : (j : Int) < (ms.length : Int) := by omega
              obtain ⟨uk, ut, un, ua, ue⟩ := u
              obtain ⟨vk, vt, vn, va, ve⟩ := v
              dsimp only at *
              clear hu hv e1 e2 e3 e4 o1 o2
              go_wp2
              go_quiet (fail)
              go_wp2
              go_roundw
              case rel => exact ⟨j + 1, by go_num, by omega, _, rfl⟩
              case measure => simp [intOf]; omega
            · have hltz : ¬ (j : Int) < (l.length : Int) := by omega
              go_wp2
              go_ret
              exact ⟨rfl, Below.thenN HBw.out d⟩
        · have i0 : (0 : Int) ≤ (i : Int) := by omega
          have iz : (i : Int) < (l.length : Int) := by omega
          go_enter Tryd.func7, Tryd.ntmps7
          go_wp2_with (first
            | (go_at_call 10; refine (cv _ hEV).mono ?_; rintro e w1 ⟨rfl, hb1⟩)
            | (go_at_call 12; (with_reducible refine (cl' _ (hEV.below hb1)).mono ?_); rintro e w2 ⟨hb2, A, c, rfl, ht⟩)
            | (go_at_call 19; refine (cb _).mono ?_; rintro e w3 ⟨rfl, hb3⟩; have HT3 := Lib.hid (ht.then_ hb3); clear ht; obtain ⟨g, o, rfl, _, _, _, _, _, a4⟩ := HT3.out.at_ hx))
          go_quiet (fail)
          clear hbz hbig hM n1 n2 hMs hMb hcs hb9
          go_wp2_with (go_at_call 12; (with_reducible refine (cM' _ ((((hEV.below hb1).below hb2).below hb3).below (Below.newN _ _))).mono ?_); rintro e w4 ⟨hb4, A', c', rfl, ht4⟩; have HT4 := Lib.hid ht4; have HTl := Lib.hid ((HT3.out.then_ (Below.newN w3 _)).then_ hb4); clear ht4)
          have HBw := Lib.hid ((Below.thenN (Below.both (Below.both hb1 hb2) hb3) _).trans (hb4.mono (Nat.le_trans (Nat.le_trans hb1.size hb2.size) hb3.size)))
          go_loopw [16] (fun v wr => ∃ j : Nat, v = .int .i64 j ∧ j ≤ l.length ∧ ∃ d, wr = w4.drewN d) (fun v _ => l.length - (intOf v).toNat)
          case atStart => exact ⟨0, rfl, Nat.zero_le _, 0, rfl⟩
          case round =>
            obtain ⟨j, rfl, hj, d, rfl⟩ := hrel
            by_cases hlt : j < l.length
            · have hltz : (j : Int) < (l.length : Int) := by omega
              have j0 : (0 : Int) ≤ (j : Int) := by omega
              obtain ⟨u, hu⟩ : ∃ u, l[j]? = some u := ⟨l[j], List.getElem?_eq_getElem hlt⟩
              obtain ⟨v, hv, e1, e2, e3, e4⟩ := core_at HMC.out hu
              have o1 := HO.out u (List.mem_of_getElem? hu)
              have o2 := HO2.out v (List.mem_of_getElem? hv)
              obtain ⟨g1, q1, r1, _, a0, a1, a2, a3, a4⟩ := HTl.out.at_ hu
              obtain ⟨g2, q2, r2, _, b0, b1, b2, b3, b4⟩ := HT4.out.at_ hv
              subst r2
              cases r1
              rw [e1] at b0
              rw [e2] at b1
              rw [e3] at b2
              have hd : (v.e : Int) - (v.a : Int) = (u.e : Int) - (u.a : Int) := by omega
              have hw1 : IntKind.i64.wrap ((v.e : Int) - (v.a : Int)) = (u.e : Int) - (u.a : Int) := by rw [IntKind.wrap_i64]; omega
              have hw2 : IntKind.i64.wrap ((u.e : Int) - (u.a : Int)) = (u.e : Int) - (u.a : Int) := by rw [IntKind.wrap_i64]; omega
              have a0' : (w4.drewN d).cell? ⟨g, o + j * 5, none⟩ = some (.int .i64 (u.k : Nat)) := a0
              have a1' : (w4.drewN d).cell? ⟨g, o + j * 5 + 1, none⟩ = some (.string (str u.t)) := a1
              have a2' : (w4.drewN d).cell? ⟨g, o + j * 5 + 2, none⟩ = some (.int .u64 (u.n : Nat)) := a2
              have a3' : (w4.drewN d).cell? ⟨g, o + j * 5 + 3, none⟩ = some (.int .i64 (u.a : Nat)) := a3
              have a4' : (w4.drewN d).cell? ⟨g, o + j * 5 + 4, none⟩ = some (.int .i64 (u.e : Nat)) := a4
              have b0' : (w4.drewN d).cell? ⟨g2, q2 + j * 5, none⟩ = some (.int .i64 (u.k : Nat)) := b0
              have b1' : (w4.drewN d).cell? ⟨g2, q2 + j * 5 + 1, none⟩ = some (.string (str u.t)) := b1
              have b2' : (w4.drewN d).cell? ⟨g2, q2 + j * 5 + 2, none⟩ = some (.int .u64 (u.n : Nat)) := b2
              have b3' : (w4.drewN d).cell? ⟨g2, q2 + j * 5 + 3, none⟩ = some (.int .i64 (v.a : Nat)) := b3
              have b4' : (w4.drewN d).cell? ⟨g2, q2 + j * 5 + 4, none⟩ = some (.int .i64 (v.e : Nat)) := b4
              have hjm : (j : Int) < (ms.length : Int) := by omega
              obtain ⟨uk, ut, un, ua, ue⟩ := u
              obtain ⟨vk, vt, vn, va, ve⟩ := v
              dsimp only at *
              clear hu hv e1 e2 e3 e4 o1 o2
              go_wp2
              go_quiet (fail)
              go_wp2
              go_roundw
              case rel => exact ⟨j + 1, by go_num, by omega, _, rfl⟩
              case measure => simp [intOf]; omega
            · have hltz : ¬ (j : Int) < (l.length : Int) := by omega
              go_wp2
              go_ret
              exact ⟨rfl, Below.thenN HBw.out d⟩

end Go.Proofs.YtggonhciakfabaaDoor
