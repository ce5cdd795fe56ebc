/- The walks of the reference's Next, Fault, Valid, Count. -/
import Derived.Test.YtijgcfnjbfaelaaDoorUtfRPut
namespace Go.Proofs.YtijgcfnjbfaelaaDoor
open Go.RowKit

/-- the number that the front's bits would be -/
def refc (l : List UInt8) : Int :=
  if (l.getD 0 0).toNat < 128 then ((l.getD 0 0).toNat : Int)
  else if 192 ≤ (l.getD 0 0).toNat ∧ (l.getD 0 0).toNat < 224 then moreP (((l.getD 0 0).toNat : Int) - 192) l 1
  else if 224 ≤ (l.getD 0 0).toNat ∧ (l.getD 0 0).toNat < 240 then moreP (moreP (((l.getD 0 0).toNat : Int) - 224) l 1) l 2
  else if 240 ≤ (l.getD 0 0).toNat ∧ (l.getD 0 0).toNat < 248 then moreP (moreP (moreP (((l.getD 0 0).toNat : Int) - 240) l 1) l 2) l 3
  else -1

theorem moreP_of {c : Int} {l : List UInt8} {i : Nat} {x : UInt8} {n : Nat} (h0 : 0 ≤ c) (hi : i < l.length) (hx : l.getD i 0 = x) (hn : x.toNat = 128 + n) (h64 : n < 64) : moreP c l i = c * 64 + n := by
  unfold moreP
  rw [if_neg (by omega), if_neg (by omega), hx, if_neg (by omega)]
  omega
theorem refc_enc (c : Int) (r : List UInt8) (hc : isC c) : refc (Lib.encodeRune c ++ r) = c := by
  obtain ⟨C, rfl⟩ : ∃ C : Nat, c = C := ⟨c.toNat, by have := hc.1; omega⟩
  have c1 := hc.2.1
  rcases enc_form C hc with ⟨k, a, ea, ha⟩ | ⟨k, k', a, b, ea, ha, hb⟩ | ⟨k, k', a, b, e, ea, ha, hb, he⟩ | ⟨k, a, b, e, f, ea, ha, hb, he, hf⟩
  · rw [ea]
    unfold refc
    rw [show ([a] ++ r).getD 0 0 = a from rfl, ha, if_pos (by omega)]
  · rw [ea]
    unfold refc
    rw [show ([a, b] ++ r).getD 0 0 = a from rfl, ha, if_neg (by omega), if_pos (by omega)]
    rw [moreP_of (x := b) (n := C % 64) (by omega) (by simp) rfl hb (by omega)]
    omega
  · rw [ea]
    unfold refc
    rw [show ([a, b, e] ++ r).getD 0 0 = a from rfl, ha, if_neg (by omega), if_neg (by omega), if_pos (by omega)]
    rw [moreP_of (i := 1) (x := b) (n := C / 64 % 64) (by omega) (by simp) rfl hb (by omega)]
    rw [moreP_of (i := 2) (x := e) (n := C % 64) (by omega) (by simp) rfl he (by omega)]
    omega
  · rw [ea]
    unfold refc
    rw [show ([a, b, e, f] ++ r).getD 0 0 = a from rfl, ha, if_neg (by omega), if_neg (by omega), if_neg (by omega), if_pos (by omega)]
    rw [moreP_of (i := 1) (x := b) (n := C / 4096 % 64) (by omega) (by simp) rfl hb (by omega)]
    rw [moreP_of (i := 2) (x := e) (n := C / 64 % 64) (by omega) (by simp) rfl he (by omega)]
    rw [moreP_of (i := 3) (x := f) (n := C % 64) (by omega) (by simp) rfl hf (by omega)]
    omega

/-- what the reference tells: it stands there if its bytes do -/
theorem nx_ref (l : List UInt8) (hne : l ≠ []) (P : List UInt8) (hP : putL (refc l) = P) :
    (P = [] ∨ l.length < P.length ∨ l.take P.length ≠ P) ∧ nx l = (-1, 1) ∨ (P ≠ [] ∧ P.length ≤ l.length ∧ l.take P.length = P ∧ nx l = (refc l, P.length)) := by
  rcases nx_cases l hne with hx | ⟨c, r, hc, hl, hx⟩
  · left
    refine ⟨?_, hx⟩
    by_cases h0 : P = []
    · exact .inl h0
    · right; right
      intro ht
      have hc : isC (refc l) := by
        by_cases hc : isC (refc l)
        · exact hc
        · exfalso; apply h0; rw [← hP]; unfold putL; rw [if_neg hc]
      have hE : P = Lib.encodeRune (refc l) := by rw [← hP]; unfold putL; rw [if_pos hc]
      have := nx_put (refc l) (l.drop P.length) hc
      rw [← hE] at this
      have ht2 : P ++ l.drop P.length = l := by
        have := List.take_append_drop P.length l
        rwa [ht] at this
      rw [ht2, hx] at this
      simp only [Prod.mk.injEq] at this
      have h1 := hc.1
      omega
  · right
    have hr : refc l = c := by rw [hl]; exact refc_enc c r hc
    have hE : P = Lib.encodeRune c := by rw [← hP, hr]; unfold putL; rw [if_pos hc]
    subst hE
    refine ⟨enc_ne c, by rw [hl, List.length_append]; omega, by rw [hl, List.take_left], by rw [hx, hr]⟩

theorem size_zero (s : ByteArray) : s.toList = [] ↔ s.size = 0 := by
  rw [Lib.toList_data]
  constructor
  · intro h
    rw [← size_ls]
    unfold ls
    rw [h]
    rfl
  · intro h
    exact List.eq_nil_of_length_eq_zero (by have := size_ls s; unfold ls at this; omega)

/-- what the check behind it finds -/
structure Found (s P : ByteArray) (R : Int) (X : Int × Nat) : Prop where
  none_ : P.toList = [] → X = (-1, 1)
  long_ : s.size < P.size → X = (-1, 1)
  other_ : ¬ (s.extract 0 P.size).toList = P.toList → X = (-1, 1)
  here_ : ¬ P.toList = [] → ¬ s.size < P.size → (s.extract 0 P.size).toList = P.toList → X = (R, P.size)
theorem found (s : ByteArray) (hne : ls s ≠ []) : Found s (tx (putL (refc (ls s)))) (refc (ls s)) (nx (ls s)) := by
  obtain ⟨Q, hQ⟩ : ∃ Q, putL (refc (ls s)) = Q := ⟨_, rfl⟩
  have hr := nx_ref (ls s) hne Q hQ
  rw [hQ]
  have hl : (tx Q).toList = Q := by rw [Lib.toList_data]; rfl
  have hz : (tx Q).size = Q.length := size_tx Q
  have hx : (s.extract 0 (tx Q).size).toList = (ls s).take Q.length := by
    rw [Lib.toList_data, hz]
    have := ls_cut s 0 Q.length
    unfold ls at this
    rw [this, List.drop_zero]
    rfl
  rw [size_ls] at hr
  refine ⟨fun h => ?_, fun h => ?_, fun h => ?_, fun h1 h2 h3 => ?_⟩
  · rcases hr with hr | hr
    · exact hr.2
    · rw [hl] at h; exact absurd h hr.1
  · rcases hr with hr | hr
    · exact hr.2
    · rw [hz] at h; exact absurd hr.2.1 (by omega)
  · rcases hr with hr | hr
    · exact hr.2
    · rw [hx, hl] at h; exact absurd hr.2.2.1 h
  · rw [hl] at h1
    rw [hz] at h2
    rw [hx, hl] at h3
    rcases hr with hr | hr
    · rcases hr.1 with g | g | g
      · exact absurd g h1
      · exact absurd g h2
      · exact absurd h3 g
    · rw [hz]; exact hr.2.2.2

theorem Found.bad2 {s P : ByteArray} {R : Int} {X : Int × Nat} (h : Found s P R X) (g : (P.toList.isEmpty = true ∨ s.size < P.size) ∨ (!(s.extract 0 P.size).toList == P.toList) = true) : X = (-1, 1) := by
  rcases g with (g | g) | g
  · exact h.none_ (by simpa using g)
  · exact h.long_ g
  · exact h.other_ (by simpa using g)
theorem Found.here2 {s P : ByteArray} {R : Int} {X : Int × Nat} (h : Found s P R X) (g : (P.toList.isEmpty = false ∧ ¬ s.size < P.size) ∧ (!(s.extract 0 P.size).toList == P.toList) = false) : X = (R, P.size) := by
  obtain ⟨⟨g1, g2⟩, g3⟩ := g
  exact h.here_ (by simpa using g1) g2 (by simpa using g3)

theorem rnext_nil {w0 w : World} (h : St w0 w) (s : ByteArray) (hs : s.size = 0) :
    Calls Tryd.prog 73 #[.string s] w fun e w' => e = .returned (.tuple #[.int .i64 (nx (ls s)).1, .int .i64 (nx (ls s)).2]) ∧ St w0 w' := by
  have hl : ls s = [] := List.eq_nil_of_length_eq_zero (by rw [size_ls]; exact hs)
  obtain rfl : s = ByteArray.empty := ls_inj (by rw [hl]; rfl)
  rw [hl, nx_nil]
  go_enter Tryd.func73, Tryd.ntmps73
  go_wp2
  go_ret2
  exact ⟨rfl, h⟩

set_option maxRecDepth 100000 in
set_option maxHeartbeats 1000000 in
theorem rnext_any {w0 w : World} (h : St w0 w) (s : ByteArray) (hs : ¬ s.size = 0) (hm : s.size ≤ 140737488355328) :
    Calls Tryd.prog 73 #[.string s] w fun e w' => e = .returned (.tuple #[.int .i64 (nx (ls s)).1, .int .i64 (nx (ls s)).2]) ∧ St w0 w' := by
  have hne : ls s ≠ [] := fun hn => hs (by rw [← size_ls, hn]; rfl)
  have hnl : ¬ s.toList = [] := fun hn => hs ((size_zero s).1 hn)
  have hnl2 : s.toList.isEmpty = false := by simpa using hnl
  have hF := found s hne
  have hput := fun {w1 : World} (g : St w0 w1) => rput_any g (refc (ls s))
  have hmore1 : ∀ (w1 : World) (c : Int), c ≤ 1048576 → Calls Tryd.prog 85 #[.int .i64 c, .string s, .int .i64 1] w1 fun e w' => e = .returned (.int .i64 (moreP c (ls s) 1)) ∧ w' = w1 := fun w1 c hc => more_any w1 c s 1 hc (by omega) hm
  have hmore2 : ∀ (w1 : World) (c : Int), c ≤ 1048576 → Calls Tryd.prog 85 #[.int .i64 c, .string s, .int .i64 2] w1 fun e w' => e = .returned (.int .i64 (moreP c (ls s) 2)) ∧ w' = w1 := fun w1 c hc => more_any w1 c s 2 hc (by omega) hm
  have hmore3 : ∀ (w1 : World) (c : Int), c ≤ 1048576 → Calls Tryd.prog 85 #[.int .i64 c, .string s, .int .i64 3] w1 fun e w' => e = .returned (.int .i64 (moreP c (ls s) 3)) ∧ w' = w1 := fun w1 c hc => more_any w1 c s 3 hc (by omega) hm
  obtain ⟨P, hP⟩ : ∃ P, tx (putL (refc (ls s))) = P := ⟨_, rfl⟩
  obtain ⟨X, hX⟩ : ∃ X, nx (ls s) = X := ⟨_, rfl⟩
  obtain ⟨R, hR⟩ : ∃ R, refc (ls s) = R := ⟨_, rfl⟩
  rw [hR] at hP hF
  rw [hP, hX] at hF
  simp only [hR, hP] at hput
  rw [hX]
  obtain ⟨x, hx⟩ : ∃ x, (ls s).getD 0 0 = x := ⟨_, rfl⟩
  have hlt : 0 < s.size := by omega
  have hsx : s[0]'hlt = x := by
    rw [← hx]
    have : 0 < (ls s).length := by rw [size_ls]; exact hlt
    simp only [List.getD, List.getElem?_eq_getElem this, Option.getD_some]
    rfl
  have hltz : (0 : Int) < (s.size : Int) := by omega
  have hxl := x.toNat_lt
  unfold refc at hR
  rw [hx] at hR
  obtain ⟨l, hl⟩ : ∃ l, ls s = l := ⟨_, rfl⟩
  rw [hl] at hR hmore1 hmore2 hmore3
  clear hne hP hX hx hl
  by_cases b1 : x.toNat < 128
  · rw [if_pos b1] at hR
    have b1z : (x.toNat : Int) < 128 := by omega
    subst hR
    go_enter Tryd.func73, Tryd.ntmps73
    go_wp2_with (go_at_call 86; refine (hput (by assumption)).mono ?_; rintro e w' ⟨rfl, hst⟩)
    all_goals (go_ret2; refine ⟨?_, by assumption⟩)
    all_goals first
      | (rw [hF.none_ (by assumption)]; rfl)
      | (rw [hF.bad2 (by assumption)]; rfl)
      | (rw [hF.here2 (by assumption)]; rfl)
      | (rw [hF.long_ (by omega)]; rfl)
  · rw [if_neg b1] at hR
    have b1z : ¬ ((x.toNat : Int) < 128) := by omega
    obtain ⟨n, hn⟩ : ∃ n : Int, n = (x.toNat : Int) := ⟨_, rfl⟩
    have hn0 : 128 ≤ n := by omega
    have hn1 : n < 256 := by omega
    rw [← hn] at b1z hR
    have HSX : (x.toNat : Int) = n := hn.symm
    by_cases b2 : 192 ≤ x.toNat ∧ x.toNat < 224
    · rw [if_pos b2] at hR
      obtain ⟨m1, e1⟩ : ∃ m1, moreP (n - 192) l 1 = m1 := ⟨_, rfl⟩
      have h1 := fun W => hmore1 W (n - 192) (by omega)
      rw [e1] at hR
      simp only [e1] at h1
      subst hR
      have q1 : 192 ≤ n := by omega
      have q2 : n < 224 := by omega
      clear e1 b2 b1 hn
      go_enter Tryd.func73, Tryd.ntmps73
      go_wp2_with (first | (go_at_call 85; with_reducible refine (h1 _).mono ?_; rintro e w' ⟨rfl, rfl⟩) | (go_at_call 86; refine (hput (by assumption)).mono ?_; rintro e w' ⟨rfl, hst⟩))
      all_goals (go_ret2; refine ⟨?_, by assumption⟩)
      all_goals first
        | (rw [hF.none_ (by assumption)]; rfl)
        | (rw [hF.bad2 (by assumption)]; rfl)
        | (rw [hF.here2 (by assumption)]; rfl)
        | (rw [hF.long_ (by omega)]; rfl)
    · rw [if_neg b2] at hR
      by_cases b3 : 224 ≤ x.toNat ∧ x.toNat < 240
      · rw [if_pos b3] at hR
        obtain ⟨m1, e1⟩ : ∃ m, moreP (n - 224) l 1 = m := ⟨_, rfl⟩
        have k1 := moreP_le (c := n - 224) (l := l) (i := 1) (m := 15) (by omega) (by omega)
        rw [e1] at hR k1
        have h1 := fun W => hmore1 W (n - 224) (by omega)
        simp only [e1] at h1
        clear e1
        obtain ⟨m2, e2⟩ : ∃ m, moreP (m1) l 2 = m := ⟨_, rfl⟩
        have k2 := moreP_le (c := m1) (l := l) (i := 2) (m := 1023) (by omega) (by omega)
        rw [e2] at hR k2
        have h2 := fun W => hmore2 W (m1) (by omega)
        simp only [e2] at h2
        clear e2
        subst hR
        have q0 : ¬ (n < 224) := by omega
        have q1 : 224 ≤ n := by omega
        have q2 : n < 240 := by omega
        clear b3 b2 b1 hn
        go_enter Tryd.func73, Tryd.ntmps73
        go_wp2_with (first | (go_at_call 85; with_reducible refine (h1 _).mono ?_; rintro e w' ⟨rfl, rfl⟩) | (go_at_call 85; with_reducible refine (h2 _).mono ?_; rintro e w' ⟨rfl, rfl⟩) | (go_at_call 86; refine (hput (by assumption)).mono ?_; rintro e w' ⟨rfl, hst⟩))
        all_goals (go_ret2; refine ⟨?_, by assumption⟩)
        all_goals first
          | (rw [hF.none_ (by assumption)]; rfl)
          | (rw [hF.bad2 (by assumption)]; rfl)
          | (rw [hF.here2 (by assumption)]; rfl)
          | (rw [hF.long_ (by omega)]; rfl)
      · rw [if_neg b3] at hR
        by_cases b4 : 240 ≤ x.toNat ∧ x.toNat < 248
        · rw [if_pos b4] at hR
          obtain ⟨m1, e1⟩ : ∃ m, moreP (n - 240) l 1 = m := ⟨_, rfl⟩
          have k1 := moreP_le (c := n - 240) (l := l) (i := 1) (m := 7) (by omega) (by omega)
          rw [e1] at hR k1
          have h1 := fun W => hmore1 W (n - 240) (by omega)
          simp only [e1] at h1
          clear e1
          obtain ⟨m2, e2⟩ : ∃ m, moreP (m1) l 2 = m := ⟨_, rfl⟩
          have k2 := moreP_le (c := m1) (l := l) (i := 2) (m := 511) (by omega) (by omega)
          rw [e2] at hR k2
          have h2 := fun W => hmore2 W (m1) (by omega)
          simp only [e2] at h2
          clear e2
          obtain ⟨m3, e3⟩ : ∃ m, moreP (m2) l 3 = m := ⟨_, rfl⟩
          have k3 := moreP_le (c := m2) (l := l) (i := 3) (m := 32767) (by omega) (by omega)
          rw [e3] at hR k3
          have h3 := fun W => hmore3 W (m2) (by omega)
          simp only [e3] at h3
          clear e3
          subst hR
          have q0 : ¬ (n < 224) := by omega
          have q1 : ¬ (n < 240) := by omega
          have q2 : 240 ≤ n := by omega
          have q3 : n < 248 := by omega
          clear b4 b3 b2 b1 hn
          go_enter Tryd.func73, Tryd.ntmps73
          go_wp2_with (first | (go_at_call 85; with_reducible refine (h1 _).mono ?_; rintro e w' ⟨rfl, rfl⟩) | (go_at_call 85; with_reducible refine (h2 _).mono ?_; rintro e w' ⟨rfl, rfl⟩) | (go_at_call 85; with_reducible refine (h3 _).mono ?_; rintro e w' ⟨rfl, rfl⟩) | (go_at_call 86; refine (hput (by assumption)).mono ?_; rintro e w' ⟨rfl, hst⟩))
          all_goals (go_ret2; refine ⟨?_, by assumption⟩)
          all_goals first
            | (rw [hF.none_ (by assumption)]; rfl)
            | (rw [hF.bad2 (by assumption)]; rfl)
            | (rw [hF.here2 (by assumption)]; rfl)
            | (rw [hF.long_ (by omega)]; rfl)
        · rw [if_neg b4] at hR
          subst hR
          by_cases b5 : n < 192
          · clear b4 b3 b2 b1 hn
            go_enter Tryd.func73, Tryd.ntmps73
            go_wp2_with (go_at_call 86; refine (hput (by assumption)).mono ?_; rintro e w' ⟨rfl, hst⟩)
            all_goals (go_ret2; refine ⟨?_, by assumption⟩)
            all_goals first
              | (rw [hF.none_ (by assumption)]; rfl)
              | (rw [hF.bad2 (by assumption)]; rfl)
              | (rw [hF.here2 (by assumption)]; rfl)
              | (rw [hF.long_ (by omega)]; rfl)
          · have q0 : ¬ (n < 224) := by omega
            have q1 : ¬ (n < 240) := by omega
            have q3 : ¬ (n < 248) := by omega
            clear b4 b3 b2 b1 hn
            go_enter Tryd.func73, Tryd.ntmps73
            go_wp2_with (go_at_call 86; refine (hput (by assumption)).mono ?_; rintro e w' ⟨rfl, hst⟩)
            all_goals (go_ret2; refine ⟨?_, by assumption⟩)
            all_goals first
              | (rw [hF.none_ (by assumption)]; rfl)
              | (rw [hF.bad2 (by assumption)]; rfl)
              | (rw [hF.here2 (by assumption)]; rfl)
              | (rw [hF.long_ (by omega)]; rfl)
end Go.Proofs.YtijgcfnjbfaelaaDoor
