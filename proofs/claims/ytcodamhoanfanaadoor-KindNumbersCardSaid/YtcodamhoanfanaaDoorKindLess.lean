/- The walks of the reference's Valid, Less and Order. -/
import Derived.Test.YtcodamhoanfanaaDoorKindRef
import Derived.Deep.QuietTactic
import Derived.BigQuiet
namespace Go.Proofs.YtcodamhoanfanaaDoor
open Go.RowKit
open Go.Lib (compareBytes)

set_option maxRecDepth 100000 in
set_option maxHeartbeats 1000000 in
theorem rkvalid_any {w0 w : World} (hk : KSt w0 w) (v : Val) (ha : Fits v) (hs : v.s.size ≤ 140737488355328) :
    Calls Tryd.prog 15 #[vv v] w fun e w' => e = .returned (.bool (okV v)) ∧ KSt w0 w' := by
  obtain ⟨k, n, s⟩ := v
  unfold vv okV
  unfold Fits at ha
  dsimp only at hs ha ⊢
  obtain ⟨n0, _⟩ := ha
  have k2 := hk.new (.cells #[.int .i64 k, .int .u64 n, .string s] 30)
  have cv := fun (W : World) (g : KSt w0 W) => KSt.of g ((rvalid_any g.self.st s hs).mono fun _ _ ⟨he, hb⟩ => ⟨he, hb.below⟩)
  obtain ⟨o, ho⟩ : ∃ o, okL (ls s) = o := ⟨_, rfl⟩
  have ho' : okL s.data.toList = o := ho
  rw [ho']
  simp only [ho] at cv
  clear ho ho'
  have hS : s.toList.isEmpty = decide (s.size = 0) := by
    by_cases h : s.size = 0
    · simp [h, (str_nil s).2 h]
    · have : ¬ s.toList = [] := fun g => h ((str_nil s).1 g)
      rw [decide_eq_false h]
      simpa using this
  obtain ⟨E, hE⟩ : ∃ E, decide (s.size = 0) = E := ⟨_, rfl⟩
  rw [hE] at hS ⊢
  have HS := Lib.hid hS
  have hl : s.toList = [] ↔ E = true := by rw [← hE, str_nil]; simp
  clear hS hE
  have HK := Lib.hid hk
  clear hk
  by_cases k1 : k = 1 ∨ k = 2
  · have HL := Lib.hid hl
    clear hl
    rw [if_pos k1]
    rcases k1 with rfl | rfl
    all_goals
      go_enter Tryd.func15, Tryd.ntmps15
      go_wp2
      go_ret
      exact ⟨ret_bool HS.out, k2⟩
  rw [if_neg k1]
  have q1 : (k == 1) = false := by simpa using fun h => k1 (.inl h)
  have q2 : (k == 2) = false := by simpa using fun h => k1 (.inr h)
  clear k1
  by_cases k3 : k = 3
  · rw [if_pos k3]
    subst k3
    by_cases hn : E = true
    · have hl2 := hl.2 hn
      subst hn
      clear hl HS
      go_enter Tryd.func15, Tryd.ntmps15
      go_wp2
      go_ret
      exact ⟨ret_bool (by simp), k2⟩
    · have hl2 : ¬ s.toList = [] := fun g => hn (hl.1 g)
      have hl3 : s.toList.isEmpty = false := by simpa using hl2
      obtain rfl : E = false := by simpa using hn
      clear hl HS hn
      go_enter Tryd.func15, Tryd.ntmps15
      go_wp2
      go_ret
      exact ⟨ret_bool (by simp), k2⟩
  rw [if_neg k3]
  have q3 : (k == 3) = false := by simpa using k3
  clear k3
  have HL := Lib.hid hl
  clear hl
  by_cases k4 : k = 4
  · rw [if_pos k4]
    subst k4
    by_cases hn : n = 0
    · subst hn
      go_enter Tryd.func15, Tryd.ntmps15
      go_wp2_with (go_at_call 31; refine (cv _ k2).mono ?_; rintro e w' ⟨rfl, hst⟩)
      go_ret
      exact ⟨ret_bool (by simp), hst⟩
    · have hnb : (n == 0) = false := by simpa using hn
      go_enter Tryd.func15, Tryd.ntmps15
      go_wp2
      go_ret
      exact ⟨ret_bool (by simp [hn]), k2⟩
  rw [if_neg k4]
  have q4 : (k == 4) = false := by simpa using k4
  clear k4
  by_cases k5 : k = 5
  · rw [if_pos k5]
    subst k5
    go_enter Tryd.func15, Tryd.ntmps15
    go_wp2
    go_ret
    exact ⟨ret_bool (by by_cases h : n = 0 <;> simp [h]), k2⟩
  rw [if_neg k5]
  have q5 : (k == 5) = false := by simpa using k5
  clear k5
  go_enter Tryd.func15, Tryd.ntmps15
  go_wp2
  go_ret
  exact ⟨rfl, k2⟩

/-- whether one text stands ahead of another -/
def ltB (x y : List UInt8) : Bool := decide (compareBytes x y = -1)
theorem cb_same {l m : List UInt8} {i : Nat} (h1 : i < l.length) (h2 : i < m.length) (h : l[i] = m[i]) : compareBytes (l.drop i) (m.drop i) = compareBytes (l.drop (i + 1)) (m.drop (i + 1)) := by
  rw [List.drop_eq_getElem_cons h1, List.drop_eq_getElem_cons h2, h]
  show (if m[i] < m[i] then _ else if m[i] < m[i] then _ else _) = _
  rw [if_neg (UInt8.lt_irrefl _), if_neg (UInt8.lt_irrefl _)]
theorem cb_diff {l m : List UInt8} {i : Nat} (h1 : i < l.length) (h2 : i < m.length) (h : ¬ l[i] = m[i]) : compareBytes (l.drop i) (m.drop i) = if l[i].toNat < m[i].toNat then -1 else 1 := by
  rw [List.drop_eq_getElem_cons h1, List.drop_eq_getElem_cons h2]
  show (if l[i] < m[i] then _ else if m[i] < l[i] then _ else _) = _
  by_cases g : l[i] < m[i]
  · rw [if_pos g, if_pos (UInt8.lt_iff_toNat_lt.1 g)]
  · rw [if_neg g, if_neg (fun q => g (UInt8.lt_iff_toNat_lt.2 q)), if_pos ?_]
    rw [UInt8.lt_iff_toNat_lt] at g ⊢
    have : l[i].toNat ≠ m[i].toNat := fun q => h (UInt8.toNat_inj.1 q)
    omega
theorem cb_end {l m : List UInt8} {i : Nat} (h1 : i ≤ l.length) (h2 : i ≤ m.length) (h : ¬ (i < l.length ∧ i < m.length)) : (compareBytes (l.drop i) (m.drop i) = -1) ↔ l.length < m.length := by
  rcases Nat.lt_or_ge i l.length with g | g
  · have : m.drop i = [] := List.drop_eq_nil_of_le (by omega)
    rw [this, List.drop_eq_getElem_cons g]
    constructor
    · intro q; exact absurd (show (1 : Int) = -1 from q) (by decide)
    · intro q; omega
  · have e : l.drop i = [] := List.drop_eq_nil_of_le (by omega)
    rw [e]
    rcases Nat.lt_or_ge i m.length with k | k
    · rw [List.drop_eq_getElem_cons k]
      constructor
      · intro _; omega
      · intro _; rfl
    · rw [List.drop_eq_nil_of_le (by omega)]
      constructor
      · intro q; exact absurd (show (0 : Int) = -1 from q) (by decide)
      · intro q; omega

set_option maxRecDepth 100000 in
set_option maxHeartbeats 1000000 in
theorem less_any (w : World) (s t : ByteArray) (hs : s.size ≤ 140737488355328) (_ht : t.size ≤ 140737488355328) :
    Calls Tryd.prog 35 #[.string s, .string t] w fun e w' => e = .returned (.bool (ltB s.data.toList t.data.toList)) ∧ Below w.heap.size w w' := by
  obtain ⟨F, hF⟩ : ∃ F, ltB s.data.toList t.data.toList = F := ⟨_, rfl⟩
  rw [hF]
  have HF := Lib.hid hF
  clear hF
  have ls' : s.data.toList.length = s.size := (Lib.size_eq s).symm
  have lt' : t.data.toList.length = t.size := (Lib.size_eq t).symm
  have LS := Lib.hid ls'
  have LT := Lib.hid lt'
  clear ls' lt'
  go_enter Tryd.func35, Tryd.ntmps35
  go_wp2
  go_loopw [5] (fun i wr => ∃ k : Nat, i = .int .i64 k ∧ k ≤ s.size ∧ k ≤ t.size ∧ Below w.heap.size w wr ∧ Hid (compareBytes s.data.toList t.data.toList = compareBytes (s.data.toList.drop k) (t.data.toList.drop k))) (fun i _ => s.size - (intOf i).toNat)
  case atStart => exact ⟨0, rfl, Nat.zero_le _, Nat.zero_le _, Below.refl _ _, by unfold Hid; rw [List.drop_zero, List.drop_zero]⟩
  case round =>
    obtain ⟨k, rfl, hk1, hk2, hB, HC⟩ := hrel
    by_cases g1 : k < s.size
    · by_cases g2 : k < t.size
      · have g1z : (k : Int) < (s.size : Int) := by omega
        have g2z : (k : Int) < (t.size : Int) := by omega
        obtain ⟨x, hx⟩ : ∃ x, s[k]'g1 = x := ⟨_, rfl⟩
        obtain ⟨y, hy⟩ : ∃ y, t[k]'g2 = y := ⟨_, rfl⟩
        have m1 : k < s.data.toList.length := by rw [LS.out]; exact g1
        have m2 : k < t.data.toList.length := by rw [LT.out]; exact g2
        have hx' : s.data.toList[k] = x := hx
        have hy' : t.data.toList[k] = y := hy
        by_cases hxy : x = y
        · have hc := cb_same m1 m2 (by rw [hx', hy', hxy])
          have HC2 : Hid (compareBytes s.data.toList t.data.toList = compareBytes (s.data.toList.drop (k + 1)) (t.data.toList.drop (k + 1))) := HC.out.trans hc
          have hn : ((x.toNat : Int) == (y.toNat : Int)) = true := by rw [hxy]; simp
          clear hc HC hx' hy' m1 m2 hxy
          have hnn : ((x.toNat : Int) != (y.toNat : Int)) = false := by simp only [bne, hn, Bool.not_true]
          go_wp2
          go_quiet (fail)
          go_wp2
          go_roundw
          case rel => exact ⟨k + 1, by go_num, by omega, by omega, Below.thenN hB _, HC2⟩
          case measure => simp [intOf]; omega
        · have hc := cb_diff m1 m2 (by rw [hx', hy']; exact hxy)
          rw [hx', hy'] at hc
          have HC2 := Lib.hid (HC.out.trans hc)
          have hne : ¬ ((x.toNat : Int) = (y.toNat : Int)) := fun g => hxy (UInt8.toNat_inj.1 (by omega))
          have hn : ((x.toNat : Int) == (y.toNat : Int)) = false := by simpa using hne
          have hnn : ((x.toNat : Int) != (y.toNat : Int)) = true := by simp only [bne, hn, Bool.not_false]
          clear hc HC hx' hy' m1 m2 hxy hne
          go_wp2
          go_quiet (fail)
          go_wp2
          go_quiet (fail)
          go_wp2
          go_ret
          refine ⟨ret_bool ?_, Below.thenN (Below.thenN hB _) _⟩
          rw [← HF.out]
          unfold ltB
          rw [HC2.out]
          by_cases g : x.toNat < y.toNat
          · have : (x.toNat : Int) < (y.toNat : Int) := by omega
            simp [g]
          · have : ¬ (x.toNat : Int) < (y.toNat : Int) := by omega
            simp [g]
      · have g1z : (k : Int) < (s.size : Int) := by omega
        have g2z : ¬ ((k : Int) < (t.size : Int)) := by omega
        go_wp2
        go_ret
        refine ⟨ret_bool ?_, hB⟩
        rw [← HF.out]
        unfold ltB
        rw [HC.out]
        have := cb_end (l := s.data.toList) (m := t.data.toList) (i := k) (by rw [LS.out]; omega) (by rw [LT.out]; omega) (by rw [LS.out, LT.out]; omega)
        rw [LS.out, LT.out] at this
        by_cases g : s.size < t.size
        · simp [this, g]
        · simp [this, g]
    · have g1z : ¬ ((k : Int) < (s.size : Int)) := by omega
      go_wp2
      go_ret
      refine ⟨ret_bool ?_, hB⟩
      rw [← HF.out]
      unfold ltB
      rw [HC.out]
      have := cb_end (l := s.data.toList) (m := t.data.toList) (i := k) (by rw [LS.out]; omega) (by rw [LT.out]; omega) (by rw [LS.out, LT.out]; omega)
      rw [LS.out, LT.out] at this
      by_cases g : s.size < t.size
      · simp [this, g]
      · simp [this, g]
end Go.Proofs.YtcodamhoanfanaaDoor
