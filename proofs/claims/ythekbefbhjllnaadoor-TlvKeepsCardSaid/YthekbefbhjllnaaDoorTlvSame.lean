/- The walks of the statements' own small functions: alike, same, heavy, small. -/
import Derived.Test.YthekbefbhjllnaaDoorTlvDec
import Derived.Laws.StructEq
namespace Go.Proofs.YthekbefbhjllnaaDoor
open Go.RowKit
open Go.Lib (byteCells uvarint)

set_option maxRecDepth 100000 in
set_option maxHeartbeats 1000000 in
theorem alike_any {w : World} {B B' : Nat} {A A' : Option Addr} {a b : List UInt8} (c c' : Nat) (ha : Byt w B A a) (hb : Byt w B' A' b) :
    Calls Tryd.prog 19 #[.slice A a.length c, .slice A' b.length c'] w fun e w' => e = .returned (.bool (decide (a = b))) ∧ w = w' := by
  have ka := run_str (P := Tryd.prog) ha 28 5 9 Tryd.underlying28 Tryd.underlying5 Tryd.underlying9 c
  have kb := run_str (P := Tryd.prog) hb 28 5 9 Tryd.underlying28 Tryd.underlying5 Tryd.underlying9 c'
  go_enter Tryd.func19, Tryd.ntmps19
  go_wp2
  go_ret
  exact ⟨ret_bool (str_eq a b), rfl⟩

open Classical in
/-- are the fields the same? -/
noncomputable def sm (a b : List Fd) : Bool := decide (a = b)
theorem sm_self (a : List Fd) : sm a a = true := by simp [sm]
theorem sm_ne {a b : List Fd} (h : a ≠ b) : sm a b = false := by simp [sm, h]
theorem sm_len {a b : List Fd} (h : a.length ≠ b.length) : sm a b = false := sm_ne fun e => h (by rw [e])
theorem sm_at {a b : List Fd} {k : Nat} {f g : Fd} (hf : a[k]? = some f) (hg : b[k]? = some g) (h : f ≠ g) : sm a b = false := sm_ne fun e => by
  rw [e, hg] at hf; exact h (Option.some.inj hf).symm

set_option maxRecDepth 100000 in
set_option maxHeartbeats 2000000 in
theorem same_any {w : World} {B B' : Nat} {A A' : Option Addr} {a b : List Fd} (c c' : Nat) (ha : FRow w B A a) (hb : FRow w B' A' b) (hl : a.length ≤ 140737488355328) (hl' : b.length ≤ 140737488355328) :
    Calls Tryd.prog 22 #[.slice A a.length c, .slice A' b.length c'] w fun e w' => e = .returned (.bool (sm a b)) ∧ ∃ d, w' = w.drewN d := by
  obtain ⟨S, hS⟩ : ∃ S, sm a b = S := ⟨_, rfl⟩
  rw [hS]
  have HS := Lib.hid hS
  have HA := Lib.hid ha
  have HB := Lib.hid hb
  clear hS ha hb
  by_cases hlen : a.length = b.length
  · have hlb : ((a.length : Int) != (b.length : Int)) = false := by rw [hlen]; simp
    have HL := Lib.hid hlen
    clear hlen
    go_enter Tryd.func22, Tryd.ntmps22
    go_wp2
    go_loopw [5] (fun i wr => ∃ k : Nat, i = .int .i64 k ∧ k ≤ a.length ∧ Hid (a.take k = b.take k) ∧ ∃ d, wr = w.drewN d) (fun i _ => a.length - (intOf i).toNat)
    case atStart => exact ⟨0, rfl, Nat.zero_le _, by unfold Hid; rw [List.take_zero, List.take_zero], 0, rfl⟩
    case round =>
      obtain ⟨k, rfl, hk, HT, d, rfl⟩ := hrel
      by_cases hlt : k < a.length
      · have hltb : k < b.length := by have := HL.out; omega
        have hltz : (k : Int) < (a.length : Int) := by omega
        have hltz2 : (k : Int) < (b.length : Int) := by omega
        have k0 : (0 : Int) ≤ (k : Int) := by omega
        obtain ⟨f, hf⟩ : ∃ f, a[k]? = some f := ⟨a[k], List.getElem?_eq_getElem hlt⟩
        obtain ⟨g, hg⟩ : ∃ g, b[k]? = some g := ⟨b[k], List.getElem?_eq_getElem hltb⟩
        obtain ⟨ga, oa, rfl, _, hca⟩ := HA.out.at_ (by omega)
        obtain ⟨gb, ob, rfl, _, hcb⟩ := HB.out.at_ (by omega)
        obtain ⟨a0, a1, a2, a3⟩ := hca k f hf
        obtain ⟨b0, b1, b2, b3⟩ := hcb k g hg
        have a0' : (w.drewN d).cell? ⟨ga, oa + k * 4, none⟩ = some (.int .i64 f.t) := a0
        have a1' : (w.drewN d).cell? ⟨ga, oa + k * 4 + 1, none⟩ = some (.int .i64 f.v.k) := a1
        have a2' : (w.drewN d).cell? ⟨ga, oa + k * 4 + 2, none⟩ = some (.int .u64 f.v.n) := a2
        have a3' : (w.drewN d).cell? ⟨ga, oa + k * 4 + 3, none⟩ = some (.string f.v.s) := a3
        have b0' : (w.drewN d).cell? ⟨gb, ob + k * 4, none⟩ = some (.int .i64 g.t) := b0
        have b1' : (w.drewN d).cell? ⟨gb, ob + k * 4 + 1, none⟩ = some (.int .i64 g.v.k) := b1
        have b2' : (w.drewN d).cell? ⟨gb, ob + k * 4 + 2, none⟩ = some (.int .u64 g.v.n) := b2
        have b3' : (w.drewN d).cell? ⟨gb, ob + k * 4 + 3, none⟩ = some (.string g.v.s) := b3
        have HF := Lib.hid hf
        have HG := Lib.hid hg
        clear hca hcb hf hg
        by_cases hfg : f = g
        · subst hfg
          obtain ⟨t, v⟩ := f
          obtain ⟨vk, vn, vs⟩ := v
          dsimp only at *
          go_wp2
          go_quiet (fail)
          go_wp2
          go_roundw
          case rel => exact ⟨k + 1, by go_num, by omega, by have := HT.out; unfold Hid; rw [take_snoc HF.out, take_snoc HG.out, this], _, rfl⟩
          case measure => simp [intOf]; omega
        · have HN := Lib.hid (sm_at HF.out HG.out hfg)
          have HNE := Lib.hid hfg
          clear hfg
          obtain ⟨t, v⟩ := f
          obtain ⟨vk, vn, vs⟩ := v
          obtain ⟨t', v'⟩ := g
          obtain ⟨vk', vn', vs'⟩ := v'
          dsimp only at *
          have h4 : (t == t') = false ∨ ((t == t') = true ∧ (vk == vk') = false) ∨ ((t == t') = true ∧ (vk == vk') = true ∧ (vn == vn') = false) ∨ ((t == t') = true ∧ (vk == vk') = true ∧ (vn == vn') = true ∧ (vs.toList == vs'.toList) = false) := by
            by_cases e1 : t = t'
            · by_cases e2 : vk = vk'
              · by_cases e3 : vn = vn'
                · by_cases e4 : vs = vs'
                  · exact absurd (by rw [e1, e2, e3, e4]) HNE.out
                  · have : (vs.toList == vs'.toList) = false := by
                      rw [beq_eq_false_iff_ne]
                      intro q
                      rw [Lib.toList_data, Lib.toList_data] at q
                      exact e4 (ls_inj q)
                    simp [e1, e2, e3, this]
                · simp [e1, e2, e3]
              · simp [e1, e2]
            · simp [e1]
          rcases h4 with h1 | ⟨h1, h2⟩ | ⟨h1, h2, h3⟩ | ⟨h1, h2, h3, h4⟩
          all_goals
            go_wp2
            go_quiet (fail)
            go_wp2
            go_ret
            exact ⟨ret_bool (HN.out.symm.trans HS.out), _, World.drewN_drewN ..⟩
      · have hab : a = b := by
          have h1 := HT.out
          rw [List.take_of_length_le (by omega), List.take_of_length_le (by have := HL.out; omega)] at h1
          exact h1
        have hs := HS.out
        rw [hab, sm_self] at hs
        have HS2 := Lib.hid hs
        clear hab hs
        go_wp2
        go_ret
        exact ⟨ret_bool HS2.out, _, rfl⟩
  · have hlb : ((a.length : Int) != (b.length : Int)) = true := by simp; omega
    have HN := Lib.hid (sm_len hlen)
    clear hlen
    go_enter Tryd.func22, Tryd.ntmps22
    go_wp2
    go_ret
    exact ⟨ret_bool (HN.out.symm.trans HS.out), 0, rfl⟩

theorem texts_at {l : List Fd} {k : Nat} {f : Fd} (hf : l[k]? = some f) : texts (l.take (k + 1)) = texts (l.take k) + f.v.s.size := by rw [take_snoc hf, texts_snoc]
theorem texts_le (l : List Fd) (k : Nat) : texts (l.take k) ≤ texts l := by have := texts_part l k; omega
/-- more than is gone on with -/
def hvy (l : List Fd) : Bool := decide (1048576 < l.length) || decide (33554432 < texts l)
theorem hvy_light {l : List Fd} (h : hvy l = false) : Light l := by
  simp [hvy] at h
  exact ⟨h.1, h.2⟩

set_option maxRecDepth 100000 in
set_option maxHeartbeats 1000000 in
theorem heavy_any (w : World) {B : Nat} {A : Option Addr} {l : List Fd} (c : Nat) (hA : FRow w B A l) (hg : Good l) (hl : l.length ≤ 140737488355328) :
    Calls Tryd.prog 12 #[.slice A l.length c] w fun e w' => e = .returned (.bool (hvy l)) ∧ w = w' := by
  obtain ⟨V, hV⟩ : ∃ V, hvy l = V := ⟨_, rfl⟩
  rw [hV]
  have HV := Lib.hid hV
  have HA := Lib.hid hA
  have HG := Lib.hid hg
  clear hV hA hg
  go_enter Tryd.func12, Tryd.ntmps12
  go_wp2
  go_loop [3, 4] (fun n i => ∃ k t : Nat, n = .int .i64 t ∧ i = .int .i64 k ∧ k ≤ l.length ∧ t ≤ 140737521909760 ∧ Hid (t = texts (l.take k))) (fun _ i => l.length - (intOf i).toNat)
  case atStart => exact ⟨0, 0, rfl, rfl, Nat.zero_le _, Nat.zero_le _, rfl⟩
  case round =>
    obtain ⟨k, t, rfl, rfl, hk, ht, HT⟩ := hrel
    by_cases hlt : k < l.length
    · have hltz : (k : Int) < (l.length : Int) := by omega
      by_cases hn : t ≤ 33554432
      · by_cases hm : k ≤ 1048576
        · obtain ⟨f, hf⟩ : ∃ f, l[k]? = some f := ⟨l[k], List.getElem?_eq_getElem hlt⟩
          obtain ⟨g, o, rfl, _, hcs⟩ := HA.out.at_ (by omega)
          obtain ⟨c0, c1, c2, c3⟩ := hcs k f hf
          have hsz := (HG.out.at_ hf).2
          have h1 := texts_at hf
          rw [← HT.out] at h1
          have H1 := Lib.hid h1
          clear hcs hf h1
          go_wp2
          go_round
          case rel => exact ⟨k + 1, t + f.v.s.size, by go_num, by go_num, by omega, by omega, H1.out.symm⟩
          case measure => simp [intOf]; omega
        · have h1 : V = true := by
            rw [← HV.out]; unfold hvy; rw [decide_eq_true (show 1048576 < l.length by omega)]; rfl
          subst h1
          have hlen : 1048576 < l.length := by omega
          go_wp2
          go_ret
          exact ⟨rfl, rfl⟩
      · have h1 : V = true := by
          have := texts_le l k
          rw [← HT.out] at this
          rw [← HV.out]; unfold hvy; rw [decide_eq_true (show 33554432 < texts l by omega), Bool.or_true]
        subst h1
        by_cases hlen : 1048576 < l.length
        · go_wp2
          go_ret
          exact ⟨rfl, rfl⟩
        · go_wp2
          go_ret
          exact ⟨rfl, rfl⟩
    · have h1 : V = (decide (1048576 < l.length) || decide (33554432 < t)) := by
        have h2 : texts l = t := by rw [HT.out, List.take_of_length_le (by omega)]
        rw [← HV.out]; unfold hvy; rw [h2]
      subst h1
      by_cases hlen : 1048576 < l.length
      · go_wp2
        go_ret
        exact ⟨ret_bool (by simp), rfl⟩
      · go_wp2
        go_ret
        exact ⟨ret_bool (by rw [Bool.eq_iff_iff]; simp; omega), rfl⟩
end Go.Proofs.YthekbefbhjllnaaDoor
