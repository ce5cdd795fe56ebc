/- The walk of the code: the reckoning, whatever the node. -/
import Derived.Test.YtpgljmkemmikhaaDoorExRecA
import Derived.Test.YtpgljmkemmikhaaDoorExRecB
import Derived.Test.YtpgljmkemmikhaaDoorExRecC
namespace Go.Proofs.YtpgljmkemmikhaaDoor
open Go.RowKit

theorem reckon_all {x f d : Nat} {A : Option Addr} {c : Nat} {N : List Rn} {F D : List Nat} : ∀ r, r < N.length → RecC x f d A c N F D r := by
  intro r
  induction r using Nat.strongRecOn with
  | ind r ih =>
    intro hr w hE
    have IH : ∀ r', r' < r → RecC x f d A c N F D r' := fun r' h => ih r' h (Nat.lt_trans h hr)
    obtain ⟨e, he, hF0, _⟩ := hE.kn r hr
    obtain ⟨Pq, hpile⟩ := he
    obtain ⟨P, y, k, hP, hy, ha, hk, hq⟩ := pile_succ hpile
    injection hq with hq1 hq2
    have hF : F[r]? = some (bottom r (P.take k)) := by rw [hF0, hq1]; rfl
    have hres : resAt N r = combR r y (kidRes N P k) := by rw [res_at hy ha, kid_res hP]
    rw [hres]
    have hok : ∀ j t, resAt N j = .ok t → t.Ok := fun j t ht => res_ok (fun y hy => (hE.num y hy).1) ht
    have h0 : k = 0 → kidRes N P k = [] := fun z => by rw [z]; rfl
    rcases arity_op ha with ⟨ho, hk0⟩ | ⟨ho, hk0⟩ | ⟨ho, hk0⟩ | ⟨ho, hk0⟩ | ⟨ho, hk0⟩ | ⟨ho, hk0⟩ | ⟨ho, hk0⟩ | ⟨ho, hk0⟩ | ⟨ho, hk0⟩ | ⟨ho, hk0⟩ | ⟨ho, hk0⟩ | ⟨ho, hk0⟩
    · refine reckon1_any hE hy ho _ ?_
      rw [h0 hk0, comb0_eq]
      unfold ownV
      rw [if_pos ho]
      show _ = Ending.returned (.agg #[.int .i64 1, .bool (decide (((y.num : Nat) : Int) < 0)), .int .u64 ((((y.num : Nat) : Int).natAbs : Nat) : Int), .string (str [])])
      rw [decide_eq_false (by omega : ¬ ((y.num : Nat) : Int) < 0), Int.natAbs_natCast]
      rfl
    · refine reckon2_any hE hy ho _ (combR r y (kidRes N P k)) rfl fun W _ => ?_
      rw [h0 hk0, comb0_eq]
      have : ownV y [] = textE y.t := by unfold ownV; rw [ho]; rfl
      rw [this]
      exact textOf_any W x r y.t (hE.num y (List.mem_of_getElem? hy)).2
    · refine reckon3_any hE hy ho _ ?_
      rw [h0 hk0, comb0_eq]
      have : ownV y [] = .ok (.truth true) := by unfold ownV; rw [ho]; rfl
      rw [this]
      rfl
    · refine reckon4_any hE hy ho _ ?_
      rw [h0 hk0, comb0_eq]
      have : ownV y [] = .ok (.truth false) := by unfold ownV; rw [ho]; rfl
      rw [this]
      rfl
    · subst hk0
      have h : ∀ t, ownV y [t] = negF t := by intro t; unfold ownV; rw [ho]; cases t <;> rfl
      refine reckon5_any hE hy ho _ (combR r y (kidRes N P 1)) rfl fun W hW => ?_
      rw [kidRes_one hk, comb1_eq h]
      exact negative_any IH hW hP hk hF hr
    · subst hk0
      have h : ∀ t u, ownV y [t, u] = addF t u := by intro t u; unfold ownV; rw [ho]; cases t <;> cases u <;> rfl
      refine reckon6_any hE hy ho _ (combR r y (kidRes N P 2)) rfl fun W hW => ?_
      rw [kidRes_two hk, comb2_eq h]
      exact add_any IH hW hP hk hF hr
    · subst hk0
      have h : ∀ t u, ownV y [t, u] = arF (· - ·) t u := by intro t u; unfold ownV; rw [ho]; cases t <;> cases u <;> rfl
      refine reckon7_any hE hy ho _ (resAt N P[1].r) (resAt N P[0].r) ?_ (hok _) (hok _) fun W hW => two_any IH hW hP hk hF hr
      rw [kidRes_two hk, comb2_eq h]
    · subst hk0
      have h : ∀ t u, ownV y [t, u] = arF (· * ·) t u := by intro t u; unfold ownV; rw [ho]; cases t <;> cases u <;> rfl
      refine reckon8_any hE hy ho _ (resAt N P[1].r) (resAt N P[0].r) ?_ (hok _) (hok _) fun W hW => two_any IH hW hP hk hF hr
      rw [kidRes_two hk, comb2_eq h]
    · refine reckon9_any hE hy ho _ (combR r y (kidRes N P k)) rfl fun W hW => ?_
      rw [catR_eq ho]
      exact cat_any IH hW hP hk hk0 hF hr
    · subst hk0
      have h : ∀ t u, ownV y [t, u] = repF t u := by intro t u; unfold ownV; rw [ho]; cases t <;> cases u <;> rfl
      refine reckon10_any hE hy ho _ (combR r y (kidRes N P 2)) rfl fun W hW => ?_
      rw [kidRes_two hk, comb2_eq h]
      exact rep_node IH hW hP hk hF hr
    · subst hk0
      have h : ∀ t, ownV y [t] = lenF t := by intro t; unfold ownV; rw [ho]; cases t <;> rfl
      refine reckon11_any hE hy ho _ (combR r y (kidRes N P 1)) rfl fun W hW => ?_
      rw [kidRes_one hk, comb1_eq h]
      exact length_any IH hW hP hk hF hr
    · subst hk0
      have h : ∀ t, ownV y [t] = hexF t := by intro t; unfold ownV; rw [ho]; cases t <;> rfl
      refine reckon12_any hE hy ho _ (combR r y (kidRes N P 1)) rfl fun W hW => ?_
      rw [kidRes_one hk, comb1_eq h]
      exact hexn_any IH hW hP hk hF hr
end Go.Proofs.YtpgljmkemmikhaaDoor
