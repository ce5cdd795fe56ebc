/- Plain: a value that is given without a fault is one of its kind. No walk here. -/
import Derived.Test.YtmbiompmhaiehaaDoorExGn
import Derived.Test.YtmbiompmhaiehaaDoorExOneP
namespace Go.Proofs.YtmbiompmhaiehaaDoor
theorem run_in {N : List Rn} (hN : ∀ x ∈ N, x.num < 18446744073709551616) : ∀ (i : Nat) (T : List Th), runP N i = .ok T → ∀ t ∈ T, ThIn t
  | 0, T, h, t, ht => by cases h; cases ht
  | i + 1, T, h, t, ht => by
    unfold runP at h
    split at h
    · cases h
    · next T' hT' =>
      have ih := run_in hN i T' hT'
      split at h
      · cases h; cases ht
      · next x hx =>
        split at h
        · cases h; cases ht
        · next k hk =>
          split at h
          · cases h
          · next q hq =>
            cases h
            rcases List.mem_cons.1 ht with rfl | h1
            · exact own_in (hN x (List.mem_of_getElem? hx)) (fun r hr => ih r (List.mem_of_mem_take (List.mem_reverse.1 hr))) hq
            · exact ih t (List.mem_of_mem_drop h1)
theorem sem_in {N : List Rn} {t : Th} (hN : ∀ x ∈ N, x.num < 18446744073709551616) (hg : (chkP N).2 = 0) (h : semR N = .ok t) : ThIn t := by
  obtain ⟨f, hf⟩ := (good_iff.1 hg).2
  have hr := run_vals N.length _ (expr_some hf)
  rw [sem_vals hf, h] at hr
  cases hT : runP N N.length with
  | error e => rw [hT] at hr; cases hr
  | ok T =>
    rw [hT] at hr
    have : t ∈ T := by
      match T, hr with
      | [], hr => cases hr
      | q :: T', hr =>
        simp only [List.map_cons, List.cons.injEq] at hr
        cases hr.1
        exact List.mem_cons_self
    exact run_in hN _ T hT t this
theorem last_good {t : Th} {k : Int} {n : Nat} {s : List UInt8} (ht : ThIn t) (h : lastV t k = .ok (n, s)) : okV ⟨k, n, str s⟩ = true ∧ n < 18446744073709551616 ∧ s.length ≤ 140737488355328 := by
  cases t with
  | num v =>
    obtain ⟨h1, h2⟩ : -9223372036854775808 ≤ v ∧ v < 18446744073709551616 := ht
    simp only [lastV] at h
    split at h
    · next hk =>
      subst hk
      split at h
      · cases h
      · cases h
        exact ⟨rfl, by omega, by simp⟩
    · split at h
      · next hk =>
        subst hk
        split at h
        · cases h
        · cases h
          refine ⟨rfl, ?_, by simp⟩
          split <;> omega
      · cases h
  | truth b =>
    simp only [lastV] at h
    split at h
    · next hk =>
      subst hk
      cases h
      cases b <;> exact ⟨by decide, by decide, by decide⟩
    · cases h
  | text s' =>
    have hl : s'.length ≤ 140737488355328 := ht
    simp only [lastV] at h
    split at h
    · next hk =>
      subst hk
      split at h
      · next ho =>
        cases h
        refine ⟨?_, by omega, hl⟩
        unfold okV
        simpa [str] using ho
      · cases h
    · cases h
  | bytes s' =>
    have hl : s'.length ≤ 140737488355328 := ht
    simp only [lastV] at h
    split at h
    · next hk =>
      subst hk
      cases h
      exact ⟨rfl, by omega, hl⟩
    · cases h
/-- what is given without a fault is a value of the kind -/
theorem val_valid {N : List Rn} {k : Int} (hN : ∀ x ∈ N, x.num < 18446744073709551616) (h0 : (valV N k).e = 0) : (valV N k).k = k ∧ okV ⟨k, (valV N k).n, str (valV N k).s⟩ = true ∧ (valV N k).n < 18446744073709551616 ∧ (valV N k).s.length ≤ 140737488355328 := by
  by_cases hg : (chkP N).2 = 0
  case neg => unfold valV at h0; rw [if_pos hg] at h0; exact absurd h0 hg
  by_cases hk : k < 1 ∨ 5 < k
  case pos => unfold valV at h0; rw [if_neg (fun h => h hg), if_pos hk] at h0; cases h0
  have hv := val_good hg (k := k) (by omega) (by omega)
  cases hs : semR N with
  | error p =>
    obtain ⟨a, e⟩ := p
    rw [hs] at hv
    rw [hv] at h0
    obtain ⟨f, hf⟩ := (good_iff.1 hg).2
    have := vals_err N.length a e (by rw [sem_vals hf, hs]; exact List.mem_cons_self)
    have h1 : e = 0 := h0
    omega
  | ok t =>
    rw [hs] at hv
    have ht := sem_in hN hg hs
    cases hl : lastV t k with
    | error e =>
      simp only [hl] at hv
      rw [hv] at h0
      have h1 : e = 0 := h0
      subst h1
      exfalso
      unfold lastV at hl
      repeat' split at hl
      all_goals (first | cases hl | skip)
    | ok p =>
      obtain ⟨n, s⟩ := p
      simp only [hl] at hv
      rw [hv]
      exact ⟨rfl, last_good ht hl⟩
end Go.Proofs.YtmbiompmhaiehaaDoor
