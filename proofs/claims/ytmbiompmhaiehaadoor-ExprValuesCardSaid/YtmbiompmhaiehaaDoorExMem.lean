/- How layer 11's things stand in memory; results that are structs. No walk here. -/
import Derived.Test.YtmbiompmhaiehaaDoorExPure
import Derived.Test.YtmbiompmhaiehaaDoorPoRow
namespace Go.Proofs.YtmbiompmhaiehaaDoor
open Go.RowKit

/-- a number -/
def numC (v : Int) : Array Value := #[.bool (decide (v < 0)), .int .u64 (v.natAbs : Nat)]
/-- its sort, its number -/
def Th.sort : Th → Int | .num _ => 1 | .text _ => 2 | .truth _ => 3 | .bytes _ => 4
def Th.n : Th → Int | .num v => v | .truth b => if b then 1 else 0 | _ => 0
/-- what a node stands for, in memory -/
def thC (t : Th) : Array Value := #[.int .i64 t.sort, .bool (decide (t.n < 0)), .int .u64 (t.n.natAbs : Nat), .string (str t.s)]
/-- a fault that the reckoning gives up with -/
def faultV (a e : Nat) : PanicEntry := { v := .iface 40 (.agg #[.int .i64 (a : Nat), .int .i64 (e : Nat)]), recovered := false }
def endR : Res → Ending
  | .ok t => .returned (.agg (thC t))
  | .error (a, e) => .panicked [faultV a e]
def endO (j : Nat) : Except Nat Th → Ending
  | .ok t => .returned (.agg (thC t))
  | .error e => .panicked [faultV j e]
/-- in the range of numbers -/
def inR (v : Int) : Bool := decide (-9223372036854775808 ≤ v ∧ v < 18446744073709551616)
theorem numE_eq (v : Int) : numE v = if inR v then .ok (.num v) else .error 111 := by
  unfold numE inR
  by_cases h : -9223372036854775808 ≤ v ∧ v < 18446744073709551616
  · rw [if_pos h, if_pos (decide_eq_true h)]
  · rw [if_neg h, if_neg (by rw [decide_eq_true_eq]; exact h)]
/-- small enough -/
def Th.Ok : Th → Prop
  | .num v => -9223372036854775808 ≤ v ∧ v < 18446744073709551616
  | .text s => s.length ≤ 4096
  | .truth _ => True
  | .bytes s => s.length ≤ 4096
theorem numE_ok {v : Int} {t : Th} (h : numE v = .ok t) : t.Ok := by
  unfold numE at h
  split at h
  · rename_i hh
    cases h
    exact hh
  · cases h
theorem textE_ok {s : List UInt8} {t : Th} (h : textE s = .ok t) : t.Ok := by
  unfold textE at h
  split at h
  · rename_i hh
    cases h
    exact hh
  · cases h
theorem timesL_len (s : List UInt8) (n : Nat) : (timesL s n).length = n * s.length := by
  unfold timesL
  rw [List.length_flatten, List.map_replicate, List.sum_replicate_nat]
theorem repE_ok {s : List UInt8} {v : Int} {t : Th} (h : repE' s v = .ok t) : t.Ok := by
  unfold repE' at h
  split at h
  · cases h
  · split at h
    · rename_i hh
      cases h
      show (timesL s v.toNat).length ≤ 4096
      rw [timesL_len]
      exact hh
    · cases h
theorem hexL_half : ∀ (s t : List UInt8), hexL s = some t → t.length ≤ s.length
  | [], t, h => by cases h; exact Nat.le_refl _
  | [_], t, h => by cases h
  | a :: b :: r, t, h => by
    unfold hexL at h
    split at h
    · cases h
    · cases hr : hexL r with
      | none => rw [hr] at h; cases h
      | some u =>
        rw [hr] at h
        cases h
        have := hexL_half r u hr
        simp only [List.length_cons]
        omega
theorem hexE_ok {s : List UInt8} {t : Th} (hs : s.length ≤ 4096) (h : hexE' s = .ok t) : t.Ok := by
  unfold hexE' at h
  cases hx : hexL s with
  | none => rw [hx] at h; cases h
  | some u =>
    rw [hx] at h
    cases h
    have := hexL_half s u hx
    show u.length ≤ 4096
    omega
theorem ownV_ok {x : Rn} {ts : List Th} {t : Th} (hn : x.num < 18446744073709551616) (ht : ∀ a ∈ ts, a.Ok) (h : ownV x ts = .ok t) : t.Ok := by
  unfold ownV at h
  split at h
  · cases h; exact ⟨by omega, by omega⟩
  split at h
  · exact textE_ok h
  split at h
  · cases h; trivial
  split at h
  · cases h; trivial
  split at h
  · split at h
    · exact textE_ok h
    · cases h
  split at h
  · rename_i a
    have ha := ht a (.head _)
    split at h
    · split at h
      · exact numE_ok h
      · cases h
    split at h
    · split at h
      · rename_i s; cases h; have : s.length ≤ 4096 := ha; exact ⟨by omega, by omega⟩
      · rename_i s; cases h; have : s.length ≤ 4096 := ha; exact ⟨by omega, by omega⟩
      · cases h
    · split at h
      · rename_i s; exact hexE_ok ha h
      · cases h
  · split at h
    · split at h
      · exact repE_ok h
      · cases h
    · split at h
      · exact numE_ok h
      · split at h
        · exact textE_ok h
        · cases h
      · cases h
  · cases h
theorem collect_mem : ∀ {rs : List Res} {ts : List Th}, collect rs = .ok ts → rs = ts.map .ok
  | [], ts, h => by cases h; rfl
  | .error e :: r, ts, h => by cases h
  | .ok t :: r, ts, h => by
    unfold collect at h
    cases hr : collect r with
    | error e => rw [hr] at h; cases h
    | ok us =>
      rw [hr] at h
      cases h
      rw [collect_mem hr]
      rfl
/-- whatever stands anywhere is small -/
theorem vals_ok {N : List Rn} (hN : ∀ y ∈ N, y.num < 18446744073709551616) : ∀ (i : Nat), ∀ t, Except.ok t ∈ valsP N i → t.Ok
  | 0, t, h => by cases h
  | i + 1, t, h => by
    have ih := vals_ok hN i
    unfold valsP at h
    split at h
    · cases h
    · rename_i x hx
      split at h
      · cases h
      · rename_i k ha
        rcases List.mem_cons.1 h with h | h
        · unfold combR at h
          cases hc : collect ((valsP N i).take k).reverse with
          | error e => rw [hc] at h; cases h
          | ok ts =>
            rw [hc] at h
            dsimp only at h
            cases ho : ownV x ts with
            | error e => rw [ho] at h; cases h
            | ok u =>
              rw [ho] at h
              cases h
              refine ownV_ok (hN x (List.mem_of_getElem? hx)) (fun a ha => ?_) ho
              have hm := collect_mem hc
              have : Except.ok a ∈ ((valsP N i).take k).reverse := by rw [hm]; exact List.mem_map_of_mem ha
              exact ih a (List.mem_of_mem_take (List.mem_reverse.1 this))
        · exact ih t (List.mem_of_mem_drop h)
theorem res_ok {N : List Rn} (hN : ∀ y ∈ N, y.num < 18446744073709551616) {j : Nat} {t : Th} (h : resAt N j = .ok t) : t.Ok := by
  unfold resAt at h
  cases hv : valsP N (j + 1) with
  | nil => rw [hv] at h; cases h
  | cons r l =>
    rw [hv] at h
    refine vals_ok hN (j + 1) t ?_
    rw [hv, ← h]
    exact .head _
end Go.Proofs.YtmbiompmhaiehaaDoor
