/- What stands while conversions run: the kinds' variables, the library's table of tens and its error, Base. No walk here. -/
import Derived.Test.YtijgcfnjbfaelaaDoorKindMem
import Derived.Test.YtijgcfnjbfaelaaDoorConvPure
import Derived.Lib.ItoaMem
import Derived.Lib.AppendIntMem
import Derived.Lib.ParseIntB
import Derived.Shelf.Unicode.PredsPay
namespace Go.Proofs.YtijgcfnjbfaelaaDoor
open Go.RowKit

/-- the library's variables that conversions reach, and Base, as they were laid -/
structure CVars (w : World) : Prop where
  p10 : Lib.TabIs Tryd.prog w "internal/strconv.uint64pow10" .u64 Lib.pow10Tab
  er : ∃ te pe, w.cell? ⟨11, 0, none⟩ = some (.iface te pe)
  bs : w.cell? ⟨5, 0, none⟩ = some (.int .i64 5)
theorem CVars.below {w w' : World} (h : CVars w) (hb : Below w.heap.size w w') : CVars w' := by
  have k := (Below.cells hb).1
  obtain ⟨te, pe, he⟩ := h.er
  exact ⟨TabIs_below (g := 9) (by kernel_rfl) h.p10 hb, ⟨te, pe, (k _ _ (World.block_lt_of_cell? w ⟨_, _, none⟩ he)).trans he⟩, (k _ _ (World.block_lt_of_cell? w ⟨_, _, none⟩ h.bs)).trans h.bs⟩

/-- what stood when the call began stands; all that was laid is as it was laid -/
structure CSt (w0 w : World) : Prop where
  k : KSt w0 w
  v : CVars w
section
variable {w0 w w' : World}
theorem CSt.then_ (h : CSt w0 w) (hb : Below w.heap.size w w') : CSt w0 w' := ⟨h.k.then_ hb, h.v.below hb⟩
theorem CSt.self (h : CSt w0 w) : CSt w w := ⟨h.k.self, h.v⟩
theorem CSt.below (h : CSt w0 w) : Below w0.heap.size w0 w := h.k.below
theorem CSt.new (h : CSt w0 w) (o : Obj) : CSt w0 (w.alloc o) := h.then_ ((Below.refl _ _).alloc (Nat.le_refl _) _)
theorem CSt.newN (h : CSt w0 w) (n : Nat) : CSt w0 (w.drewN n) := h.then_ (Below.newN w n)
theorem CSt.drew (h : CSt w0 w) : CSt w0 w.drew := h.then_ (Below.thenN (Below.refl _ _) 1)
end

/-- the library's words for digits are ours -/
theorem dec_dg (n : Nat) : Lib.decDigits n = dg n := by
  induction n using Nat.strongRecOn with
  | _ n ih =>
    by_cases h : n < 10
    · rw [Lib.decDigits, dif_pos h, dg_small h]
    · rw [Lib.decDigits, dif_neg h, dg_big h, ih (n / 10) (by omega)]
theorem itoa_up (n : Nat) : Lib.itoa (n : Int) = dg n := by rw [Lib.itoa_nonneg, dec_dg]
theorem itoa_low {n : Nat} (h : 1 ≤ n) : Lib.itoa (-(n : Int)) = 45 :: dg n := by rw [Lib.itoa_neg n h, dec_dg]

/-- what the library makes of digits alone -/
theorem parse_from (l : List UInt8) : ∀ acc : Nat, acc ≤ 18446744073709551615 → allD l = true →
    Lib.parseUintM 18446744073709551615 acc l = if l.foldl (fun a b => a * 10 + (b.toNat - 48)) acc ≤ 18446744073709551615 then .ok (l.foldl (fun a b => a * 10 + (b.toNat - 48)) acc) else .range := by
  have up : ∀ (t : List UInt8) (a : Nat), a ≤ t.foldl (fun a b => a * 10 + (b.toNat - 48)) a := by
    intro t
    induction t with
    | nil => intro a; exact Nat.le_refl _
    | cons b t ih => intro a; rw [List.foldl_cons]; have := ih (a * 10 + (b.toNat - 48)); omega
  induction l with
  | nil => intro acc ha _; rw [List.foldl_nil, if_pos ha]; rfl
  | cons c r ih =>
    intro acc ha hd
    have hc : 48 ≤ c.toNat ∧ c.toNat ≤ 57 ∧ allD r = true := by
      simp only [allD, isD, List.all_cons, Bool.and_eq_true, decide_eq_true_eq] at hd
      exact ⟨hd.1.1, hd.1.2, hd.2⟩
    rw [List.foldl_cons, Lib.parseUintM, if_pos ⟨hc.1, hc.2.1⟩]
    have := up r (acc * 10 + (c.toNat - 48))
    by_cases h1 : 1844674407370955162 ≤ acc
    · rw [if_pos h1, if_neg (by omega)]
    · rw [if_neg h1]
      by_cases h2 : 18446744073709551615 < acc * 10 + (c.toNat - 48)
      · rw [if_pos h2, if_neg (by omega)]
      · rw [if_neg h2, ih _ (by omega) hc.2.2]
theorem parse_dig {l : List UInt8} (h : l ≠ []) (hd : allD l = true) : Lib.parseUintB 64 l = if dva l ≤ 18446744073709551615 then .ok (dva l) else .range := by
  unfold Lib.parseUintB
  rw [if_neg h]
  exact parse_from l 0 (by decide) hd
end Go.Proofs.YtijgcfnjbfaelaaDoor
