/- The arguments opened: rows of bytes and of numbers that came in. -/
import Derived.Test.YtbngelinfpaefaaGreatDoorParGa
import Derived.ProofKit
import Derived.OpenShut
import Derived.ShutString
import Derived.ChangeSlices
import Derived.ChangeSame
import Derived.SizedLaws
namespace Go.Proofs.YtbngelinfpaefaaGreatDoor
open Go.ChangeShapes Go.WideShapes Go.RowKit

/-- At the address A stand the numbers zs, below block B. -/
def Nums (k : IntKind) (w : World) (B : Nat) (A : Option Addr) (zs : List Int) : Prop :=
  zs = [] ∨ ∃ b o, A = some ⟨b, o, none⟩ ∧ b < B ∧ ∀ j (h : j < zs.length), w.cell? ⟨b, o + j, none⟩ = some (.int k zs[j])

section
variable {k : IntKind} {w w' : World} {B B' : Nat} {A : Option Addr} {zs : List Int}
theorem Nums.at_ (h : Nums k w B A zs) (hl : 0 < zs.length) : ∃ b o, A = some ⟨b, o, none⟩ ∧ b < B ∧ ∀ j (h : j < zs.length), w.cell? ⟨b, o + j, none⟩ = some (.int k zs[j]) := by
  rcases h with rfl | h
  · simp at hl
  · exact h
theorem Nums.keep (h : Nums k w B A zs) (hk : ∀ b o, b < B → w'.cell? ⟨b, o, none⟩ = w.cell? ⟨b, o, none⟩) : Nums k w' B A zs := by
  rcases h with rfl | ⟨b, o, rfl, hb, hc⟩
  · exact .inl rfl
  · exact .inr ⟨b, o, rfl, hb, fun j hj => (hk b _ hb).trans (hc j hj)⟩
theorem Nums.below (h : Nums k w B A zs) (hb : Below B w w') : Nums k w' B A zs := h.keep fun _ _ hp => hb.cell hp
end

section
variable {H : Type} {enc : TypeId × Value → H} {P : Program} {W : World}
/-- what is the greatest reach of an argument -/
def reach (d : DataW H) : Nat := match d with
  | .slice e s => e.length + s.length
  | _ => 0

theorem open_nums {t e : TypeId} {k : IntKind} {base : Nat} {v : Value} {d : DataW H} {p : List MemPlace} (ht : P.underlying t = some (.slice e)) (he : P.underlying e = some (.int k)) (hc : P.cellsOf e = 1)
    (hval : Value.okWide P W .any base t v) (h : DataW.Trod enc P W 0 (fun _ => true) true t v d p) :
    ∃ A c zs, v = .slice A zs.length c ∧ zs.length ≤ c ∧ c ≤ maxLen ∧ Nums k W W.heap.size A zs ∧ (∀ n ∈ zs, (Lit.int k n).wf = true) ∧ reach d = c ∧ (d = .nil → c = 0) ∧ (0 < c → ∃ x y, d = .slice x y) := by
  obtain ⟨a1, len, cap, rfl⟩ := okWide_slice ht hval
  obtain ⟨fuel, hf⟩ := h
  rcases open_ints ht he hc hf with ⟨hcs, hx⟩ | ⟨a, len', cap', zs, hcs, _, hl, hm, hz, hx, hcell, hwf⟩
  · simp [Value.cells] at hcs
    obtain ⟨rfl, rfl, rfl⟩ := hcs
    simp only [Prod.mk.injEq] at hx
    obtain ⟨rfl, rfl⟩ := hx
    exact ⟨none, 0, [], rfl, Nat.le_refl _, Nat.zero_le _, .inl rfl, by simp, rfl, fun _ => rfl, fun h => absurd h (by omega)⟩
  · simp [Value.cells] at hcs
    obtain ⟨rfl, rfl, rfl⟩ := hcs
    simp only [Prod.mk.injEq] at hx
    obtain ⟨rfl, rfl⟩ := hx
    simp only [if_true] at hz
    have hlen : (zs.take len).length = len := by simp; omega
    refine ⟨some a, cap, zs.take len, by rw [hlen], by omega, hm, ?_, fun n hn => hwf n (List.mem_of_mem_take hn), by simp [reach, lits]; omega, (by rintro ⟨⟩), fun _ => ⟨_, _, rfl⟩⟩
    rcases Nat.eq_zero_or_pos len with h0 | h0
    · exact .inl (List.eq_nil_of_length_eq_zero (by omega))
    · obtain ⟨ab, ao, spot⟩ := a
      have hspot : spot = none := by simpa [Addr.add] using World.cell?_spot (hcell 0 (by omega))
      subst hspot
      have hb : ab < W.heap.size := by
        have := World.block_lt_of_cell? W _ (hcell 0 (by omega))
        rwa [Addr.add_lit] at this
      refine .inr ⟨ab, ao, rfl, hb, fun j hj => ?_⟩
      have hcj := hcell j (by omega)
      rw [Addr.add_lit] at hcj
      rw [hcj]
      simp [List.getD, List.getElem?_eq_getElem (show j < zs.length by omega)]

theorem of_wf8 {n : Int} (h : (Lit.int .u8 n).wf = true) : 0 ≤ n ∧ n ≤ 255 := by
  have := range_u8 (zs := [n]) (by simpa using h) 0
  simpa using this
theorem of_wf64 {n : Int} (h : (Lit.int .u64 n).wf = true) : 0 ≤ n ∧ n ≤ 18446744073709551615 := by
  have := range_u64 (zs := [n]) (by simpa using h) 0
  simpa using this

theorem open_byts {t e : TypeId} {base : Nat} {v : Value} {d : DataW H} {p : List MemPlace} (ht : P.underlying t = some (.slice e)) (he : P.underlying e = some (.int .u8)) (hc : P.cellsOf e = 1)
    (hval : Value.okWide P W .any base t v) (h : DataW.Trod enc P W 0 (fun _ => true) true t v d p) :
    ∃ A c l, v = .slice A (List.length l) c ∧ l.length ≤ c ∧ c ≤ maxLen ∧ Byt W W.heap.size A l ∧ reach d = c ∧ (0 < c → ∃ x y, d = .slice x y) := by
  obtain ⟨A, c, zs, rfl, h1, h2, h3, h4, h5, h6, h7⟩ := open_nums ht he hc hval h
  refine ⟨A, c, zs.map fun n => UInt8.ofNat n.toNat, by rw [List.length_map], by rw [List.length_map]; exact h1, h2, ?_, h5, h7⟩
  rcases h3 with rfl | ⟨b, o, rfl, hb, hcell⟩
  · exact .inl rfl
  · refine .inr ⟨b, o, rfl, hb, fun j hj => ?_⟩
    simp only [List.length_map] at hj
    rw [hcell j hj]
    have := of_wf8 (h4 zs[j] (List.getElem_mem hj))
    simp only [List.getElem_map, UInt8.toNat_ofNat', Option.some.injEq, Value.int.injEq, true_and]
    omega

/-- a slice of uint64 that came in -/
def U64s (w : World) (B : Nat) (A : Option Addr) (l : List Nat) : Prop :=
  l = [] ∨ ∃ b o, A = some ⟨b, o, none⟩ ∧ b < B ∧ ∀ j (h : j < l.length), w.cell? ⟨b, o + j, none⟩ = some (.int .u64 (l[j] : Nat))
theorem U64s.at_ {w : World} {B : Nat} {A : Option Addr} {l : List Nat} (h : U64s w B A l) (hl : 0 < l.length) : ∃ b o, A = some ⟨b, o, none⟩ ∧ b < B ∧ ∀ j (h : j < l.length), w.cell? ⟨b, o + j, none⟩ = some (.int .u64 (l[j] : Nat)) := by
  rcases h with rfl | h
  · simp at hl
  · exact h
theorem U64s.below {w w' : World} {B : Nat} {A : Option Addr} {l : List Nat} (h : U64s w B A l) (hb : Below B w w') : U64s w' B A l := by
  rcases h with rfl | ⟨b, o, rfl, hB, hc⟩
  · exact .inl rfl
  · exact .inr ⟨b, o, rfl, hB, fun j hj => (hb.cell (p := ⟨b, _, none⟩) hB).trans (hc j hj)⟩

theorem open_u64s {t e : TypeId} {base : Nat} {v : Value} {d : DataW H} {p : List MemPlace} (ht : P.underlying t = some (.slice e)) (he : P.underlying e = some (.int .u64)) (hc : P.cellsOf e = 1)
    (hval : Value.okWide P W .any base t v) (h : DataW.Trod enc P W 0 (fun _ => true) true t v d p) :
    ∃ A c l, v = .slice A (List.length l) c ∧ l.length ≤ c ∧ c ≤ maxLen ∧ U64s W W.heap.size A l ∧ (∀ n ∈ l, n ≤ 18446744073709551615) ∧ reach d = c ∧ (0 < c → ∃ x y, d = .slice x y) := by
  obtain ⟨A, c, zs, rfl, h1, h2, h3, h4, h5, h6, h7⟩ := open_nums ht he hc hval h
  refine ⟨A, c, zs.map fun n => n.toNat, by rw [List.length_map], by rw [List.length_map]; exact h1, h2, ?_, ?_, h5, h7⟩
  · rcases h3 with rfl | ⟨b, o, rfl, hb, hcell⟩
    · exact .inl rfl
    · refine .inr ⟨b, o, rfl, hb, fun j hj => ?_⟩
      simp only [List.length_map] at hj
      rw [hcell j hj]
      have := of_wf64 (h4 zs[j] (List.getElem_mem hj))
      simp only [List.getElem_map, Option.some.injEq, Value.int.injEq, true_and]
      omega
  · intro n hn
    obtain ⟨z, hz, rfl⟩ := List.mem_map.1 hn
    have := of_wf64 (h4 z hz)
    omega

theorem sized_reach {ts : List TypeId} {ds : List (DataW H)} (hsz : (DataW.weightsEach P ts ds).all (· ≤ reachBytes) = true) {j c : Nat} {t e : TypeId} {d : DataW H} (ht : ts[j]? = some t) (hd : ds[j]? = some d) (hu : P.underlying t = some (.slice e))
    (h : reach d = c) (h2 : 0 < c → ∃ x y, d = .slice x y) : c * P.bytesOf e ≤ 140737488351232 := by
  rcases Nat.eq_zero_or_pos c with h0 | h0
  · rw [h0, Nat.zero_mul]; omega
  · obtain ⟨x, y, rfl⟩ := h2 h0
    have := sized_slice hsz ht hd hu
    rw [← h]
    exact this

end
end Go.Proofs.YtbngelinfpaefaaGreatDoor
