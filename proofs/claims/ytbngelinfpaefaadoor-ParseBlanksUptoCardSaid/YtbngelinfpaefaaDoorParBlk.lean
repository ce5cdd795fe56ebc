/- The walks of blank, of moved and of spaced. -/
import Derived.Test.YtbngelinfpaefaaDoorParBlkP
import Derived.Deep.DeepCutAuto
import Derived.Deep.QuietTactic
import Derived.BigQuiet
import Derived.Deep.AppendLies
namespace Go.Proofs.YtbngelinfpaefaaDoor
open Go.RowKit

set_option maxRecDepth 100000 in
set_option maxHeartbeats 2000000 in
theorem cblank_any (w : World) (b : UInt8) : Calls Tryd.prog 36 #[.int .u8 (b.toNat : Nat)] w fun e w' => e = .returned (.string (gap8 b)) ∧ Below w.heap.size w w' := by
  obtain ⟨m, hm⟩ : ∃ m : Nat, m = b.toNat % 8 := ⟨_, rfl⟩
  have hm8 : m < 8 := by omega
  have hW := gap8_at b
  rw [← hm] at hW
  obtain ⟨g, hg⟩ : ∃ g, gap8 b = g := ⟨_, rfl⟩
  rw [hg] at hW ⊢
  have hk : ((b.toNat : Nat) : Int) % 8 = (m : Int) := by omega
  have hk0 : (0 : Int) ≤ ((b.toNat : Nat) : Int) := by omega
  have hk1 : ((b.toNat : Nat) : Int) < 256 := by have := b.toNat_lt; omega
  obtain ⟨x, hx⟩ : ∃ x : Int, x = ((b.toNat : Nat) : Int) := ⟨_, rfl⟩
  rw [← hx] at hk hk0 hk1
  rw [← hx]
  have m0 : (0 : Int) ≤ (m : Int) := by omega
  have m8 : (m : Int) < 8 := by omega
  have hel : ([.string ⟨#[32]⟩, .string ⟨#[10]⟩, .string ⟨#[9]⟩, .string ⟨#[13]⟩, .string ⟨#[35, 32, 125, 34, 10]⟩, .string ⟨#[32, 32]⟩, .string ⟨#[35, 10]⟩, .string ⟨#[32, 35, 120, 10, 32]⟩] : List Value)[m]'(by show m < 8; exact hm8) = Value.string g := by
    have h2 : (gpL.map fun b => Value.string b)[m]? = some (.string g) := by rw [List.getElem?_map, hW]; rfl
    exact (List.getElem?_eq_some_iff.1 h2).2
  clear hm hW hg hx
  go_enter Tryd.func36, Tryd.ntmps36
  go_wp2
  go_ret
  exact ⟨rfl, (Below.refl _ w).alloc (Nat.le_refl _) _⟩

/-- a row of places that is read -/
theorem int_at {w : World} {B : Nat} {A : Option Addr} {c : Nat} {l : List Nat} (h : Built IntLev w B A c l) {i p : Nat} (hp : l[i]? = some p) : ∃ g, A = some ⟨g, 0, none⟩ ∧ w.cell? ⟨g, i, none⟩ = some (.int .i64 (p : Nat)) := by
  obtain ⟨g, e, _, _, hc⟩ := own_cells (s := 1) (f := fun p : Nat => #[Value.int .i64 (p : Nat)]) (fun _ => rfl) h.own hp
  refine ⟨g, e, ?_⟩
  have := hc 0 _ rfl
  rwa [Nat.mul_one, Nat.add_zero] at this

set_option maxRecDepth 100000 in
set_option maxHeartbeats 2000000 in
theorem cmoved_any {w : World} {B : Nat} {A A2 : Option Addr} {c c2 : Nat} {T : List Tk} {pl : List Nat} {a a' : Nat} (ht : TRow w w.heap.size A T) (hi : Built IntLev w B A2 c2 pl) (hl : pl.length = T.length) (hTl : T.length ≤ 200000) {j : Nat} {x : Tk} (hx : T[j]? = some x) (hp : pl[j]? = some a') (ha : x.a = a) :
    Calls Tryd.prog 20 #[.slice A T.length c, .slice A2 pl.length c2, .int .i64 (a : Nat), .int .i64 (a' : Nat)] w fun e w' => e = .returned (.bool true) ∧ w = w' := by
  rw [hl]
  have hjl := (List.getElem?_eq_some_iff.1 hx).1
  have HT := Lib.hid ht
  have HI := Lib.hid hi
  have HL := Lib.hid hl
  have HX := Lib.hid hx
  have HP := Lib.hid hp
  have HA := Lib.hid ha
  clear ht hi hl hx hp ha
  go_enter Tryd.func20, Tryd.ntmps20
  go_wp2
  go_loopw [9] (fun i wr => Hid (w = wr) ∧ ∃ k : Nat, i = .int .i64 k ∧ k ≤ j) (fun i _ => T.length - (intOf i).toNat)
  case atStart => exact ⟨Lib.hid rfl, 0, rfl, Nat.zero_le _⟩
  case round =>
    obtain ⟨hw, k, rfl, hk⟩ := hrel
    obtain rfl := hw.out
    have hltz : (k : Int) < (T.length : Int) := by omega
    have k0 : (0 : Int) ≤ (k : Int) := by omega
    obtain ⟨y, hy⟩ : ∃ f, T[k]? = some f := ⟨T[k]'(by omega), List.getElem?_eq_getElem (by omega)⟩
    obtain ⟨p, hq⟩ : ∃ f, pl[k]? = some f := ⟨pl[k]'(by have := HL.out; omega), List.getElem?_eq_getElem (by have := HL.out; omega)⟩
    obtain ⟨g, o, rfl, _, _, _, _, c3, _⟩ := HT.out.at_ hy
    obtain ⟨g2, rfl, d0⟩ := int_at HI.out hq
    have HY := Lib.hid hy
    have HQ := Lib.hid hq
    clear hy hq
    by_cases h1 : y.a = a
    · have z1 : ((y.a : Int) == (a : Int)) = true := by rw [h1]; simp
      by_cases h2 : p = a'
      · have z2 : ((p : Int) == (a' : Int)) = true := by rw [h2]; simp
        clear h1 h2
        go_wp2
        go_ret
        exact ⟨rfl, rfl⟩
      · have z2 : ((p : Int) == (a' : Int)) = false := beq_eq_false_iff_ne.2 (by omega)
        have hkj : k < j := by
          rcases Nat.lt_or_ge k j with z | z
          · exact z
          · obtain rfl : k = j := by omega
            have := HQ.out
            rw [HP.out] at this
            exact absurd (Option.some.inj this).symm h2
        clear h1 h2
        go_wp2
        go_roundw
        case rel => exact ⟨Lib.hid trivial, k + 1, by go_num, by omega⟩
        case measure => simp [intOf]; omega
    · have z1 : ((y.a : Int) == (a : Int)) = false := beq_eq_false_iff_ne.2 (by omega)
      have hkj : k < j := by
        rcases Nat.lt_or_ge k j with z | z
        · exact z
        · obtain rfl : k = j := by omega
          have := HY.out
          rw [HX.out] at this
          rw [← Option.some.inj this] at h1
          exact absurd HA.out h1
      clear h1
      go_wp2
      go_roundw
      case rel => exact ⟨Lib.hid trivial, k + 1, by go_num, by omega⟩
      case measure => simp [intOf]; omega
end Go.Proofs.YtbngelinfpaefaaDoor
