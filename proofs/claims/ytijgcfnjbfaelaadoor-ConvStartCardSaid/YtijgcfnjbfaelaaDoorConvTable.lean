/- The walks of Names, of the statement's question whether a list is the table, and of start. -/
import Derived.Test.YtijgcfnjbfaelaaDoorConvEnt
import Derived.Test.YtijgcfnjbfaelaaDoorConvAwake
import Derived.Deep.QuietTactic
import Derived.BigQuiet
namespace Go.Proofs.YtijgcfnjbfaelaaDoor
open Go.RowKit

/-- the names in memory of their own -/
def NamesIs (w : World) (e : Ending) (w' : World) : Prop := ∃ g, e = .returned (.slice (some ⟨g, 0, none⟩) 12 12) ∧ w.heap.size ≤ g ∧ g < w'.heap.size ∧ (∀ k : Nat, k < 12 → w'.cell? ⟨g, k, none⟩ = some (.string (cnm ((k : Int) + 1)))) ∧ Below w.heap.size w w'
def namC : Array Value := #[.string ⟨#[117, 105, 110, 116, 45, 105, 110, 116]⟩, .string ⟨#[105, 110, 116, 45, 117, 105, 110, 116]⟩, .string ⟨#[117, 105, 110, 116, 45, 116, 101, 120, 116]⟩, .string ⟨#[105, 110, 116, 45, 116, 101, 120, 116]⟩, .string ⟨#[116, 101, 120, 116, 45, 117, 105, 110, 116]⟩, .string ⟨#[116, 101, 120, 116, 45, 105, 110, 116]⟩, .string ⟨#[98, 111, 111, 108, 45, 116, 101, 120, 116]⟩, .string ⟨#[116, 101, 120, 116, 45, 98, 111, 111, 108]⟩, .string ⟨#[98, 111, 111, 108, 45, 117, 105, 110, 116]⟩, .string ⟨#[117, 105, 110, 116, 45, 98, 111, 111, 108]⟩, .string ⟨#[116, 101, 120, 116, 45, 98, 121, 116, 101, 115]⟩, .string ⟨#[98, 121, 116, 101, 115, 45, 116, 101, 120, 116]⟩]
theorem nam_get (k : Nat) (h : k < 12) : namC[k]? = some (.string (cnm ((k : Int) + 1))) := by
  have q : k = 0 ∨ k = 1 ∨ k = 2 ∨ k = 3 ∨ k = 4 ∨ k = 5 ∨ k = 6 ∨ k = 7 ∨ k = 8 ∨ k = 9 ∨ k = 10 ∨ k = 11 := by omega
  rcases q with rfl | rfl | rfl | rfl | rfl | rfl | rfl | rfl | rfl | rfl | rfl | rfl <;> rfl
set_option maxRecDepth 100000 in
theorem names_any (w : World) : Calls Tryd.prog 40 #[] w (NamesIs w) := by
  go_enter Tryd.func40, Tryd.ntmps40
  go_wp2
  go_ret
  refine ⟨w.heap.size, rfl, Nat.le_refl _, by simp, fun k hk => ?_, (Below.refl _ _).alloc (Nat.le_refl _) _⟩
  rw [← nam_get k hk]
  exact cell_of_row _ w.heap.size k namC 9 (0, 0) (heap_alloc_new w _)

set_option maxRecDepth 100000 in
set_option maxHeartbeats 4000000 in
theorem table_any {w : World} (h : CSt w w) (g c : Nat) (hE : ERow w g 0 (entK 12)) (hg : g < w.heap.size) :
    Calls Tryd.prog 27 #[.slice (some ⟨g, 0, none⟩) 12 c] w fun e w' => e = .returned (.bool true) ∧ Below w.heap.size w w' := by
  have HE := Lib.hid hE
  have HK := Lib.hid h
  clear hE h
  go_enter Tryd.func27, Tryd.ntmps27
  go_wp2_with fail
  refine (names_any w).mono ?_
  rintro e w1 ⟨gN, rfl, hN1, hN2, hNC, b1⟩
  have k1 := HK.out.then_ b1
  have e1 := HE.out.below hg b1
  have hg1 : g < w1.heap.size := Nat.lt_of_lt_of_le hg b1.size
  have HC := Lib.hid hNC
  have HE1 := Lib.hid e1
  have HK1 := Lib.hid k1.self
  have HB1 := Lib.hid b1
  clear hNC e1 k1 b1
  go_wp2_with fail
  go_loopw [4] (fun i wr => ∃ k : Nat, i = .int .i64 k ∧ k ≤ 12 ∧ Below w1.heap.size w1 wr) (fun i _ => 12 - (intOf i).toNat)
  case atStart => exact ⟨0, rfl, by omega, Below.refl _ _⟩
  case round =>
    obtain ⟨k, rfl, hk, hb⟩ := hrel
    by_cases hlt : k < 12
    · have hltz : (k : Int) < 12 := by omega
      have k0' : (0 : Int) ≤ (k : Int) := by omega
      obtain ⟨x0, x1, x2, x3⟩ := HE1.out k _ (entK_get hlt)
      have y0 := HC.out k hlt
      have hkb := kinds_lt ((k : Int) + 1)
      have hcn : cnm ((k : Int) + 1) = ⟨(nameL (cfr ((k : Int) + 1))).toArray⟩ ++ ⟨#[45]⟩ ++ ⟨(nameL (cto ((k : Int) + 1))).toArray⟩ := rfl
      dsimp only [entN] at x0 x1 x2 x3
      rw [hcn] at x2 y0
      rw [Nat.zero_add] at x0 x1 x2 x3
      have cF := fun {W : World} (q : Below w1.heap.size w1 W) => (cfrom_any (HK1.out.then_ q) ((k : Int) + 1)).mono fun _ _ ⟨he, hb⟩ => And.intro he (Below.both q hb)
      have cT := fun {W : World} (q : Below w1.heap.size w1 W) => (cto_any (HK1.out.then_ q) ((k : Int) + 1)).mono fun _ _ ⟨he, hb⟩ => And.intro he (Below.both q hb)
      obtain ⟨F, hF⟩ : ∃ F, cfr ((k : Int) + 1) = F := ⟨_, rfl⟩
      obtain ⟨T, hT⟩ : ∃ T, cto ((k : Int) + 1) = T := ⟨_, rfl⟩
      have nF := fun {W : World} (q : Below w1.heap.size w1 W) => (name_any W F).mono fun _ _ ⟨he, hb⟩ => And.intro he (Below.both q hb)
      have nT := fun {W : World} (q : Below w1.heap.size w1 W) => (name_any W T).mono fun _ _ ⟨he, hb⟩ => And.intro he (Below.both q hb)
      obtain ⟨A, hA⟩ : ∃ A : ByteArray, (⟨(nameL F).toArray⟩ : ByteArray) = A := ⟨_, rfl⟩
      obtain ⟨B, hB⟩ : ∃ B : ByteArray, (⟨(nameL T).toArray⟩ : ByteArray) = B := ⟨_, rfl⟩
      rw [hF, hT] at hkb x2 x3 y0
      rw [hA, hB] at x2 y0
      simp only [hF] at cF
      simp only [hT] at cT
      simp only [hA] at nF
      simp only [hB] at nT
      obtain ⟨b1, b2, b3, b4⟩ := hkb
      have sA : A.size ≤ 5 := hA ▸ name_len F
      have sB : B.size ≤ 5 := hB ▸ name_len T
      have v1 : IntKind.i64.wrap ((k : Int) + 1) = (k : Int) + 1 := by rw [IntKind.wrap_i64]; omega
      have v2 : IntKind.i64.wrap (8 * F) = 8 * F := by rw [IntKind.wrap_i64]; omega
      have v3 : IntKind.i64.wrap (8 * F + T) = 8 * F + T := by rw [IntKind.wrap_i64]; omega
      have n1 : ¬ 9223372036854775807 < A.size + 1 := by omega
      have n2 : ¬ 9223372036854775807 < A.size + 1 + B.size := by omega
      have HX : Hid (∀ W, Below w1.heap.size w1 W → W.cell? ⟨g, k * 4, none⟩ = some (.int .i64 2) ∧ W.cell? ⟨g, k * 4 + 1, none⟩ = some (.int .i64 ((k : Int) + 1)) ∧ W.cell? ⟨g, k * 4 + 2, none⟩ = some (.string (A ++ ⟨#[45]⟩ ++ B)) ∧ W.cell? ⟨g, k * 4 + 3, none⟩ = some (.int .i64 (8 * F + T)) ∧ W.cell? ⟨gN, k, none⟩ = some (.string (A ++ ⟨#[45]⟩ ++ B))) := fun W hW =>
        ⟨((Below.cells hW).1 _ _ hg1).trans x0, ((Below.cells hW).1 _ _ hg1).trans x1, ((Below.cells hW).1 _ _ hg1).trans x2, ((Below.cells hW).1 _ _ hg1).trans x3, ((Below.cells hW).1 _ _ hN2).trans y0⟩
      clear x0 x1 x2 x3 y0 hF hT hA hB hcn
      go_wp2_with (first
        | (go_at_call 15; refine (cF hb).mono ?_; rintro e w2 ⟨rfl, hb2⟩)
        | (go_at_call 17; refine (cT hb2).mono ?_; rintro e w3 ⟨rfl, hb3⟩; obtain ⟨x0, x1, x2, x3, y0⟩ := HX.out _ hb3))
      go_quiet (fail)
      have hb4 := fun n => Below.thenN hb3 n
      go_wp2_with (first
        | (go_at_call 15; refine (cF (hb4 _)).mono ?_; rintro e w5 ⟨rfl, hb5⟩)
        | (go_at_call 41; with_reducible refine (nF hb5).mono ?_; rintro e w6 ⟨rfl, hb6⟩)
        | (go_at_call 17; refine (cT hb6).mono ?_; rintro e w7 ⟨rfl, hb7⟩)
        | (go_at_call 41; with_reducible refine (nT hb7).mono ?_; rintro e w8 ⟨rfl, hb8⟩; obtain ⟨x0, x1, x2, x3, y0⟩ := HX.out _ hb8))
      go_roundw
      case rel => exact ⟨k + 1, by go_num, by omega, hb8⟩
      case measure => simp [intOf]; omega
    · go_wp2
      go_ret
      exact ⟨rfl, HB1.out.trans (hb.mono HB1.out.size)⟩
end Go.Proofs.YtijgcfnjbfaelaaDoor
