/- The walk of awake: fixed answers of Value and of Schema. -/
import Derived.Test.YtipcgmaobiobbaaGreatDoorPrSch
namespace Go.Proofs.YtipcgmaobiobbaaGreatDoor
open Go.RowKit

/-- rows just laid -/
theorem rows_new {α : Type} {f : α → Array Value} {s : Nat} (hs : ∀ x, (f x).size = s) (w : World) (cs : Array Value) (T : TypeId) (l : List α) (h : cs.toList = flatR f l) : Rows f s (w.alloc (.cells cs T)) (w.heap.size + 1) (some ⟨w.heap.size, 0, none⟩) l := by
  refine .inr ⟨w.heap.size, 0, rfl, Nat.lt_succ_self _, fun i x hx j v hv => ?_⟩
  have hj : j < s := by rw [← hs x]; exact (Array.getElem?_eq_some_iff.1 hv).1
  rw [(CB.new w T cs).at_, Nat.zero_add, ← Array.getElem?_toList, h, flatR_at hs l i x hx j hj]
  exact hv
def awN : List Rn := [⟨1, 0, 1, [], 0⟩, ⟨1, 0, 2, [], 0⟩, ⟨1, 0, 3, [], 0⟩, ⟨5, 0, 0, [], 0⟩, ⟨8, 0, 0, [], 0⟩, ⟨6, 0, 0, [], 0⟩]
theorem aw_few : Few awN := by
  refine ⟨by decide, fun x hx => ?_, fun x hx => ?_⟩
  · simp only [awN, List.mem_cons, List.not_mem_nil, or_false] at hx
    rcases hx with rfl | rfl | rfl | rfl | rfl | rfl <;> decide
  · simp only [awN, List.mem_cons, List.not_mem_nil, or_false] at hx
    rcases hx with rfl | rfl | rfl | rfl | rfl | rfl <;> decide
theorem aw_value : valP awN = ([40, 49, 32, 43, 32, 40, 50, 32, 42, 32, 45, 51, 41, 41], 0) := by decide +kernel
def awT : List UInt8 := [101, 118, 101, 110, 116, 32, 101, 32, 123, 10, 32, 32, 118, 101, 114, 115, 105, 111, 110, 32, 49, 32, 123, 10, 32, 32, 32, 32, 97, 100, 100, 32, 97, 58, 32, 105, 110, 116, 59, 10, 32, 32, 125, 10, 32, 32, 118, 101, 114, 115, 105, 111, 110, 32, 50, 32, 123, 10, 32, 32, 125, 10, 125, 10]
def awS : Rs := ⟨1, [97], [], [], [], [105, 110, 116], [], 0⟩
def awE (A B : Option Addr) : Me := ⟨[101], [⟨1, [⟨awS, none, 0⟩], B, 1, 0⟩, ⟨2, [], none, 0, 0⟩], A, 2, 0⟩
theorem aw_schema : schP [⟨[101], [⟨1, [awS], 0⟩, ⟨2, [], 0⟩], 0⟩] = (awT, 0) := by decide +kernel

set_option maxRecDepth 100000 in
set_option maxHeartbeats 4000000 in
theorem psum_any (w : World) : Calls Tryz.prog 12 #[] w fun e w' => ∃ g, e = .returned (.slice (some ⟨g, 0, none⟩) 6 6) ∧ Below w.heap.size w w' ∧ Hid (RN w' w'.heap.size (some ⟨g, 0, none⟩) awN) := by
  have H := Lib.hid (rows_new (f := rnC) (s := 5) (fun _ => rfl) w #[.int .i64 1, .int .i64 0, .int .u64 1, .string ⟨#[]⟩, .int .i64 0, .int .i64 1, .int .i64 0, .int .u64 2, .string ⟨#[]⟩, .int .i64 0, .int .i64 1, .int .i64 0, .int .u64 3, .string ⟨#[]⟩, .int .i64 0, .int .i64 5, .int .i64 0, .int .u64 0, .string ⟨#[]⟩, .int .i64 0, .int .i64 8, .int .i64 0, .int .u64 0, .string ⟨#[]⟩, .int .i64 0, .int .i64 6, .int .i64 0, .int .u64 0, .string ⟨#[]⟩, .int .i64 0] 64 awN rfl)
  go_enter Tryz.func12, Tryz.ntmps12
  go_wp2
  go_ret
  exact ⟨_, rfl, (Below.refl _ w).alloc (Nat.le_refl _) _, Lib.hid (H.out.more (by simp))⟩

set_option maxRecDepth 100000 in
set_option maxHeartbeats 4000000 in
theorem pawake_any (w : World) (hT : Ten w w.heap.size) : Calls Tryz.prog 5 #[] w fun e w' => e = .returned (.bool true) ∧ Below w.heap.size w w' := by
  have cs := psum_any w
  have CV : Hid (∀ w1 g, Below w.heap.size w w1 → RN w1 w1.heap.size (some ⟨g, 0, none⟩) awN → Calls Tryz.prog 9 #[.slice (some ⟨g, 0, none⟩) 6 6] w1 fun e w2 => e = .returned (.tuple #[.string ⟨#[40, 49, 32, 43, 32, 40, 50, 32, 42, 32, 45, 51, 41, 41]⟩, .int .i64 0]) ∧ Hid (Below w.heap.size w w2)) := by
    intro w1 g hb hr
    refine (pvalue_any (c := 6) hr ((hT.below hb).more hb.size) aw_few).mono ?_
    rintro e w2 ⟨rfl, hb2⟩
    rw [aw_value]
    exact ⟨rfl, hb.trans (hb2.mono hb.size)⟩
  have CS : Hid (∀ w2, Below w.heap.size w w2 → Calls Tryz.prog 6 #[.agg #[.slice (some ⟨w2.heap.size + 1 + 1, 0, none⟩) 1 1]]
      (((w2.alloc (.cells #[.int .i64 1, .string ⟨#[97]⟩, .string ⟨#[]⟩, .string ⟨#[]⟩, .string ⟨#[]⟩, .string ⟨#[105, 110, 116]⟩, .slice none 0 0, .int .i64 0] 42)).alloc
        (.cells #[.int .u64 1, .slice (some ⟨w2.heap.size, 0, none⟩) 1 1, .int .i64 0, .int .u64 2, .slice none 0 0, .int .i64 0] 45)).alloc (.cells #[.string ⟨#[101]⟩, .slice (some ⟨w2.heap.size + 1, 0, none⟩) 2 2, .int .i64 0] 48))
      fun e w' => e = .returned (.tuple #[.string ⟨#[101, 118, 101, 110, 116, 32, 101, 32, 123, 10, 32, 32, 118, 101, 114, 115, 105, 111, 110, 32, 49, 32, 123, 10, 32, 32, 32, 32, 97, 100, 100, 32, 97, 58, 32, 105, 110, 116, 59, 10, 32, 32, 125, 10, 32, 32, 118, 101, 114, 115, 105, 111, 110, 32, 50, 32, 123, 10, 32, 32, 125, 10, 125, 10]⟩, .int .i64 0]) ∧ Below w.heap.size w w') := by
    intro w2 hb
    obtain ⟨w3, h3⟩ : ∃ w3, w2.alloc (.cells #[.int .i64 1, .string ⟨#[97]⟩, .string ⟨#[]⟩, .string ⟨#[]⟩, .string ⟨#[]⟩, .string ⟨#[105, 110, 116]⟩, .slice none 0 0, .int .i64 0] 42) = w3 := ⟨_, rfl⟩
    have s3 : w3.heap.size = w2.heap.size + 1 := by rw [← h3]; simp
    have r3 := rows_new (f := Ms.C) (s := 8) (fun _ => rfl) w2 #[.int .i64 1, .string ⟨#[97]⟩, .string ⟨#[]⟩, .string ⟨#[]⟩, .string ⟨#[]⟩, .string ⟨#[105, 110, 116]⟩, .slice none 0 0, .int .i64 0] 42 [⟨awS, none, 0⟩] rfl
    have b3 : Below w2.heap.size w2 w3 := by rw [← h3]; exact (Below.refl _ w2).alloc (Nat.le_refl _) _
    rw [h3] at r3 ⊢
    rw [← s3] at r3 ⊢
    obtain ⟨w4, h4⟩ : ∃ w4, w3.alloc (.cells #[.int .u64 1, .slice (some ⟨w2.heap.size, 0, none⟩) 1 1, .int .i64 0, .int .u64 2, .slice none 0 0, .int .i64 0] 45) = w4 := ⟨_, rfl⟩
    have s4 : w4.heap.size = w3.heap.size + 1 := by rw [← h4]; simp
    have r4 := rows_new (f := Mv.C) (s := 3) (fun _ => rfl) w3 #[.int .u64 1, .slice (some ⟨w2.heap.size, 0, none⟩) 1 1, .int .i64 0, .int .u64 2, .slice none 0 0, .int .i64 0] 45 [⟨1, [⟨awS, none, 0⟩], some ⟨w2.heap.size, 0, none⟩, 1, 0⟩, ⟨2, [], none, 0, 0⟩] rfl
    have b4 : Below w3.heap.size w3 w4 := by rw [← h4]; exact (Below.refl _ w3).alloc (Nat.le_refl _) _
    rw [h4] at r4 ⊢
    rw [← s4] at r4 ⊢
    obtain ⟨w5, h5⟩ : ∃ w5, w4.alloc (.cells #[.string ⟨#[101]⟩, .slice (some ⟨w3.heap.size, 0, none⟩) 2 2, .int .i64 0] 48) = w5 := ⟨_, rfl⟩
    have s5 : w5.heap.size = w4.heap.size + 1 := by rw [← h5]; simp
    have r5 := rows_new (f := Me.C) (s := 3) (fun _ => rfl) w4 #[.string ⟨#[101]⟩, .slice (some ⟨w3.heap.size, 0, none⟩) 2 2, .int .i64 0] 48 [awE (some ⟨w3.heap.size, 0, none⟩) (some ⟨w2.heap.size, 0, none⟩)] rfl
    have b5 : Below w4.heap.size w4 w5 := by rw [← h5]; exact (Below.refl _ w4).alloc (Nat.le_refl _) _
    rw [h5] at r5 ⊢
    rw [← s5] at r5
    have b25 : Below w2.heap.size w2 w5 := (b3.trans (b4.mono (by omega))).trans (b5.mono (by omega))
    have r3' : Rows Ms.C 8 w5 w5.heap.size (some ⟨w2.heap.size, 0, none⟩) [⟨awS, none, 0⟩] := ((r3.below b4).more (by omega)).below b5 |>.more (by omega)
    have r4' : Rows Mv.C 3 w5 w5.heap.size (some ⟨w3.heap.size, 0, none⟩) [⟨1, [⟨awS, none, 0⟩], some ⟨w2.heap.size, 0, none⟩, 1, 0⟩, ⟨2, [], none, 0, 0⟩] := (r4.below b5).more (by omega)
    have hms : MsAt w5 w5.heap.size ⟨awS, none, 0⟩ := ⟨.inl rfl, ⟨by decide, by decide, by decide, by decide, by decide, ⟨by decide, nofun, nofun⟩⟩⟩
    have hmt : MtAt w5 w5.heap.size (some ⟨w4.heap.size, 0, none⟩) [awE (some ⟨w3.heap.size, 0, none⟩) (some ⟨w2.heap.size, 0, none⟩)] := by
      refine ⟨r5, fun x hx => ?_, (by show 1 ≤ 140737488355328; decide)⟩
      rw [List.mem_singleton] at hx
      subst hx
      refine ⟨r4', fun v hv => ?_, (by show 1 ≤ 140737488355328; decide), by show 2 ≤ 140737488355328; decide⟩
      have hv : v ∈ [(⟨1, [⟨awS, none, 0⟩], some ⟨w2.heap.size, 0, none⟩, 1, 0⟩ : Mv), ⟨2, [], none, 0, 0⟩] := hv
      simp only [List.mem_cons, List.not_mem_nil, or_false] at hv
      rcases hv with rfl | rfl
      · refine ⟨r3', fun s hs => ?_, by show 1 < 18446744073709551616; decide, (by show 1 ≤ 140737488355328; decide)⟩
        have hs : s ∈ [(⟨awS, none, 0⟩ : Ms)] := hs
        rw [List.mem_singleton] at hs
        subst hs
        exact hms
      · exact ⟨.inl rfl, nofun, by decide, by decide⟩
    have hb5 : Below w.heap.size w w5 := hb.trans (b25.mono hb.size)
    refine (pschema_any (c := 1) hmt ((hT.below hb5).more hb5.size)).mono ?_
    rintro e w6 ⟨rfl, hb6⟩
    have e0 : schP ([awE (some ⟨w3.heap.size, 0, none⟩) (some ⟨w2.heap.size, 0, none⟩)].map Me.e) = (awT, 0) := aw_schema
    rw [e0]
    exact ⟨rfl, hb5.trans (hb6.mono hb5.size)⟩
  go_enter Tryz.func5, Tryz.ntmps5
  go_wp2_with (first
    | (go_at_call 12; refine cs.mono ?_; rintro e w1 ⟨g, rfl, hb1, H1⟩; have cv := CV.out w1 g hb1 H1.out)
    | (go_at_call 9; refine cv.mono ?_; rintro e w2 ⟨rfl, H2⟩; have cz := CS.out w2 H2.out)
    | (go_at_call 6; (with_reducible refine cz.mono ?_); rintro e w6 ⟨rfl, H6⟩))
  go_ret
  exact ⟨rfl, H6⟩
end Go.Proofs.YtipcgmaobiobbaaGreatDoor
