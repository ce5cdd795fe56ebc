/- The walks of the reference: a text as an expression, as a schema. -/
import Derived.Test.YtbngelinfpaefaaGreatDoorParREv
import Derived.Test.YtbngelinfpaefaaGreatDoorParGj
namespace Go.Proofs.YtbngelinfpaefaaGreatDoor
open Go.RowKit

/-- the reference's parser just laid at a text's tokens -/
theorem rz_new {w w1 : World} {A : Option Addr} {c : Nat} {T : List Tk} (ht : TRow w w.heap.size A T) (hE : TkEnds T) (hp : 1 ≤ T.length) (hf : T.length ≤ 2000000) (hw : w1 = w.alloc (.cells #[.slice A T.length c, .int .i64 0, .int .i64 0, .int .i64 0, .slice none 0 0, .slice none 0 0, .int .i64 0] 63)) :
    RZ w1 w.heap.size A c T PS.zero := by
  subst hw
  exact ⟨⟨_, _, heap_alloc_new w _⟩, ht.below ((Below.refl _ w).alloc (Nat.le_refl _) _), hE, hp, hf⟩
theorem lexS_ok {s : ByteArray} {T : List Tk} (hR : lexS s = .ok T) : lexL (ls s) 0 = .ok T ∧ T.length ≤ 1048577 ∧ TkEnds T ∧ 1 ≤ T.length := by
  have hL : lexL (ls s) 0 = .ok T ∧ T.length ≤ 1048577 := by
    unfold lexS at hR
    split at hR
    · cases hR
    · rename_i hs
      have := lex_len _ _ _ (Nat.le_refl _) hR
      rw [ls_size] at this
      exact ⟨hR, by omega⟩
  obtain ⟨T0, hT0⟩ := lex_last _ _ _ (Nat.le_refl _) hL.1
  exact ⟨hL.1, hL.2, lex_ends _ _ _ (Nat.le_refl _) hL.1, by rw [hT0, List.length_append]; show 1 ≤ _ + 1; omega⟩
theorem lexS_bad {s : ByteArray} {a x : Nat} (hR : lexS s = .bad a x) : x ≠ 0 := by
  unfold lexS at hR
  split at hR
  · cases hR; decide
  · exact (lex_err _ _ _ (Nat.le_refl _) hR).1

set_option maxRecDepth 100000 in
set_option maxHeartbeats 4000000 in
theorem rvalueT_any (w : World) (s : ByteArray) : Calls Tryz.prog 13 #[.string s] w (ValAt s w) := by
  have cl := rlex_any w s
  cases hR : lexS s with
  | bad a x =>
    have hv : valS s = .bad a x := by unfold valS; rw [hR]
    have hx0 := lexS_bad hR
    have cl' : Calls Tryz.prog 23 #[.string s] w fun e w' => e = .returned (.tuple #[.slice none 0 0, .int .i64 (a : Nat), .int .i64 (x : Nat)]) ∧ Below w.heap.size w w' := cl.mono fun e w' h => by
      rw [hR] at h
      exact ⟨h.2, h.1⟩
    have hx : ((x : Int) != 0) = true := by simp; omega
    have HV := Lib.hid hv
    clear cl hR hv hx0
    go_enter Tryz.func13, Tryz.ntmps13
    go_wp2_with (go_at_call 23; refine cl'.mono ?_; rintro e w2 ⟨rfl, hb2⟩)
    refine bodyPost_ret (results_three rfl _ _ _ _ _ rfl rfl rfl) rfl ?_
    unfold ValAt
    rw [HV.out]
    exact ⟨none, 0, rfl, hb2, OwnN.nil _ _⟩
  | ok T =>
    obtain ⟨hL, hLn, hE, hT1⟩ := lexS_ok hR
    have cl' : Calls Tryz.prog 23 #[.string s] w fun e w' => ∃ A c, e = .returned (.tuple #[.slice A T.length c, .int .i64 0, .int .i64 0]) ∧ Below w.heap.size w w' ∧ Hid (TRow w' w'.heap.size A T) := cl.mono fun e w' h => by
      rw [hR] at h
      obtain ⟨hb, A, c, h, ht⟩ := h
      exact ⟨A, c, h, hb, ht⟩
    obtain ⟨q, hq⟩ : ∃ q, PS.zero.value T = q := ⟨_, rfl⟩
    obtain ⟨z, hz⟩ : ∃ z, q.end_ T = z := ⟨_, rfl⟩
    have hv : valS s = if z.flt ≠ 0 then .bad z.plc z.flt else .ok q.nds := by unfold valS; rw [hR]; dsimp only; rw [hq, hz]
    have HV := Lib.hid hv
    have RD : Hid (∀ w2 A c, TRow w2 w2.heap.size A T → Calls Tryz.prog 29 #[.pointer (some ⟨w2.heap.size, 0, none⟩)] (w2.alloc (.cells #[.slice A T.length c, .int .i64 0, .int .i64 0, .int .i64 0, .slice none 0 0, .slice none 0 0, .int .i64 0] 63)) fun e w3 => ∃ (An : Option Addr) (cn : Nat) (l : List Nd), e = .returned (.slice An l.length cn) ∧
        Calls Tryz.prog 26 #[.pointer (some ⟨w2.heap.size, 0, none⟩)] w3 fun e w4 => e = .returned (.tuple #[]) ∧ w4.cell? ⟨w2.heap.size, 2, none⟩ = some (.int .i64 (z.plc : Nat)) ∧ w4.cell? ⟨w2.heap.size, 3, none⟩ = some (.int .i64 (z.flt : Nat)) ∧ Hid (Below w2.heap.size w2 w4 ∧ OwnN w4 w2.heap.size An cn l ∧ l = q.nds)) := fun w2 A c ht => by
      have hr := rz_new (c := c) ht hE hT1 (by omega) rfl
      have hb1 : Below w2.heap.size w2 (w2.alloc (.cells #[.slice A T.length c, .int .i64 0, .int .i64 0, .int .i64 0, .slice none 0 0, .slice none 0 0, .int .i64 0] 63)) := (Below.refl _ w2).alloc (Nat.le_refl _) _
      refine (rvalue_any hr).mono ?_
      rintro e w3 ⟨gn, cn, rfl, hr3, hg3, ho3, _⟩
      rw [hq] at hr3 ho3 ⊢
      refine ⟨some ⟨gn, 0, none⟩, cn, q.nds, rfl, (zend_any hr3).mono ?_⟩
      rintro e w4 ⟨rfl, hr4, hg4⟩
      rw [hz] at hr4
      obtain ⟨_, c2, c3, _⟩ := hr4.cells
      refine ⟨rfl, c2, c3, ?_, ?_, rfl⟩
      · exact hb1.trans (((hg3.trans hg4).below (by simp) (Nat.le_refl _)))
      · refine ownsRow_keep (ownsRow_low ho3 (by simp)) fun b hb => ?_
        have := World.ownsRow.lt ho3 b (by rw [obk_own]; exact hb)
        have h1 : (w2.alloc (.cells #[.slice A T.length c, .int .i64 0, .int .i64 0, .int .i64 0, .slice none 0 0, .slice none 0 0, .int .i64 0] 63)).heap.size = w2.heap.size + 1 := by simp
        exact hg4.block b this.2 (fun e => by have := Option.some.inj e; omega)
    clear cl hR hL hE hT1 hq hz hv
    by_cases hf : z.flt = 0
    · have hfz : ((z.flt : Int) != 0) = false := by rw [hf]; rfl
      have END : Hid (∀ w2 w4 An cn (l : List Nd), Below w.heap.size w w2 → (Below w2.heap.size w2 w4 ∧ OwnN w4 w2.heap.size An cn l ∧ l = q.nds) → ValAt s w (.returned (.tuple #[.slice An l.length cn, .int .i64 0, .int .i64 0])) w4) := fun w2 w4 An cn l hb2 h => by
        obtain ⟨h1, h2, e⟩ := h
        unfold ValAt
        rw [HV.out, if_neg (fun k => k hf)]
        subst e
        exact ⟨An, cn, rfl, Below.both hb2 h1, ownsRow_low h2 hb2.size⟩
      clear hf
      go_enter Tryz.func13, Tryz.ntmps13
      go_wp2_with (first
        | (go_at_call 23; refine cl'.mono ?_; rintro e w2 ⟨A, c, rfl, hb2, ht2⟩; have ce := RD.out w2 A c ht2.out)
        | (go_at_call 29; refine ce.mono ?_; rintro e w3 ⟨An, cn, l, rfl, cz⟩)
        | (go_at_call 26; refine cz.mono ?_; rintro e w4 ⟨rfl, d2, d3, H4⟩))
      exact bodyPost_ret (v := .tuple #[.slice An l.length cn, .int .i64 0, .int .i64 0]) (results_three rfl _ _ _ _ _ rfl rfl rfl) rfl (END.out w2 w4 An cn l hb2 H4.out)
    · have hfz : ((z.flt : Int) != 0) = true := by simp; omega
      have END : Hid (∀ w2 w4 n, Below w.heap.size w w2 → Below w2.heap.size w2 w4 → ValAt s w (.returned (.tuple #[.slice none 0 0, .int .i64 (z.plc : Nat), .int .i64 (z.flt : Nat)])) (w4.drewN n)) := fun w2 w4 n hb2 h => by
        unfold ValAt
        rw [HV.out, if_pos hf]
        exact ⟨none, 0, rfl, Below.thenN (Below.both hb2 h) n, OwnN.nil _ _⟩
      clear hf
      go_enter Tryz.func13, Tryz.ntmps13
      go_wp2_with (first
        | (go_at_call 23; refine cl'.mono ?_; rintro e w2 ⟨A, c, rfl, hb2, ht2⟩; have ce := RD.out w2 A c ht2.out)
        | (go_at_call 29; refine ce.mono ?_; rintro e w3 ⟨An, cn, l, rfl, cz⟩)
        | (go_at_call 26; refine cz.mono ?_; rintro e w4 ⟨rfl, d2, d3, H4⟩))
      go_quiet (fail)
      go_wp2
      exact bodyPost_ret (v := .tuple #[.slice none 0 0, .int .i64 (z.plc : Nat), .int .i64 (z.flt : Nat)]) (results_three rfl _ _ _ _ _ rfl rfl rfl) rfl (END.out w2 w4 _ hb2 H4.out.1)
end Go.Proofs.YtbngelinfpaefaaGreatDoor
