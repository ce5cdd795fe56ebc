/- The walks of the reference: a step, by its kind. -/
import Derived.Test.YtbngelinfpaefaaGreatDoorParSz
import Derived.Test.YtbngelinfpaefaaGreatDoorParStep
namespace Go.Proofs.YtbngelinfpaefaaGreatDoor
open Go.RowKit

/-- what a step answers -/
def StepR (g : Nat) (A : Option Addr) (c : Nat) (T : List Tk) (p : PS) (w : World) (e : Ending) (w' : World) : Prop :=
  ∃ x : LSt, e = .returned (.agg x.C) ∧ RZ w' g A c T (p.step T).1 ∧ Gn g w w' ∧ StLev.H w' w.heap.size x ∧ x.s = (p.step T).2
def kwL : List (List UInt8) := [[], [97, 100, 100], [114, 101, 110, 97, 109, 101], [115, 112, 108, 105, 116], [106, 111, 105, 110], [114, 101, 116, 121, 112, 101], [100, 114, 111, 112]]
def kwC : Array Value := #[.string ⟨#[]⟩, .string ⟨#[97, 100, 100]⟩, .string ⟨#[114, 101, 110, 97, 109, 101]⟩, .string ⟨#[115, 112, 108, 105, 116]⟩, .string ⟨#[106, 111, 105, 110]⟩, .string ⟨#[114, 101, 116, 121, 112, 101]⟩, .string ⟨#[100, 114, 111, 112]⟩]
theorem kwC_at (w : World) (b : Nat) (h : CB w b 9 kwC) (i : Nat) (hi : i < 7) : w.cell? ⟨b, i, none⟩ = some (.string (str (kwL[i]'hi))) := by
  rw [h.at_, show kwC = (kwL.map fun x => Value.string (str x)).toArray by kernel_rfl, List.getElem?_toArray, List.getElem?_map, List.getElem?_eq_getElem (show i < kwL.length from hi)]
  rfl
theorem ls_kadd : ls "add".toUTF8 = [97, 100, 100] := by decide +kernel
theorem ls_kren : ls "rename".toUTF8 = [114, 101, 110, 97, 109, 101] := by decide +kernel
theorem ls_kspl : ls "split".toUTF8 = [115, 112, 108, 105, 116] := by decide +kernel
theorem ls_kjoi : ls "join".toUTF8 = [106, 111, 105, 110] := by decide +kernel
theorem ls_kret : ls "retype".toUTF8 = [114, 101, 116, 121, 112, 101] := by decide +kernel
theorem ls_kdro : ls "drop".toUTF8 = [100, 114, 111, 112] := by decide +kernel
theorem step_is {T : List Tk} (p : PS) (i : Nat) (hi : i < 7) (h0 : 1 ≤ i) : p.is T 1 (kwL[i]'hi) = decide (stepK T p = i) := by
  unfold stepK
  obtain ⟨F, hF⟩ : ∃ F, (p.flt == 0 && (p.tok T).k == 1) = F := ⟨_, rfl⟩
  have hs : ∀ s, p.is T 1 s = (F && (p.tok T).t == s) := fun s => by rw [← hF]; rfl
  simp only [hs]
  rw [ls_kadd, ls_kren, ls_kspl, ls_kjoi, ls_kret, ls_kdro]
  generalize (p.tok T).t = t
  cases F with
  | false => simp; omega
  | true =>
    simp only [Bool.true_and, beq_iff_eq]
    have hi2 : i = 1 ∨ i = 2 ∨ i = 3 ∨ i = 4 ∨ i = 5 ∨ i = 6 := by omega
    by_cases h1 : t = [97, 100, 100]
    · subst h1; rcases hi2 with rfl | rfl | rfl | rfl | rfl | rfl <;> rfl
    · by_cases h2 : t = [114, 101, 110, 97, 109, 101]
      · subst h2; rcases hi2 with rfl | rfl | rfl | rfl | rfl | rfl <;> rfl
      · by_cases h3 : t = [115, 112, 108, 105, 116]
        · subst h3; rcases hi2 with rfl | rfl | rfl | rfl | rfl | rfl <;> rfl
        · by_cases h4 : t = [106, 111, 105, 110]
          · subst h4; rcases hi2 with rfl | rfl | rfl | rfl | rfl | rfl <;> rfl
          · by_cases h5 : t = [114, 101, 116, 121, 112, 101]
            · subst h5; rcases hi2 with rfl | rfl | rfl | rfl | rfl | rfl <;> rfl
            · by_cases h6 : t = [100, 114, 111, 112]
              · subst h6; rcases hi2 with rfl | rfl | rfl | rfl | rfl | rfl <;> rfl
              · rw [if_neg h1, if_neg h2, if_neg h3, if_neg h4, if_neg h5, if_neg h6]
                rcases hi2 with rfl | rfl | rfl | rfl | rfl | rfl
                all_goals
                  first
                  | exact (beq_eq_false_iff_ne.2 h1).trans (by decide)
                  | exact (beq_eq_false_iff_ne.2 h2).trans (by decide)
                  | exact (beq_eq_false_iff_ne.2 h3).trans (by decide)
                  | exact (beq_eq_false_iff_ne.2 h4).trans (by decide)
                  | exact (beq_eq_false_iff_ne.2 h5).trans (by decide)
                  | exact (beq_eq_false_iff_ne.2 h6).trans (by decide)
theorem rstep_pre {T : List Tk} {p : PS} {K : Nat} (hK : stepK T p = K) (h0 : K ≠ 0) (h6 : K < 7) : p.flt = 0 ∧ (p.tok T).k ≠ 0 := by
  have h := step_is (T := T) p K h6 (by omega)
  rw [hK] at h
  have := is_ok p (h.trans (decide_eq_true rfl))
  exact ⟨this.1, by rw [this.2.1]; decide⟩
/-- the frame of a step as it is begun: its kind is looked for -/
theorem sz_start {w0 w : World} {g : Nat} {A : Option Addr} {c : Nat} {T : List Tk} {q : PS} {b2 : Nat} (hr : RZ w g A c T q) (h2 : CB w b2 51 (stC st0 (.slice none 0 0))) (hg : Gn g w0 w) (g0 : g < w0.heap.size) (b20 : w0.heap.size ≤ b2) (x : LSt) (hx : x.s.v = [] ∧ x.A = none ∧ x.c = 0) :
    SZ w0 (w.alloc (.cells x.C 51)) g A c T q b2 w.heap.size x := by
  have hb : Below w.heap.size w (w.alloc (.cells x.C 51)) := (Below.refl _ w).alloc (Nat.le_refl _) _
  refine ⟨hr.below hb, h2.below hb, CB.new w _ _, hg.trans (Gn.of hb), ?_, g0, b20, hg.size, by have := h2.len; omega, fun b hb => ?_⟩
  · show OwnN _ _ x.A x.c x.s.v
    rw [hx.1, hx.2.1, hx.2.2]
    exact OwnN.nil _ _
  · have hb2 : b ∈ (obk x.A).toList := hb
    rw [hx.2.1] at hb2
    simp [obk] at hb2

/-- the first name, where the kind is looked at behind it -/
theorem sz_nameA {w0 w : World} {g : Nat} {A : Option Addr} {c : Nat} {T : List Tk} {q q' : PS} {b2 b4 : Nat} {x : LSt} (h : SZ w0 w g A c T q b2 b4 x) {nm : List UInt8} (hq : q.name T = (q', nm)) (y : LSt) (u k : Value) (hu : x.C[1]? = some u) (hk : x.C[0]? = some k) (hC : x.C.setIfInBounds 1 (.string (str nm)) = y.C) (hA : y.A = x.A) (hc : y.c = x.c) (hv : y.s.v = x.s.v) :
    Calls Tryz.prog 48 #[.pointer (some ⟨g, 0, none⟩)] w fun e w' => e = .returned (.string (str nm)) ∧ w'.cell? ⟨b4, 0, none⟩ = some k ∧ w'.cell? ⟨b4, 1, none⟩ = some u ∧ w'.frozen? ⟨b4, 1, none⟩ = false ∧ Hid (SZ w0 (w'.setCell ⟨b4, 1, none⟩ (.string (str nm))) g A c T q' b2 b4 y) := by
  have cc := zname_any h.rs
  rw [hq] at cc
  refine cc.mono ?_
  rintro e w' ⟨rfl, hr, hg⟩
  have h2 := h.call hg hr
  have e1 : StLev.bl y = StLev.bl x := by show (obk y.A).toList = (obk x.A).toList; rw [hA]
  exact ⟨rfl, (h2.at_ 0).1.trans hk, (h2.at_ 1).1.trans hu, (h2.at_ 1).2, h2.set 1 _ hC (by show OwnN _ _ y.A y.c y.s.v; rw [hA, hc, hv]; exact h2.own) (by rw [e1]; exact h2.far)⟩

set_option maxRecDepth 100000 in
set_option maxHeartbeats 8000000 in
theorem rstep0_any {w : World} {g : Nat} {A : Option Addr} {c : Nat} {T : List Tk} {p : PS} (h : RZ w g A c T p) (hK : stepK T p = 0) :
    Calls Tryz.prog 85 #[.pointer (some ⟨g, 0, none⟩)] w (StepR g A c T p w) := by
  have hgl := h.len
  obtain ⟨t, ht⟩ : ∃ t, p.tok T = t := ⟨_, rfl⟩
  obtain ⟨q0, hq0⟩ : ∃ q, p.fail t.a 90 = q := ⟨_, rfl⟩
  have hS : p.step T = (q0, ⟨0, [], [], [], [], [], [], t.a⟩) := by
    unfold PS.step
    rw [hK]
    dsimp only
    rw [if_pos rfl, ht, hq0]
  have HS := Lib.hid hS
  have HKK := Lib.hid hK
  have hb1 : Below w.heap.size w (w.alloc (.cells #[.int .i64 0, .string ⟨#[]⟩, .string ⟨#[]⟩, .string ⟨#[]⟩, .string ⟨#[]⟩, .string ⟨#[]⟩, .slice none 0 0, .int .i64 0] 51)) := (Below.refl _ w).alloc (Nat.le_refl _) _
  have hc1 : CB (w.alloc (.cells #[.int .i64 0, .string ⟨#[]⟩, .string ⟨#[]⟩, .string ⟨#[]⟩, .string ⟨#[]⟩, .string ⟨#[]⟩, .slice none 0 0, .int .i64 0] 51)) w.heap.size 51 (stC st0 (.slice none 0 0)) := CB.new w _ _
  have ct := ztok_any (h.below hb1) ht
  have hs1 : (w.alloc (.cells #[.int .i64 0, .string ⟨#[]⟩, .string ⟨#[]⟩, .string ⟨#[]⟩, .string ⟨#[]⟩, .string ⟨#[]⟩, .slice none 0 0, .int .i64 0] 51)).heap.size = w.heap.size + 1 := by simp
  have PRE : Hid (∀ w2, Below (w.alloc (.cells #[.int .i64 0, .string ⟨#[]⟩, .string ⟨#[]⟩, .string ⟨#[]⟩, .string ⟨#[]⟩, .string ⟨#[]⟩, .slice none 0 0, .int .i64 0] 51)).heap.size (w.alloc (.cells #[.int .i64 0, .string ⟨#[]⟩, .string ⟨#[]⟩, .string ⟨#[]⟩, .string ⟨#[]⟩, .string ⟨#[]⟩, .slice none 0 0, .int .i64 0] 51)) w2 → ∃ w3 w4 w5 : World, w2.alloc (.cells #[.int .i64 (t.k : Nat), .string (str t.t), .int .u64 (t.n : Nat), .int .i64 (t.a : Nat), .int .i64 (t.e : Nat)] 78) = w3 ∧ w3.alloc (.cells #[.int .i64 0, .string ⟨#[]⟩, .string ⟨#[]⟩, .string ⟨#[]⟩, .string ⟨#[]⟩, .string ⟨#[]⟩, .slice none 0 0, .int .i64 (t.a : Nat)] 51) = w4 ∧ w4.alloc (.cells #[.string ⟨#[]⟩, .string ⟨#[97, 100, 100]⟩, .string ⟨#[114, 101, 110, 97, 109, 101]⟩, .string ⟨#[115, 112, 108, 105, 116]⟩, .string ⟨#[106, 111, 105, 110]⟩, .string ⟨#[114, 101, 116, 121, 112, 101]⟩, .string ⟨#[100, 114, 111, 112]⟩] 9) = w5 ∧ w3.heap.size = w2.heap.size + 1 ∧ w4.heap.size = w2.heap.size + 2 ∧ w3.cell? ⟨w2.heap.size, 3, none⟩ = some (.int .i64 (t.a : Nat)) ∧
      Hid (SZ w w5 g A c T p w.heap.size (w2.heap.size + 1) ⟨⟨0, [], [], [], [], [], [], t.a⟩, none, 0⟩ ∧ CB w5 w2.heap.size 78 #[.int .i64 (t.k : Nat), .string (str t.t), .int .u64 (t.n : Nat), .int .i64 (t.a : Nat), .int .i64 (t.e : Nat)] ∧ CB w5 (w2.heap.size + 2) 9 kwC)) := fun w2 hb2 => by
    obtain ⟨w3, h3⟩ : ∃ w3, w2.alloc (.cells #[.int .i64 (t.k : Nat), .string (str t.t), .int .u64 (t.n : Nat), .int .i64 (t.a : Nat), .int .i64 (t.e : Nat)] 78) = w3 := ⟨_, rfl⟩
    obtain ⟨w4, h4⟩ : ∃ w4, w3.alloc (.cells #[.int .i64 0, .string ⟨#[]⟩, .string ⟨#[]⟩, .string ⟨#[]⟩, .string ⟨#[]⟩, .string ⟨#[]⟩, .slice none 0 0, .int .i64 (t.a : Nat)] 51) = w4 := ⟨_, rfl⟩
    obtain ⟨w5, h5⟩ : ∃ w5, w4.alloc (.cells #[.string ⟨#[]⟩, .string ⟨#[97, 100, 100]⟩, .string ⟨#[114, 101, 110, 97, 109, 101]⟩, .string ⟨#[115, 112, 108, 105, 116]⟩, .string ⟨#[106, 111, 105, 110]⟩, .string ⟨#[114, 101, 116, 121, 112, 101]⟩, .string ⟨#[100, 114, 111, 112]⟩] 9) = w5 := ⟨_, rfl⟩
    have s3 : w3.heap.size = w2.heap.size + 1 := by rw [← h3]; simp
    have s4 : w4.heap.size = w2.heap.size + 2 := by rw [← h4]; simp [s3]
    have b3 : Below w2.heap.size w2 w3 := by rw [← h3]; exact (Below.refl _ w2).alloc (Nat.le_refl _) _
    have b4 : Below w3.heap.size w3 w4 := by rw [← h4]; exact (Below.refl _ w3).alloc (Nat.le_refl _) _
    have b5 : Below w4.heap.size w4 w5 := by rw [← h5]; exact (Below.refl _ w4).alloc (Nat.le_refl _) _
    have t3 : CB w3 w2.heap.size 78 #[.int .i64 (t.k : Nat), .string (str t.t), .int .u64 (t.n : Nat), .int .i64 (t.a : Nat), .int .i64 (t.e : Nat)] := by rw [← h3]; exact CB.new w2 _ _
    have k5 : CB w5 (w2.heap.size + 2) 9 kwC := by rw [← s4, ← h5]; exact CB.new w4 _ _
    have r1 := h.below hb1
    have r2 := r1.below hb2
    have r3 := r2.below b3
    have c2 := (hc1.below hb2).below b3
    have gn3 : Gn g w w3 := ((Gn.of hb1).trans (Gn.of hb2)).trans (Gn.of b3)
    have z4 := sz_start r3 c2 gn3 hgl (Nat.le_refl _) ⟨⟨0, [], [], [], [], [], [], t.a⟩, none, 0⟩ ⟨rfl, rfl, rfl⟩
    rw [s3] at z4
    have z4' : SZ w w4 g A c T p w.heap.size (w2.heap.size + 1) ⟨⟨0, [], [], [], [], [], [], t.a⟩, none, 0⟩ := by rw [← h4]; exact z4
    exact ⟨w3, w4, w5, h3, h4, h5, s3, s4, t3.at_ 3, z4'.call (Gn.of b5) (z4'.rs.below b5), (t3.below b4).below b5, k5⟩
  clear h hK ht hS hb1 hc1
  go_enter Tryz.func85, Tryz.ntmps85
  go_wp2_with (go_at_call 46; refine ct.mono ?_; rintro e w2 ⟨rfl, hb2⟩; obtain ⟨w3, w4, w5, e3, e4, e5, s3, s4, c33, HF5⟩ := PRE.out w2 hb2; clear ct)
  clear e3 e4 e5 c33 PRE
  go_loopw [6] (fun u wr => ∃ i : Nat, u = .int .i64 i ∧ 1 ≤ i ∧ i ≤ 7 ∧ Hid (SZ w wr g A c T p w.heap.size (w2.heap.size + 1) ⟨⟨if stepK T p < i then stepK T p else 0, [], [], [], [], [], [], t.a⟩, none, 0⟩ ∧ CB wr w2.heap.size 78 #[.int .i64 (t.k : Nat), .string (str t.t), .int .u64 (t.n : Nat), .int .i64 (t.a : Nat), .int .i64 (t.e : Nat)] ∧ CB wr (w2.heap.size + 2) 9 kwC)) (fun u _ => 7 - (intOf u).toNat)
  case atStart =>
    refine ⟨1, rfl, by omega, by omega, ?_⟩
    have e : (if stepK T p < 1 then stepK T p else 0) = 0 := by split <;> omega
    rw [e]
    exact HF5
  case round =>
    clear HF5
    obtain ⟨i, rfl, hi1, hi7, HF⟩ := hrel
    by_cases hlt : i < 7
    · have hlz : (i : Int) < 7 := by omega
      have hi0 : (0 : Int) ≤ (i : Int) := by omega
      have ck := kwC_at _ _ HF.out.2.2 i hlt
      obtain ⟨s, hs⟩ : ∃ s, kwL[i]'hlt = s := ⟨_, rfl⟩
      obtain ⟨b, hb⟩ : ∃ b, decide (stepK T p = i) = b := ⟨_, rfl⟩
      have hi := step_is (T := T) p i hlt hi1
      rw [hs, hb] at hi
      rw [hs] at ck
      obtain ⟨x, hx⟩ : ∃ x : LSt, (⟨⟨if stepK T p < i then stepK T p else 0, [], [], [], [], [], [], t.a⟩, none, 0⟩ : LSt) = x := ⟨_, rfl⟩
      have HX := Lib.hid hx
      rw [hx] at HF
      have ci := sz_isw HF.out.1 s hi
      cases b with
      | false =>
        have hne := of_decide_eq_false hb
        have NX : Hid (∀ W, Below wr.heap.size wr W → SZ w W g A c T p w.heap.size (w2.heap.size + 1) x → Hid (SZ w W g A c T p w.heap.size (w2.heap.size + 1) ⟨⟨if stepK T p < i + 1 then stepK T p else 0, [], [], [], [], [], [], t.a⟩, none, 0⟩ ∧ CB W w2.heap.size 78 #[.int .i64 (t.k : Nat), .string (str t.t), .int .u64 (t.n : Nat), .int .i64 (t.a : Nat), .int .i64 (t.e : Nat)] ∧ CB W (w2.heap.size + 2) 9 kwC)) := fun W hW hz => by
          have e : (if stepK T p < i + 1 then stepK T p else 0) = if stepK T p < i then stepK T p else 0 := by
            by_cases h : stepK T p < i
            · rw [if_pos h, if_pos (by omega)]
            · rw [if_neg h, if_neg (by omega)]
          rw [e, HX.out]
          exact ⟨hz, HF.out.2.1.below hW, HF.out.2.2.below hW⟩
        clear hx hs hb hi hne
        go_wp2_with (go_at_call 24; refine ci.mono ?_; rintro e w6 ⟨rfl, hb6, HZ6⟩; have HN := NX.out _ hb6 HZ6.out)
        go_roundw
        case rel => exact ⟨i + 1, by go_num, by omega, by omega, HN⟩
        case measure => simp [intOf]; omega
      | true =>
        have heq := of_decide_eq_true hb
        have NX : Hid (∀ W, Below wr.heap.size wr W → SZ w W g A c T p w.heap.size (w2.heap.size + 1) x → (∃ v, W.cell? ⟨w2.heap.size + 1, 0, none⟩ = some v) ∧ W.frozen? ⟨w2.heap.size + 1, 0, none⟩ = false ∧ Hid (SZ w (W.setCell ⟨w2.heap.size + 1, 0, none⟩ (.int .i64 (i : Nat))) g A c T p w.heap.size (w2.heap.size + 1) ⟨⟨if stepK T p < i + 1 then stepK T p else 0, [], [], [], [], [], [], t.a⟩, none, 0⟩ ∧ CB (W.setCell ⟨w2.heap.size + 1, 0, none⟩ (.int .i64 (i : Nat))) w2.heap.size 78 #[.int .i64 (t.k : Nat), .string (str t.t), .int .u64 (t.n : Nat), .int .i64 (t.a : Nat), .int .i64 (t.e : Nat)] ∧ CB (W.setCell ⟨w2.heap.size + 1, 0, none⟩ (.int .i64 (i : Nat))) (w2.heap.size + 2) 9 kwC)) := fun W hW hz => by
          have e : (if stepK T p < i + 1 then stepK T p else 0) = i := by rw [if_pos (by omega), heq]
          rw [e]
          rw [← HX.out] at hz
          have o : ∀ k, k ≠ w2.heap.size + 1 → (W.setCell ⟨w2.heap.size + 1, 0, none⟩ (.int .i64 (i : Nat))).heap[k]? = W.heap[k]? := fun k hk => Below.heap_setCell W ⟨w2.heap.size + 1, 0, none⟩ _ k hk
          refine ⟨⟨_, (hz.at_ 0).1⟩, (hz.at_ 0).2, hz.set 0 _ rfl ?_ ?_, ((HF.out.2.1.below hW).keep (o _ (by omega))), ((HF.out.2.2.below hW).keep (o _ (by omega)))⟩
          · exact OwnN.nil _ _
          · exact fun b hb => by simp [StLev, obk] at hb
        clear hx hs hb hi heq
        go_wp2_with (go_at_call 24; refine ci.mono ?_; rintro e w6 ⟨rfl, hb6, HZ6⟩; obtain ⟨⟨v6, c6⟩, f6, HN⟩ := NX.out _ hb6 HZ6.out)
        go_roundw
        case rel => exact ⟨i + 1, by go_num, by omega, by omega, HN⟩
        case measure => simp [intOf]; omega
    · obtain rfl : i = 7 := by omega
      have hlz : ¬ ((7 : Nat) : Int) < 7 := by omega
      have e7 : (if stepK T p < 7 then stepK T p else 0) = 0 := by rw [HKK.out]; rfl
      rw [e7] at HF
      have c40 := (HF.out.1.at_ 0).1
      change wr.cell? ⟨w2.heap.size + 1, 0, none⟩ = some (.int .i64 0) at c40
      have c3 := HF.out.2.1.at_ 3
      change wr.cell? ⟨w2.heap.size, 3, none⟩ = some (.int .i64 (t.a : Nat)) at c3
      have CF : Hid (Calls Tryz.prog 51 #[.pointer (some ⟨g, 0, none⟩), .int .i64 (t.a : Nat), .int .i64 90] wr fun r w' => r = .returned (.tuple #[]) ∧ Hid (SZ w w' g A c T q0 w.heap.size (w2.heap.size + 1) ⟨⟨0, [], [], [], [], [], [], t.a⟩, none, 0⟩)) := by
        refine Calls.mono (zfail_any HF.out.1.rs t.a 90) ?_
        rintro r w' ⟨rfl, h1, h2⟩
        rw [hq0] at h1
        exact ⟨rfl, HF.out.1.call h2 h1⟩
      have F0 : Hid True := trivial
      clear hlz e7
      go_wp2_with (first
        | (go_at_call 51; (with_reducible refine CF.out.mono ?_); rintro e v1 ⟨rfl, F1⟩)
        | (refine wpList_load_cb rfl 51 (.tmp 4) rfl _ _ rfl F1.out.s4 Tryz.underlying51 rfl (by kernel_rfl) ?_)
        | (refine wpList_store_cb rfl 51 (.tmp 2) (.tmp 34) rfl w.heap.size (stC st0 (.slice none 0 0)) _ rfl rfl F1.out.r2 rfl (by kernel_rfl) (by kernel_rfl) ?_; intro w9 h9 t9))
      obtain ⟨z1, z2, z3⟩ := F1.out.close t9
      refine bodyPost_ret (results_cb rfl _ _ _ _ rfl h9 Tryz.underlying51 rfl (by kernel_rfl)) rfl ?_
      exact ⟨⟨⟨0, [], [], [], [], [], [], t.a⟩, none, 0⟩, rfl, by rw [HS.out]; exact z1, z2, z3, by rw [HS.out]⟩

set_option maxRecDepth 100000 in
set_option maxHeartbeats 8000000 in
theorem rstep1_any {w : World} {g : Nat} {A : Option Addr} {c : Nat} {T : List Tk} {p : PS} (h : RZ w g A c T p) (hK : stepK T p = 1) (hb : (((p.next.name T).1.mark T 58).name T).1.is T 4 [61] = false) :
    Calls Tryz.prog 85 #[.pointer (some ⟨g, 0, none⟩)] w (StepR g A c T p w) := by
  obtain ⟨h0, hk1⟩ := rstep_pre hK (by decide) (by decide)
  have hgl := h.len
  obtain ⟨t, ht⟩ : ∃ t, p.tok T = t := ⟨_, rfl⟩
  obtain ⟨q0, hq0⟩ : ∃ q, p.next = q := ⟨_, rfl⟩
  obtain ⟨q1, nA, hq1⟩ : ∃ q nm, q0.name T = (q, nm) := ⟨_, _, rfl⟩
  obtain ⟨q2, hq2⟩ : ∃ q, q1.mark T 58 = q := ⟨_, rfl⟩
  obtain ⟨q3, n3, hq3⟩ : ∃ q nm, q2.name T = (q, nm) := ⟨_, _, rfl⟩
  obtain ⟨q4, hq4⟩ : ∃ q, q3.mark T 59 = q := ⟨_, rfl⟩
  have hq61 : q3.is T 4 [61] = false := by rw [hq0, hq1] at hb; dsimp only at hb; rw [hq2, hq3] at hb; exact hb
  have hS : p.step T = (q4, ⟨1, nA, [], [], [], n3, [], t.a⟩) := by
    unfold PS.step
    rw [hK]
    dsimp only
    rw [if_neg (by decide), hq0, hq1]
    dsimp only
    rw [if_pos rfl]
    rw [hq2]
    rw [hq3]
    dsimp only
    rw [hq61, if_neg (by decide)]
    rw [hq4]
    rw [ht]
  have HS := Lib.hid hS
  have HK0 : Hid (p.flt = 0 ∧ (p.tok T).k ≠ 0) := ⟨h0, hk1⟩
  have HKK := Lib.hid hK
  have hb1 : Below w.heap.size w (w.alloc (.cells #[.int .i64 0, .string ⟨#[]⟩, .string ⟨#[]⟩, .string ⟨#[]⟩, .string ⟨#[]⟩, .string ⟨#[]⟩, .slice none 0 0, .int .i64 0] 51)) := (Below.refl _ w).alloc (Nat.le_refl _) _
  have hc1 : CB (w.alloc (.cells #[.int .i64 0, .string ⟨#[]⟩, .string ⟨#[]⟩, .string ⟨#[]⟩, .string ⟨#[]⟩, .string ⟨#[]⟩, .slice none 0 0, .int .i64 0] 51)) w.heap.size 51 (stC st0 (.slice none 0 0)) := CB.new w _ _
  have ct := ztok_any (h.below hb1) ht
  have hs1 : (w.alloc (.cells #[.int .i64 0, .string ⟨#[]⟩, .string ⟨#[]⟩, .string ⟨#[]⟩, .string ⟨#[]⟩, .string ⟨#[]⟩, .slice none 0 0, .int .i64 0] 51)).heap.size = w.heap.size + 1 := by simp
  have PRE : Hid (∀ w2, Below (w.alloc (.cells #[.int .i64 0, .string ⟨#[]⟩, .string ⟨#[]⟩, .string ⟨#[]⟩, .string ⟨#[]⟩, .string ⟨#[]⟩, .slice none 0 0, .int .i64 0] 51)).heap.size (w.alloc (.cells #[.int .i64 0, .string ⟨#[]⟩, .string ⟨#[]⟩, .string ⟨#[]⟩, .string ⟨#[]⟩, .string ⟨#[]⟩, .slice none 0 0, .int .i64 0] 51)) w2 → ∃ w3 w4 w5 : World, w2.alloc (.cells #[.int .i64 (t.k : Nat), .string (str t.t), .int .u64 (t.n : Nat), .int .i64 (t.a : Nat), .int .i64 (t.e : Nat)] 78) = w3 ∧ w3.alloc (.cells #[.int .i64 0, .string ⟨#[]⟩, .string ⟨#[]⟩, .string ⟨#[]⟩, .string ⟨#[]⟩, .string ⟨#[]⟩, .slice none 0 0, .int .i64 (t.a : Nat)] 51) = w4 ∧ w4.alloc (.cells #[.string ⟨#[]⟩, .string ⟨#[97, 100, 100]⟩, .string ⟨#[114, 101, 110, 97, 109, 101]⟩, .string ⟨#[115, 112, 108, 105, 116]⟩, .string ⟨#[106, 111, 105, 110]⟩, .string ⟨#[114, 101, 116, 121, 112, 101]⟩, .string ⟨#[100, 114, 111, 112]⟩] 9) = w5 ∧ w3.heap.size = w2.heap.size + 1 ∧ w4.heap.size = w2.heap.size + 2 ∧ w3.cell? ⟨w2.heap.size, 3, none⟩ = some (.int .i64 (t.a : Nat)) ∧
      Hid (SZ w w5 g A c T p w.heap.size (w2.heap.size + 1) ⟨⟨0, [], [], [], [], [], [], t.a⟩, none, 0⟩ ∧ CB w5 w2.heap.size 78 #[.int .i64 (t.k : Nat), .string (str t.t), .int .u64 (t.n : Nat), .int .i64 (t.a : Nat), .int .i64 (t.e : Nat)] ∧ CB w5 (w2.heap.size + 2) 9 kwC)) := fun w2 hb2 => by
    obtain ⟨w3, h3⟩ : ∃ w3, w2.alloc (.cells #[.int .i64 (t.k : Nat), .string (str t.t), .int .u64 (t.n : Nat), .int .i64 (t.a : Nat), .int .i64 (t.e : Nat)] 78) = w3 := ⟨_, rfl⟩
    obtain ⟨w4, h4⟩ : ∃ w4, w3.alloc (.cells #[.int .i64 0, .string ⟨#[]⟩, .string ⟨#[]⟩, .string ⟨#[]⟩, .string ⟨#[]⟩, .string ⟨#[]⟩, .slice none 0 0, .int .i64 (t.a : Nat)] 51) = w4 := ⟨_, rfl⟩
    obtain ⟨w5, h5⟩ : ∃ w5, w4.alloc (.cells #[.string ⟨#[]⟩, .string ⟨#[97, 100, 100]⟩, .string ⟨#[114, 101, 110, 97, 109, 101]⟩, .string ⟨#[115, 112, 108, 105, 116]⟩, .string ⟨#[106, 111, 105, 110]⟩, .string ⟨#[114, 101, 116, 121, 112, 101]⟩, .string ⟨#[100, 114, 111, 112]⟩] 9) = w5 := ⟨_, rfl⟩
    have s3 : w3.heap.size = w2.heap.size + 1 := by rw [← h3]; simp
    have s4 : w4.heap.size = w2.heap.size + 2 := by rw [← h4]; simp [s3]
    have b3 : Below w2.heap.size w2 w3 := by rw [← h3]; exact (Below.refl _ w2).alloc (Nat.le_refl _) _
    have b4 : Below w3.heap.size w3 w4 := by rw [← h4]; exact (Below.refl _ w3).alloc (Nat.le_refl _) _
    have b5 : Below w4.heap.size w4 w5 := by rw [← h5]; exact (Below.refl _ w4).alloc (Nat.le_refl _) _
    have t3 : CB w3 w2.heap.size 78 #[.int .i64 (t.k : Nat), .string (str t.t), .int .u64 (t.n : Nat), .int .i64 (t.a : Nat), .int .i64 (t.e : Nat)] := by rw [← h3]; exact CB.new w2 _ _
    have k5 : CB w5 (w2.heap.size + 2) 9 kwC := by rw [← s4, ← h5]; exact CB.new w4 _ _
    have r1 := h.below hb1
    have r2 := r1.below hb2
    have r3 := r2.below b3
    have c2 := (hc1.below hb2).below b3
    have gn3 : Gn g w w3 := ((Gn.of hb1).trans (Gn.of hb2)).trans (Gn.of b3)
    have z4 := sz_start r3 c2 gn3 hgl (Nat.le_refl _) ⟨⟨0, [], [], [], [], [], [], t.a⟩, none, 0⟩ ⟨rfl, rfl, rfl⟩
    rw [s3] at z4
    have z4' : SZ w w4 g A c T p w.heap.size (w2.heap.size + 1) ⟨⟨0, [], [], [], [], [], [], t.a⟩, none, 0⟩ := by rw [← h4]; exact z4
    exact ⟨w3, w4, w5, h3, h4, h5, s3, s4, t3.at_ 3, z4'.call (Gn.of b5) (z4'.rs.below b5), (t3.below b4).below b5, k5⟩
  clear h hK ht hS hb1 hc1 h0 hk1 hb
  go_enter Tryz.func85, Tryz.ntmps85
  go_wp2_with (go_at_call 46; refine ct.mono ?_; rintro e w2 ⟨rfl, hb2⟩; obtain ⟨w3, w4, w5, e3, e4, e5, s3, s4, c33, HF5⟩ := PRE.out w2 hb2; clear ct)
  clear e3 e4 e5 c33 PRE
  go_loopw [6] (fun u wr => ∃ i : Nat, u = .int .i64 i ∧ 1 ≤ i ∧ i ≤ 7 ∧ Hid (SZ w wr g A c T p w.heap.size (w2.heap.size + 1) ⟨⟨if stepK T p < i then stepK T p else 0, [], [], [], [], [], [], t.a⟩, none, 0⟩ ∧ CB wr w2.heap.size 78 #[.int .i64 (t.k : Nat), .string (str t.t), .int .u64 (t.n : Nat), .int .i64 (t.a : Nat), .int .i64 (t.e : Nat)] ∧ CB wr (w2.heap.size + 2) 9 kwC)) (fun u _ => 7 - (intOf u).toNat)
  case atStart =>
    refine ⟨1, rfl, by omega, by omega, ?_⟩
    have e : (if stepK T p < 1 then stepK T p else 0) = 0 := by split <;> omega
    rw [e]
    exact HF5
  case round =>
    clear HF5
    obtain ⟨i, rfl, hi1, hi7, HF⟩ := hrel
    by_cases hlt : i < 7
    · have hlz : (i : Int) < 7 := by omega
      have hi0 : (0 : Int) ≤ (i : Int) := by omega
      have ck := kwC_at _ _ HF.out.2.2 i hlt
      obtain ⟨s, hs⟩ : ∃ s, kwL[i]'hlt = s := ⟨_, rfl⟩
      obtain ⟨b, hb⟩ : ∃ b, decide (stepK T p = i) = b := ⟨_, rfl⟩
      have hi := step_is (T := T) p i hlt hi1
      rw [hs, hb] at hi
      rw [hs] at ck
      obtain ⟨x, hx⟩ : ∃ x : LSt, (⟨⟨if stepK T p < i then stepK T p else 0, [], [], [], [], [], [], t.a⟩, none, 0⟩ : LSt) = x := ⟨_, rfl⟩
      have HX := Lib.hid hx
      rw [hx] at HF
      have ci := sz_isw HF.out.1 s hi
      cases b with
      | false =>
        have hne := of_decide_eq_false hb
        have NX : Hid (∀ W, Below wr.heap.size wr W → SZ w W g A c T p w.heap.size (w2.heap.size + 1) x → Hid (SZ w W g A c T p w.heap.size (w2.heap.size + 1) ⟨⟨if stepK T p < i + 1 then stepK T p else 0, [], [], [], [], [], [], t.a⟩, none, 0⟩ ∧ CB W w2.heap.size 78 #[.int .i64 (t.k : Nat), .string (str t.t), .int .u64 (t.n : Nat), .int .i64 (t.a : Nat), .int .i64 (t.e : Nat)] ∧ CB W (w2.heap.size + 2) 9 kwC)) := fun W hW hz => by
          have e : (if stepK T p < i + 1 then stepK T p else 0) = if stepK T p < i then stepK T p else 0 := by
            by_cases h : stepK T p < i
            · rw [if_pos h, if_pos (by omega)]
            · rw [if_neg h, if_neg (by omega)]
          rw [e, HX.out]
          exact ⟨hz, HF.out.2.1.below hW, HF.out.2.2.below hW⟩
        clear hx hs hb hi hne
        go_wp2_with (go_at_call 24; refine ci.mono ?_; rintro e w6 ⟨rfl, hb6, HZ6⟩; have HN := NX.out _ hb6 HZ6.out)
        go_roundw
        case rel => exact ⟨i + 1, by go_num, by omega, by omega, HN⟩
        case measure => simp [intOf]; omega
      | true =>
        have heq := of_decide_eq_true hb
        have NX : Hid (∀ W, Below wr.heap.size wr W → SZ w W g A c T p w.heap.size (w2.heap.size + 1) x → (∃ v, W.cell? ⟨w2.heap.size + 1, 0, none⟩ = some v) ∧ W.frozen? ⟨w2.heap.size + 1, 0, none⟩ = false ∧ Hid (SZ w (W.setCell ⟨w2.heap.size + 1, 0, none⟩ (.int .i64 (i : Nat))) g A c T p w.heap.size (w2.heap.size + 1) ⟨⟨if stepK T p < i + 1 then stepK T p else 0, [], [], [], [], [], [], t.a⟩, none, 0⟩ ∧ CB (W.setCell ⟨w2.heap.size + 1, 0, none⟩ (.int .i64 (i : Nat))) w2.heap.size 78 #[.int .i64 (t.k : Nat), .string (str t.t), .int .u64 (t.n : Nat), .int .i64 (t.a : Nat), .int .i64 (t.e : Nat)] ∧ CB (W.setCell ⟨w2.heap.size + 1, 0, none⟩ (.int .i64 (i : Nat))) (w2.heap.size + 2) 9 kwC)) := fun W hW hz => by
          have e : (if stepK T p < i + 1 then stepK T p else 0) = i := by rw [if_pos (by omega), heq]
          rw [e]
          rw [← HX.out] at hz
          have o : ∀ k, k ≠ w2.heap.size + 1 → (W.setCell ⟨w2.heap.size + 1, 0, none⟩ (.int .i64 (i : Nat))).heap[k]? = W.heap[k]? := fun k hk => Below.heap_setCell W ⟨w2.heap.size + 1, 0, none⟩ _ k hk
          refine ⟨⟨_, (hz.at_ 0).1⟩, (hz.at_ 0).2, hz.set 0 _ rfl ?_ ?_, ((HF.out.2.1.below hW).keep (o _ (by omega))), ((HF.out.2.2.below hW).keep (o _ (by omega)))⟩
          · exact OwnN.nil _ _
          · exact fun b hb => by simp [StLev, obk] at hb
        clear hx hs hb hi heq
        go_wp2_with (go_at_call 24; refine ci.mono ?_; rintro e w6 ⟨rfl, hb6, HZ6⟩; obtain ⟨⟨v6, c6⟩, f6, HN⟩ := NX.out _ hb6 HZ6.out)
        go_roundw
        case rel => exact ⟨i + 1, by go_num, by omega, by omega, HN⟩
        case measure => simp [intOf]; omega
    · obtain rfl : i = 7 := by omega
      have hlz : ¬ ((7 : Nat) : Int) < 7 := by omega
      have e7 : (if stepK T p < 7 then stepK T p else 0) = 1 := by rw [HKK.out]; rfl
      rw [e7] at HF
      have c40 := (HF.out.1.at_ 0).1
      change wr.cell? ⟨w2.heap.size + 1, 0, none⟩ = some (.int .i64 1) at c40
      have F0 := Lib.hid (HF.out.1)
      obtain ⟨c1, _, _, f1⟩ := F0.out.rs.cells
      have f1 := f1 1
      have F1 := Lib.hid (F0.out.next HK0.out.2 hq0)
      have hil : p.i < T.length := F0.out.rs.pt.inn
      have hfew : T.length ≤ 2000000 := F0.out.rs.pt.few
      clear hlz e7 HF
      go_wp2_with (first
        | (go_at_call 48; (with_reducible refine (sz_nameA F1.out hq1 ⟨⟨1, nA, [], [], [], [], [], t.a⟩, none, 0⟩ (.string ⟨#[]⟩) (.int .i64 1) rfl rfl rfl rfl rfl rfl).mono ?_); rintro e v1 ⟨rfl, k0, c2, f2, F2⟩)
        | (go_at_call 49; (with_reducible refine (sz_mark F2.out 58 hq2).mono ?_); rintro e v2 ⟨rfl, F3⟩)
        | (go_at_call 48; (with_reducible refine (sz_name F3.out hq3 5 ⟨⟨1, nA, [], [], [], n3, [], t.a⟩, none, 0⟩ (.string ⟨#[]⟩) rfl rfl rfl rfl rfl).mono ?_); rintro e v3 ⟨rfl, c4, f4, F4⟩)
        | (go_at_call 24; (with_reducible refine (sz_is F4.out 61 hq61).mono ?_); rintro e v4 ⟨rfl, F5⟩)
        | (go_at_call 49; (with_reducible refine (sz_mark F5.out 59 hq4).mono ?_); rintro e v5 ⟨rfl, F6⟩)
        | (refine wpList_load_cb rfl 51 (.tmp 4) rfl _ _ rfl F6.out.s4 Tryz.underlying51 rfl (by kernel_rfl) ?_)
        | (refine wpList_store_cb rfl 51 (.tmp 2) (.tmp 116) rfl w.heap.size (stC st0 (.slice none 0 0)) _ rfl rfl F6.out.r2 rfl (by kernel_rfl) (by kernel_rfl) ?_; intro w9 h9 t9))
      obtain ⟨z1, z2, z3⟩ := F6.out.close t9
      refine bodyPost_ret (results_cb rfl _ _ _ _ rfl h9 Tryz.underlying51 rfl (by kernel_rfl)) rfl ?_
      exact ⟨⟨⟨1, nA, [], [], [], n3, [], t.a⟩, none, 0⟩, rfl, by rw [HS.out]; exact z1, z2, z3, by rw [HS.out]⟩

set_option maxRecDepth 100000 in
set_option maxHeartbeats 8000000 in
theorem rstep1v_any {w : World} {g : Nat} {A : Option Addr} {c : Nat} {T : List Tk} {p : PS} (h : RZ w g A c T p) (hK : stepK T p = 1) (hb : (((p.next.name T).1.mark T 58).name T).1.is T 4 [61] = true) :
    Calls Tryz.prog 85 #[.pointer (some ⟨g, 0, none⟩)] w (StepR g A c T p w) := by
  obtain ⟨h0, hk1⟩ := rstep_pre hK (by decide) (by decide)
  have hgl := h.len
  obtain ⟨t, ht⟩ : ∃ t, p.tok T = t := ⟨_, rfl⟩
  obtain ⟨q0, hq0⟩ : ∃ q, p.next = q := ⟨_, rfl⟩
  obtain ⟨q1, nA, hq1⟩ : ∃ q nm, q0.name T = (q, nm) := ⟨_, _, rfl⟩
  obtain ⟨q2, hq2⟩ : ∃ q, q1.mark T 58 = q := ⟨_, rfl⟩
  obtain ⟨q3, n3, hq3⟩ : ∃ q nm, q2.name T = (q, nm) := ⟨_, _, rfl⟩
  obtain ⟨q4, hq4⟩ : ∃ q, q3.next = q := ⟨_, rfl⟩
  obtain ⟨q5, hq5⟩ : ∃ q, q4.value T = q := ⟨_, rfl⟩
  obtain ⟨q6, hq6⟩ : ∃ q, q5.mark T 59 = q := ⟨_, rfl⟩
  have hq61 : q3.is T 4 [61] = true := by rw [hq0, hq1] at hb; dsimp only at hb; rw [hq2, hq3] at hb; exact hb
  have hS : p.step T = (q6, ⟨1, nA, [], [], [], n3, q5.nds, t.a⟩) := by
    unfold PS.step
    rw [hK]
    dsimp only
    rw [if_neg (by decide), hq0, hq1]
    dsimp only
    rw [if_pos rfl]
    rw [hq2]
    rw [hq3]
    dsimp only
    rw [hq61, if_pos rfl]
    rw [hq4]
    rw [hq5]
    rw [hq6]
    rw [ht]
  have HS := Lib.hid hS
  have HK0 : Hid (p.flt = 0 ∧ (p.tok T).k ≠ 0) := ⟨h0, hk1⟩
  have h61 := is_ok q3 hq61
  have CT : Hid ((q3.tok T).k ≠ 0) := by unfold Hid; rw [h61.2.1]; decide
  clear h61
  have HKK := Lib.hid hK
  have hb1 : Below w.heap.size w (w.alloc (.cells #[.int .i64 0, .string ⟨#[]⟩, .string ⟨#[]⟩, .string ⟨#[]⟩, .string ⟨#[]⟩, .string ⟨#[]⟩, .slice none 0 0, .int .i64 0] 51)) := (Below.refl _ w).alloc (Nat.le_refl _) _
  have hc1 : CB (w.alloc (.cells #[.int .i64 0, .string ⟨#[]⟩, .string ⟨#[]⟩, .string ⟨#[]⟩, .string ⟨#[]⟩, .string ⟨#[]⟩, .slice none 0 0, .int .i64 0] 51)) w.heap.size 51 (stC st0 (.slice none 0 0)) := CB.new w _ _
  have ct := ztok_any (h.below hb1) ht
  have hs1 : (w.alloc (.cells #[.int .i64 0, .string ⟨#[]⟩, .string ⟨#[]⟩, .string ⟨#[]⟩, .string ⟨#[]⟩, .string ⟨#[]⟩, .slice none 0 0, .int .i64 0] 51)).heap.size = w.heap.size + 1 := by simp
  have PRE : Hid (∀ w2, Below (w.alloc (.cells #[.int .i64 0, .string ⟨#[]⟩, .string ⟨#[]⟩, .string ⟨#[]⟩, .string ⟨#[]⟩, .string ⟨#[]⟩, .slice none 0 0, .int .i64 0] 51)).heap.size (w.alloc (.cells #[.int .i64 0, .string ⟨#[]⟩, .string ⟨#[]⟩, .string ⟨#[]⟩, .string ⟨#[]⟩, .string ⟨#[]⟩, .slice none 0 0, .int .i64 0] 51)) w2 → ∃ w3 w4 w5 : World, w2.alloc (.cells #[.int .i64 (t.k : Nat), .string (str t.t), .int .u64 (t.n : Nat), .int .i64 (t.a : Nat), .int .i64 (t.e : Nat)] 78) = w3 ∧ w3.alloc (.cells #[.int .i64 0, .string ⟨#[]⟩, .string ⟨#[]⟩, .string ⟨#[]⟩, .string ⟨#[]⟩, .string ⟨#[]⟩, .slice none 0 0, .int .i64 (t.a : Nat)] 51) = w4 ∧ w4.alloc (.cells #[.string ⟨#[]⟩, .string ⟨#[97, 100, 100]⟩, .string ⟨#[114, 101, 110, 97, 109, 101]⟩, .string ⟨#[115, 112, 108, 105, 116]⟩, .string ⟨#[106, 111, 105, 110]⟩, .string ⟨#[114, 101, 116, 121, 112, 101]⟩, .string ⟨#[100, 114, 111, 112]⟩] 9) = w5 ∧ w3.heap.size = w2.heap.size + 1 ∧ w4.heap.size = w2.heap.size + 2 ∧ w3.cell? ⟨w2.heap.size, 3, none⟩ = some (.int .i64 (t.a : Nat)) ∧
      Hid (SZ w w5 g A c T p w.heap.size (w2.heap.size + 1) ⟨⟨0, [], [], [], [], [], [], t.a⟩, none, 0⟩ ∧ CB w5 w2.heap.size 78 #[.int .i64 (t.k : Nat), .string (str t.t), .int .u64 (t.n : Nat), .int .i64 (t.a : Nat), .int .i64 (t.e : Nat)] ∧ CB w5 (w2.heap.size + 2) 9 kwC)) := fun w2 hb2 => by
    obtain ⟨w3, h3⟩ : ∃ w3, w2.alloc (.cells #[.int .i64 (t.k : Nat), .string (str t.t), .int .u64 (t.n : Nat), .int .i64 (t.a : Nat), .int .i64 (t.e : Nat)] 78) = w3 := ⟨_, rfl⟩
    obtain ⟨w4, h4⟩ : ∃ w4, w3.alloc (.cells #[.int .i64 0, .string ⟨#[]⟩, .string ⟨#[]⟩, .string ⟨#[]⟩, .string ⟨#[]⟩, .string ⟨#[]⟩, .slice none 0 0, .int .i64 (t.a : Nat)] 51) = w4 := ⟨_, rfl⟩
    obtain ⟨w5, h5⟩ : ∃ w5, w4.alloc (.cells #[.string ⟨#[]⟩, .string ⟨#[97, 100, 100]⟩, .string ⟨#[114, 101, 110, 97, 109, 101]⟩, .string ⟨#[115, 112, 108, 105, 116]⟩, .string ⟨#[106, 111, 105, 110]⟩, .string ⟨#[114, 101, 116, 121, 112, 101]⟩, .string ⟨#[100, 114, 111, 112]⟩] 9) = w5 := ⟨_, rfl⟩
    have s3 : w3.heap.size = w2.heap.size + 1 := by rw [← h3]; simp
    have s4 : w4.heap.size = w2.heap.size + 2 := by rw [← h4]; simp [s3]
    have b3 : Below w2.heap.size w2 w3 := by rw [← h3]; exact (Below.refl _ w2).alloc (Nat.le_refl _) _
    have b4 : Below w3.heap.size w3 w4 := by rw [← h4]; exact (Below.refl _ w3).alloc (Nat.le_refl _) _
    have b5 : Below w4.heap.size w4 w5 := by rw [← h5]; exact (Below.refl _ w4).alloc (Nat.le_refl _) _
    have t3 : CB w3 w2.heap.size 78 #[.int .i64 (t.k : Nat), .string (str t.t), .int .u64 (t.n : Nat), .int .i64 (t.a : Nat), .int .i64 (t.e : Nat)] := by rw [← h3]; exact CB.new w2 _ _
    have k5 : CB w5 (w2.heap.size + 2) 9 kwC := by rw [← s4, ← h5]; exact CB.new w4 _ _
    have r1 := h.below hb1
    have r2 := r1.below hb2
    have r3 := r2.below b3
    have c2 := (hc1.below hb2).below b3
    have gn3 : Gn g w w3 := ((Gn.of hb1).trans (Gn.of hb2)).trans (Gn.of b3)
    have z4 := sz_start r3 c2 gn3 hgl (Nat.le_refl _) ⟨⟨0, [], [], [], [], [], [], t.a⟩, none, 0⟩ ⟨rfl, rfl, rfl⟩
    rw [s3] at z4
    have z4' : SZ w w4 g A c T p w.heap.size (w2.heap.size + 1) ⟨⟨0, [], [], [], [], [], [], t.a⟩, none, 0⟩ := by rw [← h4]; exact z4
    exact ⟨w3, w4, w5, h3, h4, h5, s3, s4, t3.at_ 3, z4'.call (Gn.of b5) (z4'.rs.below b5), (t3.below b4).below b5, k5⟩
  clear h hK ht hS hb1 hc1 h0 hk1 hb
  go_enter Tryz.func85, Tryz.ntmps85
  go_wp2_with (go_at_call 46; refine ct.mono ?_; rintro e w2 ⟨rfl, hb2⟩; obtain ⟨w3, w4, w5, e3, e4, e5, s3, s4, c33, HF5⟩ := PRE.out w2 hb2; clear ct)
  clear e3 e4 e5 c33 PRE
  go_loopw [6] (fun u wr => ∃ i : Nat, u = .int .i64 i ∧ 1 ≤ i ∧ i ≤ 7 ∧ Hid (SZ w wr g A c T p w.heap.size (w2.heap.size + 1) ⟨⟨if stepK T p < i then stepK T p else 0, [], [], [], [], [], [], t.a⟩, none, 0⟩ ∧ CB wr w2.heap.size 78 #[.int .i64 (t.k : Nat), .string (str t.t), .int .u64 (t.n : Nat), .int .i64 (t.a : Nat), .int .i64 (t.e : Nat)] ∧ CB wr (w2.heap.size + 2) 9 kwC)) (fun u _ => 7 - (intOf u).toNat)
  case atStart =>
    refine ⟨1, rfl, by omega, by omega, ?_⟩
    have e : (if stepK T p < 1 then stepK T p else 0) = 0 := by split <;> omega
    rw [e]
    exact HF5
  case round =>
    clear HF5
    obtain ⟨i, rfl, hi1, hi7, HF⟩ := hrel
    by_cases hlt : i < 7
    · have hlz : (i : Int) < 7 := by omega
      have hi0 : (0 : Int) ≤ (i : Int) := by omega
      have ck := kwC_at _ _ HF.out.2.2 i hlt
      obtain ⟨s, hs⟩ : ∃ s, kwL[i]'hlt = s := ⟨_, rfl⟩
      obtain ⟨b, hb⟩ : ∃ b, decide (stepK T p = i) = b := ⟨_, rfl⟩
      have hi := step_is (T := T) p i hlt hi1
      rw [hs, hb] at hi
      rw [hs] at ck
      obtain ⟨x, hx⟩ : ∃ x : LSt, (⟨⟨if stepK T p < i then stepK T p else 0, [], [], [], [], [], [], t.a⟩, none, 0⟩ : LSt) = x := ⟨_, rfl⟩
      have HX := Lib.hid hx
      rw [hx] at HF
      have ci := sz_isw HF.out.1 s hi
      cases b with
      | false =>
        have hne := of_decide_eq_false hb
        have NX : Hid (∀ W, Below wr.heap.size wr W → SZ w W g A c T p w.heap.size (w2.heap.size + 1) x → Hid (SZ w W g A c T p w.heap.size (w2.heap.size + 1) ⟨⟨if stepK T p < i + 1 then stepK T p else 0, [], [], [], [], [], [], t.a⟩, none, 0⟩ ∧ CB W w2.heap.size 78 #[.int .i64 (t.k : Nat), .string (str t.t), .int .u64 (t.n : Nat), .int .i64 (t.a : Nat), .int .i64 (t.e : Nat)] ∧ CB W (w2.heap.size + 2) 9 kwC)) := fun W hW hz => by
          have e : (if stepK T p < i + 1 then stepK T p else 0) = if stepK T p < i then stepK T p else 0 := by
            by_cases h : stepK T p < i
            · rw [if_pos h, if_pos (by omega)]
            · rw [if_neg h, if_neg (by omega)]
          rw [e, HX.out]
          exact ⟨hz, HF.out.2.1.below hW, HF.out.2.2.below hW⟩
        clear hx hs hb hi hne
        go_wp2_with (go_at_call 24; refine ci.mono ?_; rintro e w6 ⟨rfl, hb6, HZ6⟩; have HN := NX.out _ hb6 HZ6.out)
        go_roundw
        case rel => exact ⟨i + 1, by go_num, by omega, by omega, HN⟩
        case measure => simp [intOf]; omega
      | true =>
        have heq := of_decide_eq_true hb
        have NX : Hid (∀ W, Below wr.heap.size wr W → SZ w W g A c T p w.heap.size (w2.heap.size + 1) x → (∃ v, W.cell? ⟨w2.heap.size + 1, 0, none⟩ = some v) ∧ W.frozen? ⟨w2.heap.size + 1, 0, none⟩ = false ∧ Hid (SZ w (W.setCell ⟨w2.heap.size + 1, 0, none⟩ (.int .i64 (i : Nat))) g A c T p w.heap.size (w2.heap.size + 1) ⟨⟨if stepK T p < i + 1 then stepK T p else 0, [], [], [], [], [], [], t.a⟩, none, 0⟩ ∧ CB (W.setCell ⟨w2.heap.size + 1, 0, none⟩ (.int .i64 (i : Nat))) w2.heap.size 78 #[.int .i64 (t.k : Nat), .string (str t.t), .int .u64 (t.n : Nat), .int .i64 (t.a : Nat), .int .i64 (t.e : Nat)] ∧ CB (W.setCell ⟨w2.heap.size + 1, 0, none⟩ (.int .i64 (i : Nat))) (w2.heap.size + 2) 9 kwC)) := fun W hW hz => by
          have e : (if stepK T p < i + 1 then stepK T p else 0) = i := by rw [if_pos (by omega), heq]
          rw [e]
          rw [← HX.out] at hz
          have o : ∀ k, k ≠ w2.heap.size + 1 → (W.setCell ⟨w2.heap.size + 1, 0, none⟩ (.int .i64 (i : Nat))).heap[k]? = W.heap[k]? := fun k hk => Below.heap_setCell W ⟨w2.heap.size + 1, 0, none⟩ _ k hk
          refine ⟨⟨_, (hz.at_ 0).1⟩, (hz.at_ 0).2, hz.set 0 _ rfl ?_ ?_, ((HF.out.2.1.below hW).keep (o _ (by omega))), ((HF.out.2.2.below hW).keep (o _ (by omega)))⟩
          · exact OwnN.nil _ _
          · exact fun b hb => by simp [StLev, obk] at hb
        clear hx hs hb hi heq
        go_wp2_with (go_at_call 24; refine ci.mono ?_; rintro e w6 ⟨rfl, hb6, HZ6⟩; obtain ⟨⟨v6, c6⟩, f6, HN⟩ := NX.out _ hb6 HZ6.out)
        go_roundw
        case rel => exact ⟨i + 1, by go_num, by omega, by omega, HN⟩
        case measure => simp [intOf]; omega
    · obtain rfl : i = 7 := by omega
      have hlz : ¬ ((7 : Nat) : Int) < 7 := by omega
      have e7 : (if stepK T p < 7 then stepK T p else 0) = 1 := by rw [HKK.out]; rfl
      rw [e7] at HF
      have c40 := (HF.out.1.at_ 0).1
      change wr.cell? ⟨w2.heap.size + 1, 0, none⟩ = some (.int .i64 1) at c40
      have F0 := Lib.hid (HF.out.1)
      obtain ⟨c1, _, _, f1⟩ := F0.out.rs.cells
      have f1 := f1 1
      have F1 := Lib.hid (F0.out.next HK0.out.2 hq0)
      have hil : p.i < T.length := F0.out.rs.pt.inn
      have hfew : T.length ≤ 2000000 := F0.out.rs.pt.few
      clear hlz e7 HF
      go_wp2_with (first
        | (go_at_call 48; (with_reducible refine (sz_nameA F1.out hq1 ⟨⟨1, nA, [], [], [], [], [], t.a⟩, none, 0⟩ (.string ⟨#[]⟩) (.int .i64 1) rfl rfl rfl rfl rfl rfl).mono ?_); rintro e v1 ⟨rfl, k0, c2, f2, F2⟩)
        | (go_at_call 49; (with_reducible refine (sz_mark F2.out 58 hq2).mono ?_); rintro e v2 ⟨rfl, F3⟩)
        | (go_at_call 48; (with_reducible refine (sz_name F3.out hq3 5 ⟨⟨1, nA, [], [], [], n3, [], t.a⟩, none, 0⟩ (.string ⟨#[]⟩) rfl rfl rfl rfl rfl).mono ?_); rintro e v3 ⟨rfl, c4, f4, F4⟩)
        | (go_at_call 24; (with_reducible refine (sz_is F4.out 61 hq61).mono ?_); rintro e v4 ⟨rfl, F5⟩; obtain ⟨d1, _, _, g1⟩ := F5.out.rs.cells; have g1 := g1 1; have FN := Lib.hid (F5.out.next CT.out hq4); have hil3 : q3.i < T.length := F5.out.rs.pt.inn)
        | (go_at_call 29; (with_reducible refine (sz_value FN.out ⟨rfl, rfl, rfl⟩ hq5).mono ?_); rintro e v6 ⟨An, cn, l, rfl, c7, f7, h5⟩; have F7 := Lib.hid h5.out.1; have HV := Lib.hid h5.out.2; clear h5)
        | (go_at_call 49; (with_reducible refine (sz_mark F7.out 59 hq6).mono ?_); rintro e v7 ⟨rfl, F8⟩)
        | (refine wpList_load_cb rfl 51 (.tmp 4) rfl _ _ rfl F8.out.s4 Tryz.underlying51 rfl (by kernel_rfl) ?_)
        | (refine wpList_store_cb rfl 51 (.tmp 2) (.tmp 116) rfl w.heap.size (stC st0 (.slice none 0 0)) _ rfl rfl F8.out.r2 rfl (by kernel_rfl) (by kernel_rfl) ?_; intro w9 h9 t9))
      obtain ⟨z1, z2, z3⟩ := F8.out.close t9
      refine bodyPost_ret (results_cb rfl _ _ _ _ rfl h9 Tryz.underlying51 rfl (by kernel_rfl)) rfl ?_
      have hv := HV.out
      refine ⟨⟨⟨1, nA, [], [], [], n3, l, t.a⟩, An, cn⟩, rfl, by rw [HS.out]; exact z1, z2, z3, ?_⟩
      rw [HS.out, hv]

set_option maxRecDepth 100000 in
set_option maxHeartbeats 8000000 in
theorem rstep2_any {w : World} {g : Nat} {A : Option Addr} {c : Nat} {T : List Tk} {p : PS} (h : RZ w g A c T p) (hK : stepK T p = 2) :
    Calls Tryz.prog 85 #[.pointer (some ⟨g, 0, none⟩)] w (StepR g A c T p w) := by
  obtain ⟨h0, hk1⟩ := rstep_pre hK (by decide) (by decide)
  have hgl := h.len
  obtain ⟨t, ht⟩ : ∃ t, p.tok T = t := ⟨_, rfl⟩
  obtain ⟨q0, hq0⟩ : ∃ q, p.next = q := ⟨_, rfl⟩
  obtain ⟨q1, nA, hq1⟩ : ∃ q nm, q0.name T = (q, nm) := ⟨_, _, rfl⟩
  obtain ⟨q2, hq2⟩ : ∃ q, q1.word T [116, 111] = q := ⟨_, rfl⟩
  obtain ⟨q3, n3, hq3⟩ : ∃ q nm, q2.name T = (q, nm) := ⟨_, _, rfl⟩
  obtain ⟨q4, hq4⟩ : ∃ q, q3.mark T 59 = q := ⟨_, rfl⟩
  have hS : p.step T = (q4, ⟨2, nA, n3, [], [], [], [], t.a⟩) := by
    unfold PS.step
    rw [hK]
    dsimp only
    rw [if_neg (by decide), hq0, hq1]
    dsimp only
    rw [if_neg (by decide)]
    rw [if_pos rfl]
    rw [ls_to, hq2]
    rw [hq3]
    dsimp only
    rw [hq4]
    rw [ht]
  have HS := Lib.hid hS
  have HK0 : Hid (p.flt = 0 ∧ (p.tok T).k ≠ 0) := ⟨h0, hk1⟩
  have HKK := Lib.hid hK
  have hb1 : Below w.heap.size w (w.alloc (.cells #[.int .i64 0, .string ⟨#[]⟩, .string ⟨#[]⟩, .string ⟨#[]⟩, .string ⟨#[]⟩, .string ⟨#[]⟩, .slice none 0 0, .int .i64 0] 51)) := (Below.refl _ w).alloc (Nat.le_refl _) _
  have hc1 : CB (w.alloc (.cells #[.int .i64 0, .string ⟨#[]⟩, .string ⟨#[]⟩, .string ⟨#[]⟩, .string ⟨#[]⟩, .string ⟨#[]⟩, .slice none 0 0, .int .i64 0] 51)) w.heap.size 51 (stC st0 (.slice none 0 0)) := CB.new w _ _
  have ct := ztok_any (h.below hb1) ht
  have hs1 : (w.alloc (.cells #[.int .i64 0, .string ⟨#[]⟩, .string ⟨#[]⟩, .string ⟨#[]⟩, .string ⟨#[]⟩, .string ⟨#[]⟩, .slice none 0 0, .int .i64 0] 51)).heap.size = w.heap.size + 1 := by simp
  have PRE : Hid (∀ w2, Below (w.alloc (.cells #[.int .i64 0, .string ⟨#[]⟩, .string ⟨#[]⟩, .string ⟨#[]⟩, .string ⟨#[]⟩, .string ⟨#[]⟩, .slice none 0 0, .int .i64 0] 51)).heap.size (w.alloc (.cells #[.int .i64 0, .string ⟨#[]⟩, .string ⟨#[]⟩, .string ⟨#[]⟩, .string ⟨#[]⟩, .string ⟨#[]⟩, .slice none 0 0, .int .i64 0] 51)) w2 → ∃ w3 w4 w5 : World, w2.alloc (.cells #[.int .i64 (t.k : Nat), .string (str t.t), .int .u64 (t.n : Nat), .int .i64 (t.a : Nat), .int .i64 (t.e : Nat)] 78) = w3 ∧ w3.alloc (.cells #[.int .i64 0, .string ⟨#[]⟩, .string ⟨#[]⟩, .string ⟨#[]⟩, .string ⟨#[]⟩, .string ⟨#[]⟩, .slice none 0 0, .int .i64 (t.a : Nat)] 51) = w4 ∧ w4.alloc (.cells #[.string ⟨#[]⟩, .string ⟨#[97, 100, 100]⟩, .string ⟨#[114, 101, 110, 97, 109, 101]⟩, .string ⟨#[115, 112, 108, 105, 116]⟩, .string ⟨#[106, 111, 105, 110]⟩, .string ⟨#[114, 101, 116, 121, 112, 101]⟩, .string ⟨#[100, 114, 111, 112]⟩] 9) = w5 ∧ w3.heap.size = w2.heap.size + 1 ∧ w4.heap.size = w2.heap.size + 2 ∧ w3.cell? ⟨w2.heap.size, 3, none⟩ = some (.int .i64 (t.a : Nat)) ∧
      Hid (SZ w w5 g A c T p w.heap.size (w2.heap.size + 1) ⟨⟨0, [], [], [], [], [], [], t.a⟩, none, 0⟩ ∧ CB w5 w2.heap.size 78 #[.int .i64 (t.k : Nat), .string (str t.t), .int .u64 (t.n : Nat), .int .i64 (t.a : Nat), .int .i64 (t.e : Nat)] ∧ CB w5 (w2.heap.size + 2) 9 kwC)) := fun w2 hb2 => by
    obtain ⟨w3, h3⟩ : ∃ w3, w2.alloc (.cells #[.int .i64 (t.k : Nat), .string (str t.t), .int .u64 (t.n : Nat), .int .i64 (t.a : Nat), .int .i64 (t.e : Nat)] 78) = w3 := ⟨_, rfl⟩
    obtain ⟨w4, h4⟩ : ∃ w4, w3.alloc (.cells #[.int .i64 0, .string ⟨#[]⟩, .string ⟨#[]⟩, .string ⟨#[]⟩, .string ⟨#[]⟩, .string ⟨#[]⟩, .slice none 0 0, .int .i64 (t.a : Nat)] 51) = w4 := ⟨_, rfl⟩
    obtain ⟨w5, h5⟩ : ∃ w5, w4.alloc (.cells #[.string ⟨#[]⟩, .string ⟨#[97, 100, 100]⟩, .string ⟨#[114, 101, 110, 97, 109, 101]⟩, .string ⟨#[115, 112, 108, 105, 116]⟩, .string ⟨#[106, 111, 105, 110]⟩, .string ⟨#[114, 101, 116, 121, 112, 101]⟩, .string ⟨#[100, 114, 111, 112]⟩] 9) = w5 := ⟨_, rfl⟩
    have s3 : w3.heap.size = w2.heap.size + 1 := by rw [← h3]; simp
    have s4 : w4.heap.size = w2.heap.size + 2 := by rw [← h4]; simp [s3]
    have b3 : Below w2.heap.size w2 w3 := by rw [← h3]; exact (Below.refl _ w2).alloc (Nat.le_refl _) _
    have b4 : Below w3.heap.size w3 w4 := by rw [← h4]; exact (Below.refl _ w3).alloc (Nat.le_refl _) _
    have b5 : Below w4.heap.size w4 w5 := by rw [← h5]; exact (Below.refl _ w4).alloc (Nat.le_refl _) _
    have t3 : CB w3 w2.heap.size 78 #[.int .i64 (t.k : Nat), .string (str t.t), .int .u64 (t.n : Nat), .int .i64 (t.a : Nat), .int .i64 (t.e : Nat)] := by rw [← h3]; exact CB.new w2 _ _
    have k5 : CB w5 (w2.heap.size + 2) 9 kwC := by rw [← s4, ← h5]; exact CB.new w4 _ _
    have r1 := h.below hb1
    have r2 := r1.below hb2
    have r3 := r2.below b3
    have c2 := (hc1.below hb2).below b3
    have gn3 : Gn g w w3 := ((Gn.of hb1).trans (Gn.of hb2)).trans (Gn.of b3)
    have z4 := sz_start r3 c2 gn3 hgl (Nat.le_refl _) ⟨⟨0, [], [], [], [], [], [], t.a⟩, none, 0⟩ ⟨rfl, rfl, rfl⟩
    rw [s3] at z4
    have z4' : SZ w w4 g A c T p w.heap.size (w2.heap.size + 1) ⟨⟨0, [], [], [], [], [], [], t.a⟩, none, 0⟩ := by rw [← h4]; exact z4
    exact ⟨w3, w4, w5, h3, h4, h5, s3, s4, t3.at_ 3, z4'.call (Gn.of b5) (z4'.rs.below b5), (t3.below b4).below b5, k5⟩
  clear h hK ht hS hb1 hc1 h0 hk1
  go_enter Tryz.func85, Tryz.ntmps85
  go_wp2_with (go_at_call 46; refine ct.mono ?_; rintro e w2 ⟨rfl, hb2⟩; obtain ⟨w3, w4, w5, e3, e4, e5, s3, s4, c33, HF5⟩ := PRE.out w2 hb2; clear ct)
  clear e3 e4 e5 c33 PRE
  go_loopw [6] (fun u wr => ∃ i : Nat, u = .int .i64 i ∧ 1 ≤ i ∧ i ≤ 7 ∧ Hid (SZ w wr g A c T p w.heap.size (w2.heap.size + 1) ⟨⟨if stepK T p < i then stepK T p else 0, [], [], [], [], [], [], t.a⟩, none, 0⟩ ∧ CB wr w2.heap.size 78 #[.int .i64 (t.k : Nat), .string (str t.t), .int .u64 (t.n : Nat), .int .i64 (t.a : Nat), .int .i64 (t.e : Nat)] ∧ CB wr (w2.heap.size + 2) 9 kwC)) (fun u _ => 7 - (intOf u).toNat)
  case atStart =>
    refine ⟨1, rfl, by omega, by omega, ?_⟩
    have e : (if stepK T p < 1 then stepK T p else 0) = 0 := by split <;> omega
    rw [e]
    exact HF5
  case round =>
    clear HF5
    obtain ⟨i, rfl, hi1, hi7, HF⟩ := hrel
    by_cases hlt : i < 7
    · have hlz : (i : Int) < 7 := by omega
      have hi0 : (0 : Int) ≤ (i : Int) := by omega
      have ck := kwC_at _ _ HF.out.2.2 i hlt
      obtain ⟨s, hs⟩ : ∃ s, kwL[i]'hlt = s := ⟨_, rfl⟩
      obtain ⟨b, hb⟩ : ∃ b, decide (stepK T p = i) = b := ⟨_, rfl⟩
      have hi := step_is (T := T) p i hlt hi1
      rw [hs, hb] at hi
      rw [hs] at ck
      obtain ⟨x, hx⟩ : ∃ x : LSt, (⟨⟨if stepK T p < i then stepK T p else 0, [], [], [], [], [], [], t.a⟩, none, 0⟩ : LSt) = x := ⟨_, rfl⟩
      have HX := Lib.hid hx
      rw [hx] at HF
      have ci := sz_isw HF.out.1 s hi
      cases b with
      | false =>
        have hne := of_decide_eq_false hb
        have NX : Hid (∀ W, Below wr.heap.size wr W → SZ w W g A c T p w.heap.size (w2.heap.size + 1) x → Hid (SZ w W g A c T p w.heap.size (w2.heap.size + 1) ⟨⟨if stepK T p < i + 1 then stepK T p else 0, [], [], [], [], [], [], t.a⟩, none, 0⟩ ∧ CB W w2.heap.size 78 #[.int .i64 (t.k : Nat), .string (str t.t), .int .u64 (t.n : Nat), .int .i64 (t.a : Nat), .int .i64 (t.e : Nat)] ∧ CB W (w2.heap.size + 2) 9 kwC)) := fun W hW hz => by
          have e : (if stepK T p < i + 1 then stepK T p else 0) = if stepK T p < i then stepK T p else 0 := by
            by_cases h : stepK T p < i
            · rw [if_pos h, if_pos (by omega)]
            · rw [if_neg h, if_neg (by omega)]
          rw [e, HX.out]
          exact ⟨hz, HF.out.2.1.below hW, HF.out.2.2.below hW⟩
        clear hx hs hb hi hne
        go_wp2_with (go_at_call 24; refine ci.mono ?_; rintro e w6 ⟨rfl, hb6, HZ6⟩; have HN := NX.out _ hb6 HZ6.out)
        go_roundw
        case rel => exact ⟨i + 1, by go_num, by omega, by omega, HN⟩
        case measure => simp [intOf]; omega
      | true =>
        have heq := of_decide_eq_true hb
        have NX : Hid (∀ W, Below wr.heap.size wr W → SZ w W g A c T p w.heap.size (w2.heap.size + 1) x → (∃ v, W.cell? ⟨w2.heap.size + 1, 0, none⟩ = some v) ∧ W.frozen? ⟨w2.heap.size + 1, 0, none⟩ = false ∧ Hid (SZ w (W.setCell ⟨w2.heap.size + 1, 0, none⟩ (.int .i64 (i : Nat))) g A c T p w.heap.size (w2.heap.size + 1) ⟨⟨if stepK T p < i + 1 then stepK T p else 0, [], [], [], [], [], [], t.a⟩, none, 0⟩ ∧ CB (W.setCell ⟨w2.heap.size + 1, 0, none⟩ (.int .i64 (i : Nat))) w2.heap.size 78 #[.int .i64 (t.k : Nat), .string (str t.t), .int .u64 (t.n : Nat), .int .i64 (t.a : Nat), .int .i64 (t.e : Nat)] ∧ CB (W.setCell ⟨w2.heap.size + 1, 0, none⟩ (.int .i64 (i : Nat))) (w2.heap.size + 2) 9 kwC)) := fun W hW hz => by
          have e : (if stepK T p < i + 1 then stepK T p else 0) = i := by rw [if_pos (by omega), heq]
          rw [e]
          rw [← HX.out] at hz
          have o : ∀ k, k ≠ w2.heap.size + 1 → (W.setCell ⟨w2.heap.size + 1, 0, none⟩ (.int .i64 (i : Nat))).heap[k]? = W.heap[k]? := fun k hk => Below.heap_setCell W ⟨w2.heap.size + 1, 0, none⟩ _ k hk
          refine ⟨⟨_, (hz.at_ 0).1⟩, (hz.at_ 0).2, hz.set 0 _ rfl ?_ ?_, ((HF.out.2.1.below hW).keep (o _ (by omega))), ((HF.out.2.2.below hW).keep (o _ (by omega)))⟩
          · exact OwnN.nil _ _
          · exact fun b hb => by simp [StLev, obk] at hb
        clear hx hs hb hi heq
        go_wp2_with (go_at_call 24; refine ci.mono ?_; rintro e w6 ⟨rfl, hb6, HZ6⟩; obtain ⟨⟨v6, c6⟩, f6, HN⟩ := NX.out _ hb6 HZ6.out)
        go_roundw
        case rel => exact ⟨i + 1, by go_num, by omega, by omega, HN⟩
        case measure => simp [intOf]; omega
    · obtain rfl : i = 7 := by omega
      have hlz : ¬ ((7 : Nat) : Int) < 7 := by omega
      have e7 : (if stepK T p < 7 then stepK T p else 0) = 2 := by rw [HKK.out]; rfl
      rw [e7] at HF
      have c40 := (HF.out.1.at_ 0).1
      change wr.cell? ⟨w2.heap.size + 1, 0, none⟩ = some (.int .i64 2) at c40
      have F0 := Lib.hid (HF.out.1)
      obtain ⟨c1, _, _, f1⟩ := F0.out.rs.cells
      have f1 := f1 1
      have F1 := Lib.hid (F0.out.next HK0.out.2 hq0)
      have hil : p.i < T.length := F0.out.rs.pt.inn
      have hfew : T.length ≤ 2000000 := F0.out.rs.pt.few
      clear hlz e7 HF
      go_wp2_with (first
        | (go_at_call 48; (with_reducible refine (sz_nameA F1.out hq1 ⟨⟨2, nA, [], [], [], [], [], t.a⟩, none, 0⟩ (.string ⟨#[]⟩) (.int .i64 2) rfl rfl rfl rfl rfl rfl).mono ?_); rintro e v1 ⟨rfl, k0, c2, f2, F2⟩)
        | (go_at_call 47; (with_reducible refine (sz_word F2.out [116, 111] ⟨#[116, 111]⟩ rfl hq2).mono ?_); rintro e v2 ⟨rfl, F3⟩)
        | (go_at_call 48; (with_reducible refine (sz_name F3.out hq3 2 ⟨⟨2, nA, n3, [], [], [], [], t.a⟩, none, 0⟩ (.string ⟨#[]⟩) rfl rfl rfl rfl rfl).mono ?_); rintro e v3 ⟨rfl, c4, f4, F4⟩)
        | (go_at_call 49; (with_reducible refine (sz_mark F4.out 59 hq4).mono ?_); rintro e v4 ⟨rfl, F5⟩)
        | (refine wpList_load_cb rfl 51 (.tmp 4) rfl _ _ rfl F5.out.s4 Tryz.underlying51 rfl (by kernel_rfl) ?_)
        | (refine wpList_store_cb rfl 51 (.tmp 2) (.tmp 116) rfl w.heap.size (stC st0 (.slice none 0 0)) _ rfl rfl F5.out.r2 rfl (by kernel_rfl) (by kernel_rfl) ?_; intro w9 h9 t9))
      obtain ⟨z1, z2, z3⟩ := F5.out.close t9
      refine bodyPost_ret (results_cb rfl _ _ _ _ rfl h9 Tryz.underlying51 rfl (by kernel_rfl)) rfl ?_
      exact ⟨⟨⟨2, nA, n3, [], [], [], [], t.a⟩, none, 0⟩, rfl, by rw [HS.out]; exact z1, z2, z3, by rw [HS.out]⟩

set_option maxRecDepth 100000 in
set_option maxHeartbeats 8000000 in
theorem rstep3_any {w : World} {g : Nat} {A : Option Addr} {c : Nat} {T : List Tk} {p : PS} (h : RZ w g A c T p) (hK : stepK T p = 3) :
    Calls Tryz.prog 85 #[.pointer (some ⟨g, 0, none⟩)] w (StepR g A c T p w) := by
  obtain ⟨h0, hk1⟩ := rstep_pre hK (by decide) (by decide)
  have hgl := h.len
  obtain ⟨t, ht⟩ : ∃ t, p.tok T = t := ⟨_, rfl⟩
  obtain ⟨q0, hq0⟩ : ∃ q, p.next = q := ⟨_, rfl⟩
  obtain ⟨q1, nA, hq1⟩ : ∃ q nm, q0.name T = (q, nm) := ⟨_, _, rfl⟩
  obtain ⟨q2, hq2⟩ : ∃ q, q1.word T [97, 116] = q := ⟨_, rfl⟩
  obtain ⟨q3, n3, hq3⟩ : ∃ q nm, q2.text T = (q, nm) := ⟨_, _, rfl⟩
  obtain ⟨q4, hq4⟩ : ∃ q, q3.word T [105, 110, 116, 111] = q := ⟨_, rfl⟩
  obtain ⟨q5, n5, hq5⟩ : ∃ q nm, q4.name T = (q, nm) := ⟨_, _, rfl⟩
  obtain ⟨q6, hq6⟩ : ∃ q, q5.mark T 44 = q := ⟨_, rfl⟩
  obtain ⟨q7, n7, hq7⟩ : ∃ q nm, q6.name T = (q, nm) := ⟨_, _, rfl⟩
  obtain ⟨q8, hq8⟩ : ∃ q, q7.mark T 59 = q := ⟨_, rfl⟩
  have hS : p.step T = (q8, ⟨3, nA, n5, n7, n3, [], [], t.a⟩) := by
    unfold PS.step
    rw [hK]
    dsimp only
    rw [if_neg (by decide), hq0, hq1]
    dsimp only
    rw [if_neg (by decide)]
    rw [if_neg (by decide)]
    rw [if_pos rfl]
    rw [ls_at, hq2]
    rw [hq3]
    dsimp only
    rw [ls_into, hq4]
    rw [hq5]
    dsimp only
    rw [hq6]
    rw [hq7]
    dsimp only
    rw [hq8]
    rw [ht]
  have HS := Lib.hid hS
  have HK0 : Hid (p.flt = 0 ∧ (p.tok T).k ≠ 0) := ⟨h0, hk1⟩
  have HKK := Lib.hid hK
  have hb1 : Below w.heap.size w (w.alloc (.cells #[.int .i64 0, .string ⟨#[]⟩, .string ⟨#[]⟩, .string ⟨#[]⟩, .string ⟨#[]⟩, .string ⟨#[]⟩, .slice none 0 0, .int .i64 0] 51)) := (Below.refl _ w).alloc (Nat.le_refl _) _
  have hc1 : CB (w.alloc (.cells #[.int .i64 0, .string ⟨#[]⟩, .string ⟨#[]⟩, .string ⟨#[]⟩, .string ⟨#[]⟩, .string ⟨#[]⟩, .slice none 0 0, .int .i64 0] 51)) w.heap.size 51 (stC st0 (.slice none 0 0)) := CB.new w _ _
  have ct := ztok_any (h.below hb1) ht
  have hs1 : (w.alloc (.cells #[.int .i64 0, .string ⟨#[]⟩, .string ⟨#[]⟩, .string ⟨#[]⟩, .string ⟨#[]⟩, .string ⟨#[]⟩, .slice none 0 0, .int .i64 0] 51)).heap.size = w.heap.size + 1 := by simp
  have PRE : Hid (∀ w2, Below (w.alloc (.cells #[.int .i64 0, .string ⟨#[]⟩, .string ⟨#[]⟩, .string ⟨#[]⟩, .string ⟨#[]⟩, .string ⟨#[]⟩, .slice none 0 0, .int .i64 0] 51)).heap.size (w.alloc (.cells #[.int .i64 0, .string ⟨#[]⟩, .string ⟨#[]⟩, .string ⟨#[]⟩, .string ⟨#[]⟩, .string ⟨#[]⟩, .slice none 0 0, .int .i64 0] 51)) w2 → ∃ w3 w4 w5 : World, w2.alloc (.cells #[.int .i64 (t.k : Nat), .string (str t.t), .int .u64 (t.n : Nat), .int .i64 (t.a : Nat), .int .i64 (t.e : Nat)] 78) = w3 ∧ w3.alloc (.cells #[.int .i64 0, .string ⟨#[]⟩, .string ⟨#[]⟩, .string ⟨#[]⟩, .string ⟨#[]⟩, .string ⟨#[]⟩, .slice none 0 0, .int .i64 (t.a : Nat)] 51) = w4 ∧ w4.alloc (.cells #[.string ⟨#[]⟩, .string ⟨#[97, 100, 100]⟩, .string ⟨#[114, 101, 110, 97, 109, 101]⟩, .string ⟨#[115, 112, 108, 105, 116]⟩, .string ⟨#[106, 111, 105, 110]⟩, .string ⟨#[114, 101, 116, 121, 112, 101]⟩, .string ⟨#[100, 114, 111, 112]⟩] 9) = w5 ∧ w3.heap.size = w2.heap.size + 1 ∧ w4.heap.size = w2.heap.size + 2 ∧ w3.cell? ⟨w2.heap.size, 3, none⟩ = some (.int .i64 (t.a : Nat)) ∧
      Hid (SZ w w5 g A c T p w.heap.size (w2.heap.size + 1) ⟨⟨0, [], [], [], [], [], [], t.a⟩, none, 0⟩ ∧ CB w5 w2.heap.size 78 #[.int .i64 (t.k : Nat), .string (str t.t), .int .u64 (t.n : Nat), .int .i64 (t.a : Nat), .int .i64 (t.e : Nat)] ∧ CB w5 (w2.heap.size + 2) 9 kwC)) := fun w2 hb2 => by
    obtain ⟨w3, h3⟩ : ∃ w3, w2.alloc (.cells #[.int .i64 (t.k : Nat), .string (str t.t), .int .u64 (t.n : Nat), .int .i64 (t.a : Nat), .int .i64 (t.e : Nat)] 78) = w3 := ⟨_, rfl⟩
    obtain ⟨w4, h4⟩ : ∃ w4, w3.alloc (.cells #[.int .i64 0, .string ⟨#[]⟩, .string ⟨#[]⟩, .string ⟨#[]⟩, .string ⟨#[]⟩, .string ⟨#[]⟩, .slice none 0 0, .int .i64 (t.a : Nat)] 51) = w4 := ⟨_, rfl⟩
    obtain ⟨w5, h5⟩ : ∃ w5, w4.alloc (.cells #[.string ⟨#[]⟩, .string ⟨#[97, 100, 100]⟩, .string ⟨#[114, 101, 110, 97, 109, 101]⟩, .string ⟨#[115, 112, 108, 105, 116]⟩, .string ⟨#[106, 111, 105, 110]⟩, .string ⟨#[114, 101, 116, 121, 112, 101]⟩, .string ⟨#[100, 114, 111, 112]⟩] 9) = w5 := ⟨_, rfl⟩
    have s3 : w3.heap.size = w2.heap.size + 1 := by rw [← h3]; simp
    have s4 : w4.heap.size = w2.heap.size + 2 := by rw [← h4]; simp [s3]
    have b3 : Below w2.heap.size w2 w3 := by rw [← h3]; exact (Below.refl _ w2).alloc (Nat.le_refl _) _
    have b4 : Below w3.heap.size w3 w4 := by rw [← h4]; exact (Below.refl _ w3).alloc (Nat.le_refl _) _
    have b5 : Below w4.heap.size w4 w5 := by rw [← h5]; exact (Below.refl _ w4).alloc (Nat.le_refl _) _
    have t3 : CB w3 w2.heap.size 78 #[.int .i64 (t.k : Nat), .string (str t.t), .int .u64 (t.n : Nat), .int .i64 (t.a : Nat), .int .i64 (t.e : Nat)] := by rw [← h3]; exact CB.new w2 _ _
    have k5 : CB w5 (w2.heap.size + 2) 9 kwC := by rw [← s4, ← h5]; exact CB.new w4 _ _
    have r1 := h.below hb1
    have r2 := r1.below hb2
    have r3 := r2.below b3
    have c2 := (hc1.below hb2).below b3
    have gn3 : Gn g w w3 := ((Gn.of hb1).trans (Gn.of hb2)).trans (Gn.of b3)
    have z4 := sz_start r3 c2 gn3 hgl (Nat.le_refl _) ⟨⟨0, [], [], [], [], [], [], t.a⟩, none, 0⟩ ⟨rfl, rfl, rfl⟩
    rw [s3] at z4
    have z4' : SZ w w4 g A c T p w.heap.size (w2.heap.size + 1) ⟨⟨0, [], [], [], [], [], [], t.a⟩, none, 0⟩ := by rw [← h4]; exact z4
    exact ⟨w3, w4, w5, h3, h4, h5, s3, s4, t3.at_ 3, z4'.call (Gn.of b5) (z4'.rs.below b5), (t3.below b4).below b5, k5⟩
  clear h hK ht hS hb1 hc1 h0 hk1
  go_enter Tryz.func85, Tryz.ntmps85
  go_wp2_with (go_at_call 46; refine ct.mono ?_; rintro e w2 ⟨rfl, hb2⟩; obtain ⟨w3, w4, w5, e3, e4, e5, s3, s4, c33, HF5⟩ := PRE.out w2 hb2; clear ct)
  clear e3 e4 e5 c33 PRE
  go_loopw [6] (fun u wr => ∃ i : Nat, u = .int .i64 i ∧ 1 ≤ i ∧ i ≤ 7 ∧ Hid (SZ w wr g A c T p w.heap.size (w2.heap.size + 1) ⟨⟨if stepK T p < i then stepK T p else 0, [], [], [], [], [], [], t.a⟩, none, 0⟩ ∧ CB wr w2.heap.size 78 #[.int .i64 (t.k : Nat), .string (str t.t), .int .u64 (t.n : Nat), .int .i64 (t.a : Nat), .int .i64 (t.e : Nat)] ∧ CB wr (w2.heap.size + 2) 9 kwC)) (fun u _ => 7 - (intOf u).toNat)
  case atStart =>
    refine ⟨1, rfl, by omega, by omega, ?_⟩
    have e : (if stepK T p < 1 then stepK T p else 0) = 0 := by split <;> omega
    rw [e]
    exact HF5
  case round =>
    clear HF5
    obtain ⟨i, rfl, hi1, hi7, HF⟩ := hrel
    by_cases hlt : i < 7
    · have hlz : (i : Int) < 7 := by omega
      have hi0 : (0 : Int) ≤ (i : Int) := by omega
      have ck := kwC_at _ _ HF.out.2.2 i hlt
      obtain ⟨s, hs⟩ : ∃ s, kwL[i]'hlt = s := ⟨_, rfl⟩
      obtain ⟨b, hb⟩ : ∃ b, decide (stepK T p = i) = b := ⟨_, rfl⟩
      have hi := step_is (T := T) p i hlt hi1
      rw [hs, hb] at hi
      rw [hs] at ck
      obtain ⟨x, hx⟩ : ∃ x : LSt, (⟨⟨if stepK T p < i then stepK T p else 0, [], [], [], [], [], [], t.a⟩, none, 0⟩ : LSt) = x := ⟨_, rfl⟩
      have HX := Lib.hid hx
      rw [hx] at HF
      have ci := sz_isw HF.out.1 s hi
      cases b with
      | false =>
        have hne := of_decide_eq_false hb
        have NX : Hid (∀ W, Below wr.heap.size wr W → SZ w W g A c T p w.heap.size (w2.heap.size + 1) x → Hid (SZ w W g A c T p w.heap.size (w2.heap.size + 1) ⟨⟨if stepK T p < i + 1 then stepK T p else 0, [], [], [], [], [], [], t.a⟩, none, 0⟩ ∧ CB W w2.heap.size 78 #[.int .i64 (t.k : Nat), .string (str t.t), .int .u64 (t.n : Nat), .int .i64 (t.a : Nat), .int .i64 (t.e : Nat)] ∧ CB W (w2.heap.size + 2) 9 kwC)) := fun W hW hz => by
          have e : (if stepK T p < i + 1 then stepK T p else 0) = if stepK T p < i then stepK T p else 0 := by
            by_cases h : stepK T p < i
            · rw [if_pos h, if_pos (by omega)]
            · rw [if_neg h, if_neg (by omega)]
          rw [e, HX.out]
          exact ⟨hz, HF.out.2.1.below hW, HF.out.2.2.below hW⟩
        clear hx hs hb hi hne
        go_wp2_with (go_at_call 24; refine ci.mono ?_; rintro e w6 ⟨rfl, hb6, HZ6⟩; have HN := NX.out _ hb6 HZ6.out)
        go_roundw
        case rel => exact ⟨i + 1, by go_num, by omega, by omega, HN⟩
        case measure => simp [intOf]; omega
      | true =>
        have heq := of_decide_eq_true hb
        have NX : Hid (∀ W, Below wr.heap.size wr W → SZ w W g A c T p w.heap.size (w2.heap.size + 1) x → (∃ v, W.cell? ⟨w2.heap.size + 1, 0, none⟩ = some v) ∧ W.frozen? ⟨w2.heap.size + 1, 0, none⟩ = false ∧ Hid (SZ w (W.setCell ⟨w2.heap.size + 1, 0, none⟩ (.int .i64 (i : Nat))) g A c T p w.heap.size (w2.heap.size + 1) ⟨⟨if stepK T p < i + 1 then stepK T p else 0, [], [], [], [], [], [], t.a⟩, none, 0⟩ ∧ CB (W.setCell ⟨w2.heap.size + 1, 0, none⟩ (.int .i64 (i : Nat))) w2.heap.size 78 #[.int .i64 (t.k : Nat), .string (str t.t), .int .u64 (t.n : Nat), .int .i64 (t.a : Nat), .int .i64 (t.e : Nat)] ∧ CB (W.setCell ⟨w2.heap.size + 1, 0, none⟩ (.int .i64 (i : Nat))) (w2.heap.size + 2) 9 kwC)) := fun W hW hz => by
          have e : (if stepK T p < i + 1 then stepK T p else 0) = i := by rw [if_pos (by omega), heq]
          rw [e]
          rw [← HX.out] at hz
          have o : ∀ k, k ≠ w2.heap.size + 1 → (W.setCell ⟨w2.heap.size + 1, 0, none⟩ (.int .i64 (i : Nat))).heap[k]? = W.heap[k]? := fun k hk => Below.heap_setCell W ⟨w2.heap.size + 1, 0, none⟩ _ k hk
          refine ⟨⟨_, (hz.at_ 0).1⟩, (hz.at_ 0).2, hz.set 0 _ rfl ?_ ?_, ((HF.out.2.1.below hW).keep (o _ (by omega))), ((HF.out.2.2.below hW).keep (o _ (by omega)))⟩
          · exact OwnN.nil _ _
          · exact fun b hb => by simp [StLev, obk] at hb
        clear hx hs hb hi heq
        go_wp2_with (go_at_call 24; refine ci.mono ?_; rintro e w6 ⟨rfl, hb6, HZ6⟩; obtain ⟨⟨v6, c6⟩, f6, HN⟩ := NX.out _ hb6 HZ6.out)
        go_roundw
        case rel => exact ⟨i + 1, by go_num, by omega, by omega, HN⟩
        case measure => simp [intOf]; omega
    · obtain rfl : i = 7 := by omega
      have hlz : ¬ ((7 : Nat) : Int) < 7 := by omega
      have e7 : (if stepK T p < 7 then stepK T p else 0) = 3 := by rw [HKK.out]; rfl
      rw [e7] at HF
      have c40 := (HF.out.1.at_ 0).1
      change wr.cell? ⟨w2.heap.size + 1, 0, none⟩ = some (.int .i64 3) at c40
      have F0 := Lib.hid (HF.out.1)
      obtain ⟨c1, _, _, f1⟩ := F0.out.rs.cells
      have f1 := f1 1
      have F1 := Lib.hid (F0.out.next HK0.out.2 hq0)
      have hil : p.i < T.length := F0.out.rs.pt.inn
      have hfew : T.length ≤ 2000000 := F0.out.rs.pt.few
      clear hlz e7 HF
      go_wp2_with (first
        | (go_at_call 48; (with_reducible refine (sz_nameA F1.out hq1 ⟨⟨3, nA, [], [], [], [], [], t.a⟩, none, 0⟩ (.string ⟨#[]⟩) (.int .i64 3) rfl rfl rfl rfl rfl rfl).mono ?_); rintro e v1 ⟨rfl, k0, c2, f2, F2⟩)
        | (go_at_call 47; (with_reducible refine (sz_word F2.out [97, 116] ⟨#[97, 116]⟩ rfl hq2).mono ?_); rintro e v2 ⟨rfl, F3⟩)
        | (go_at_call 121; (with_reducible refine (sz_text F3.out hq3 4 ⟨⟨3, nA, [], [], n3, [], [], t.a⟩, none, 0⟩ (.string ⟨#[]⟩) rfl rfl rfl rfl rfl).mono ?_); rintro e v3 ⟨rfl, c4, f4, F4⟩)
        | (go_at_call 47; (with_reducible refine (sz_word F4.out [105, 110, 116, 111] ⟨#[105, 110, 116, 111]⟩ rfl hq4).mono ?_); rintro e v4 ⟨rfl, F5⟩)
        | (go_at_call 48; (with_reducible refine (sz_name F5.out hq5 2 ⟨⟨3, nA, n5, [], n3, [], [], t.a⟩, none, 0⟩ (.string ⟨#[]⟩) rfl rfl rfl rfl rfl).mono ?_); rintro e v5 ⟨rfl, c6, f6, F6⟩)
        | (go_at_call 49; (with_reducible refine (sz_mark F6.out 44 hq6).mono ?_); rintro e v6 ⟨rfl, F7⟩)
        | (go_at_call 48; (with_reducible refine (sz_name F7.out hq7 3 ⟨⟨3, nA, n5, n7, n3, [], [], t.a⟩, none, 0⟩ (.string ⟨#[]⟩) rfl rfl rfl rfl rfl).mono ?_); rintro e v7 ⟨rfl, c8, f8, F8⟩)
        | (go_at_call 49; (with_reducible refine (sz_mark F8.out 59 hq8).mono ?_); rintro e v8 ⟨rfl, F9⟩)
        | (refine wpList_load_cb rfl 51 (.tmp 4) rfl _ _ rfl F9.out.s4 Tryz.underlying51 rfl (by kernel_rfl) ?_)
        | (refine wpList_store_cb rfl 51 (.tmp 2) (.tmp 116) rfl w.heap.size (stC st0 (.slice none 0 0)) _ rfl rfl F9.out.r2 rfl (by kernel_rfl) (by kernel_rfl) ?_; intro w9 h9 t9))
      obtain ⟨z1, z2, z3⟩ := F9.out.close t9
      refine bodyPost_ret (results_cb rfl _ _ _ _ rfl h9 Tryz.underlying51 rfl (by kernel_rfl)) rfl ?_
      exact ⟨⟨⟨3, nA, n5, n7, n3, [], [], t.a⟩, none, 0⟩, rfl, by rw [HS.out]; exact z1, z2, z3, by rw [HS.out]⟩

set_option maxRecDepth 100000 in
set_option maxHeartbeats 8000000 in
theorem rstep4_any {w : World} {g : Nat} {A : Option Addr} {c : Nat} {T : List Tk} {p : PS} (h : RZ w g A c T p) (hK : stepK T p = 4) :
    Calls Tryz.prog 85 #[.pointer (some ⟨g, 0, none⟩)] w (StepR g A c T p w) := by
  obtain ⟨h0, hk1⟩ := rstep_pre hK (by decide) (by decide)
  have hgl := h.len
  obtain ⟨t, ht⟩ : ∃ t, p.tok T = t := ⟨_, rfl⟩
  obtain ⟨q0, hq0⟩ : ∃ q, p.next = q := ⟨_, rfl⟩
  obtain ⟨q1, nA, hq1⟩ : ∃ q nm, q0.name T = (q, nm) := ⟨_, _, rfl⟩
  obtain ⟨q2, hq2⟩ : ∃ q, q1.mark T 44 = q := ⟨_, rfl⟩
  obtain ⟨q3, n3, hq3⟩ : ∃ q nm, q2.name T = (q, nm) := ⟨_, _, rfl⟩
  obtain ⟨q4, hq4⟩ : ∃ q, q3.word T [119, 105, 116, 104] = q := ⟨_, rfl⟩
  obtain ⟨q5, n5, hq5⟩ : ∃ q nm, q4.text T = (q, nm) := ⟨_, _, rfl⟩
  obtain ⟨q6, hq6⟩ : ∃ q, q5.word T [105, 110, 116, 111] = q := ⟨_, rfl⟩
  obtain ⟨q7, n7, hq7⟩ : ∃ q nm, q6.name T = (q, nm) := ⟨_, _, rfl⟩
  obtain ⟨q8, hq8⟩ : ∃ q, q7.mark T 59 = q := ⟨_, rfl⟩
  have hS : p.step T = (q8, ⟨4, nA, n3, n7, n5, [], [], t.a⟩) := by
    unfold PS.step
    rw [hK]
    dsimp only
    rw [if_neg (by decide), hq0, hq1]
    dsimp only
    rw [if_neg (by decide)]
    rw [if_neg (by decide)]
    rw [if_neg (by decide)]
    rw [if_pos rfl]
    rw [hq2]
    rw [hq3]
    dsimp only
    rw [ls_with, hq4]
    rw [hq5]
    dsimp only
    rw [ls_into, hq6]
    rw [hq7]
    dsimp only
    rw [hq8]
    rw [ht]
  have HS := Lib.hid hS
  have HK0 : Hid (p.flt = 0 ∧ (p.tok T).k ≠ 0) := ⟨h0, hk1⟩
  have HKK := Lib.hid hK
  have hb1 : Below w.heap.size w (w.alloc (.cells #[.int .i64 0, .string ⟨#[]⟩, .string ⟨#[]⟩, .string ⟨#[]⟩, .string ⟨#[]⟩, .string ⟨#[]⟩, .slice none 0 0, .int .i64 0] 51)) := (Below.refl _ w).alloc (Nat.le_refl _) _
  have hc1 : CB (w.alloc (.cells #[.int .i64 0, .string ⟨#[]⟩, .string ⟨#[]⟩, .string ⟨#[]⟩, .string ⟨#[]⟩, .string ⟨#[]⟩, .slice none 0 0, .int .i64 0] 51)) w.heap.size 51 (stC st0 (.slice none 0 0)) := CB.new w _ _
  have ct := ztok_any (h.below hb1) ht
  have hs1 : (w.alloc (.cells #[.int .i64 0, .string ⟨#[]⟩, .string ⟨#[]⟩, .string ⟨#[]⟩, .string ⟨#[]⟩, .string ⟨#[]⟩, .slice none 0 0, .int .i64 0] 51)).heap.size = w.heap.size + 1 := by simp
  have PRE : Hid (∀ w2, Below (w.alloc (.cells #[.int .i64 0, .string ⟨#[]⟩, .string ⟨#[]⟩, .string ⟨#[]⟩, .string ⟨#[]⟩, .string ⟨#[]⟩, .slice none 0 0, .int .i64 0] 51)).heap.size (w.alloc (.cells #[.int .i64 0, .string ⟨#[]⟩, .string ⟨#[]⟩, .string ⟨#[]⟩, .string ⟨#[]⟩, .string ⟨#[]⟩, .slice none 0 0, .int .i64 0] 51)) w2 → ∃ w3 w4 w5 : World, w2.alloc (.cells #[.int .i64 (t.k : Nat), .string (str t.t), .int .u64 (t.n : Nat), .int .i64 (t.a : Nat), .int .i64 (t.e : Nat)] 78) = w3 ∧ w3.alloc (.cells #[.int .i64 0, .string ⟨#[]⟩, .string ⟨#[]⟩, .string ⟨#[]⟩, .string ⟨#[]⟩, .string ⟨#[]⟩, .slice none 0 0, .int .i64 (t.a : Nat)] 51) = w4 ∧ w4.alloc (.cells #[.string ⟨#[]⟩, .string ⟨#[97, 100, 100]⟩, .string ⟨#[114, 101, 110, 97, 109, 101]⟩, .string ⟨#[115, 112, 108, 105, 116]⟩, .string ⟨#[106, 111, 105, 110]⟩, .string ⟨#[114, 101, 116, 121, 112, 101]⟩, .string ⟨#[100, 114, 111, 112]⟩] 9) = w5 ∧ w3.heap.size = w2.heap.size + 1 ∧ w4.heap.size = w2.heap.size + 2 ∧ w3.cell? ⟨w2.heap.size, 3, none⟩ = some (.int .i64 (t.a : Nat)) ∧
      Hid (SZ w w5 g A c T p w.heap.size (w2.heap.size + 1) ⟨⟨0, [], [], [], [], [], [], t.a⟩, none, 0⟩ ∧ CB w5 w2.heap.size 78 #[.int .i64 (t.k : Nat), .string (str t.t), .int .u64 (t.n : Nat), .int .i64 (t.a : Nat), .int .i64 (t.e : Nat)] ∧ CB w5 (w2.heap.size + 2) 9 kwC)) := fun w2 hb2 => by
    obtain ⟨w3, h3⟩ : ∃ w3, w2.alloc (.cells #[.int .i64 (t.k : Nat), .string (str t.t), .int .u64 (t.n : Nat), .int .i64 (t.a : Nat), .int .i64 (t.e : Nat)] 78) = w3 := ⟨_, rfl⟩
    obtain ⟨w4, h4⟩ : ∃ w4, w3.alloc (.cells #[.int .i64 0, .string ⟨#[]⟩, .string ⟨#[]⟩, .string ⟨#[]⟩, .string ⟨#[]⟩, .string ⟨#[]⟩, .slice none 0 0, .int .i64 (t.a : Nat)] 51) = w4 := ⟨_, rfl⟩
    obtain ⟨w5, h5⟩ : ∃ w5, w4.alloc (.cells #[.string ⟨#[]⟩, .string ⟨#[97, 100, 100]⟩, .string ⟨#[114, 101, 110, 97, 109, 101]⟩, .string ⟨#[115, 112, 108, 105, 116]⟩, .string ⟨#[106, 111, 105, 110]⟩, .string ⟨#[114, 101, 116, 121, 112, 101]⟩, .string ⟨#[100, 114, 111, 112]⟩] 9) = w5 := ⟨_, rfl⟩
    have s3 : w3.heap.size = w2.heap.size + 1 := by rw [← h3]; simp
    have s4 : w4.heap.size = w2.heap.size + 2 := by rw [← h4]; simp [s3]
    have b3 : Below w2.heap.size w2 w3 := by rw [← h3]; exact (Below.refl _ w2).alloc (Nat.le_refl _) _
    have b4 : Below w3.heap.size w3 w4 := by rw [← h4]; exact (Below.refl _ w3).alloc (Nat.le_refl _) _
    have b5 : Below w4.heap.size w4 w5 := by rw [← h5]; exact (Below.refl _ w4).alloc (Nat.le_refl _) _
    have t3 : CB w3 w2.heap.size 78 #[.int .i64 (t.k : Nat), .string (str t.t), .int .u64 (t.n : Nat), .int .i64 (t.a : Nat), .int .i64 (t.e : Nat)] := by rw [← h3]; exact CB.new w2 _ _
    have k5 : CB w5 (w2.heap.size + 2) 9 kwC := by rw [← s4, ← h5]; exact CB.new w4 _ _
    have r1 := h.below hb1
    have r2 := r1.below hb2
    have r3 := r2.below b3
    have c2 := (hc1.below hb2).below b3
    have gn3 : Gn g w w3 := ((Gn.of hb1).trans (Gn.of hb2)).trans (Gn.of b3)
    have z4 := sz_start r3 c2 gn3 hgl (Nat.le_refl _) ⟨⟨0, [], [], [], [], [], [], t.a⟩, none, 0⟩ ⟨rfl, rfl, rfl⟩
    rw [s3] at z4
    have z4' : SZ w w4 g A c T p w.heap.size (w2.heap.size + 1) ⟨⟨0, [], [], [], [], [], [], t.a⟩, none, 0⟩ := by rw [← h4]; exact z4
    exact ⟨w3, w4, w5, h3, h4, h5, s3, s4, t3.at_ 3, z4'.call (Gn.of b5) (z4'.rs.below b5), (t3.below b4).below b5, k5⟩
  clear h hK ht hS hb1 hc1 h0 hk1
  go_enter Tryz.func85, Tryz.ntmps85
  go_wp2_with (go_at_call 46; refine ct.mono ?_; rintro e w2 ⟨rfl, hb2⟩; obtain ⟨w3, w4, w5, e3, e4, e5, s3, s4, c33, HF5⟩ := PRE.out w2 hb2; clear ct)
  clear e3 e4 e5 c33 PRE
  go_loopw [6] (fun u wr => ∃ i : Nat, u = .int .i64 i ∧ 1 ≤ i ∧ i ≤ 7 ∧ Hid (SZ w wr g A c T p w.heap.size (w2.heap.size + 1) ⟨⟨if stepK T p < i then stepK T p else 0, [], [], [], [], [], [], t.a⟩, none, 0⟩ ∧ CB wr w2.heap.size 78 #[.int .i64 (t.k : Nat), .string (str t.t), .int .u64 (t.n : Nat), .int .i64 (t.a : Nat), .int .i64 (t.e : Nat)] ∧ CB wr (w2.heap.size + 2) 9 kwC)) (fun u _ => 7 - (intOf u).toNat)
  case atStart =>
    refine ⟨1, rfl, by omega, by omega, ?_⟩
    have e : (if stepK T p < 1 then stepK T p else 0) = 0 := by split <;> omega
    rw [e]
    exact HF5
  case round =>
    clear HF5
    obtain ⟨i, rfl, hi1, hi7, HF⟩ := hrel
    by_cases hlt : i < 7
    · have hlz : (i : Int) < 7 := by omega
      have hi0 : (0 : Int) ≤ (i : Int) := by omega
      have ck := kwC_at _ _ HF.out.2.2 i hlt
      obtain ⟨s, hs⟩ : ∃ s, kwL[i]'hlt = s := ⟨_, rfl⟩
      obtain ⟨b, hb⟩ : ∃ b, decide (stepK T p = i) = b := ⟨_, rfl⟩
      have hi := step_is (T := T) p i hlt hi1
      rw [hs, hb] at hi
      rw [hs] at ck
      obtain ⟨x, hx⟩ : ∃ x : LSt, (⟨⟨if stepK T p < i then stepK T p else 0, [], [], [], [], [], [], t.a⟩, none, 0⟩ : LSt) = x := ⟨_, rfl⟩
      have HX := Lib.hid hx
      rw [hx] at HF
      have ci := sz_isw HF.out.1 s hi
      cases b with
      | false =>
        have hne := of_decide_eq_false hb
        have NX : Hid (∀ W, Below wr.heap.size wr W → SZ w W g A c T p w.heap.size (w2.heap.size + 1) x → Hid (SZ w W g A c T p w.heap.size (w2.heap.size + 1) ⟨⟨if stepK T p < i + 1 then stepK T p else 0, [], [], [], [], [], [], t.a⟩, none, 0⟩ ∧ CB W w2.heap.size 78 #[.int .i64 (t.k : Nat), .string (str t.t), .int .u64 (t.n : Nat), .int .i64 (t.a : Nat), .int .i64 (t.e : Nat)] ∧ CB W (w2.heap.size + 2) 9 kwC)) := fun W hW hz => by
          have e : (if stepK T p < i + 1 then stepK T p else 0) = if stepK T p < i then stepK T p else 0 := by
            by_cases h : stepK T p < i
            · rw [if_pos h, if_pos (by omega)]
            · rw [if_neg h, if_neg (by omega)]
          rw [e, HX.out]
          exact ⟨hz, HF.out.2.1.below hW, HF.out.2.2.below hW⟩
        clear hx hs hb hi hne
        go_wp2_with (go_at_call 24; refine ci.mono ?_; rintro e w6 ⟨rfl, hb6, HZ6⟩; have HN := NX.out _ hb6 HZ6.out)
        go_roundw
        case rel => exact ⟨i + 1, by go_num, by omega, by omega, HN⟩
        case measure => simp [intOf]; omega
      | true =>
        have heq := of_decide_eq_true hb
        have NX : Hid (∀ W, Below wr.heap.size wr W → SZ w W g A c T p w.heap.size (w2.heap.size + 1) x → (∃ v, W.cell? ⟨w2.heap.size + 1, 0, none⟩ = some v) ∧ W.frozen? ⟨w2.heap.size + 1, 0, none⟩ = false ∧ Hid (SZ w (W.setCell ⟨w2.heap.size + 1, 0, none⟩ (.int .i64 (i : Nat))) g A c T p w.heap.size (w2.heap.size + 1) ⟨⟨if stepK T p < i + 1 then stepK T p else 0, [], [], [], [], [], [], t.a⟩, none, 0⟩ ∧ CB (W.setCell ⟨w2.heap.size + 1, 0, none⟩ (.int .i64 (i : Nat))) w2.heap.size 78 #[.int .i64 (t.k : Nat), .string (str t.t), .int .u64 (t.n : Nat), .int .i64 (t.a : Nat), .int .i64 (t.e : Nat)] ∧ CB (W.setCell ⟨w2.heap.size + 1, 0, none⟩ (.int .i64 (i : Nat))) (w2.heap.size + 2) 9 kwC)) := fun W hW hz => by
          have e : (if stepK T p < i + 1 then stepK T p else 0) = i := by rw [if_pos (by omega), heq]
          rw [e]
          rw [← HX.out] at hz
          have o : ∀ k, k ≠ w2.heap.size + 1 → (W.setCell ⟨w2.heap.size + 1, 0, none⟩ (.int .i64 (i : Nat))).heap[k]? = W.heap[k]? := fun k hk => Below.heap_setCell W ⟨w2.heap.size + 1, 0, none⟩ _ k hk
          refine ⟨⟨_, (hz.at_ 0).1⟩, (hz.at_ 0).2, hz.set 0 _ rfl ?_ ?_, ((HF.out.2.1.below hW).keep (o _ (by omega))), ((HF.out.2.2.below hW).keep (o _ (by omega)))⟩
          · exact OwnN.nil _ _
          · exact fun b hb => by simp [StLev, obk] at hb
        clear hx hs hb hi heq
        go_wp2_with (go_at_call 24; refine ci.mono ?_; rintro e w6 ⟨rfl, hb6, HZ6⟩; obtain ⟨⟨v6, c6⟩, f6, HN⟩ := NX.out _ hb6 HZ6.out)
        go_roundw
        case rel => exact ⟨i + 1, by go_num, by omega, by omega, HN⟩
        case measure => simp [intOf]; omega
    · obtain rfl : i = 7 := by omega
      have hlz : ¬ ((7 : Nat) : Int) < 7 := by omega
      have e7 : (if stepK T p < 7 then stepK T p else 0) = 4 := by rw [HKK.out]; rfl
      rw [e7] at HF
      have c40 := (HF.out.1.at_ 0).1
      change wr.cell? ⟨w2.heap.size + 1, 0, none⟩ = some (.int .i64 4) at c40
      have F0 := Lib.hid (HF.out.1)
      obtain ⟨c1, _, _, f1⟩ := F0.out.rs.cells
      have f1 := f1 1
      have F1 := Lib.hid (F0.out.next HK0.out.2 hq0)
      have hil : p.i < T.length := F0.out.rs.pt.inn
      have hfew : T.length ≤ 2000000 := F0.out.rs.pt.few
      clear hlz e7 HF
      go_wp2_with (first
        | (go_at_call 48; (with_reducible refine (sz_nameA F1.out hq1 ⟨⟨4, nA, [], [], [], [], [], t.a⟩, none, 0⟩ (.string ⟨#[]⟩) (.int .i64 4) rfl rfl rfl rfl rfl rfl).mono ?_); rintro e v1 ⟨rfl, k0, c2, f2, F2⟩)
        | (go_at_call 49; (with_reducible refine (sz_mark F2.out 44 hq2).mono ?_); rintro e v2 ⟨rfl, F3⟩)
        | (go_at_call 48; (with_reducible refine (sz_name F3.out hq3 2 ⟨⟨4, nA, n3, [], [], [], [], t.a⟩, none, 0⟩ (.string ⟨#[]⟩) rfl rfl rfl rfl rfl).mono ?_); rintro e v3 ⟨rfl, c4, f4, F4⟩)
        | (go_at_call 47; (with_reducible refine (sz_word F4.out [119, 105, 116, 104] ⟨#[119, 105, 116, 104]⟩ rfl hq4).mono ?_); rintro e v4 ⟨rfl, F5⟩)
        | (go_at_call 121; (with_reducible refine (sz_text F5.out hq5 4 ⟨⟨4, nA, n3, [], n5, [], [], t.a⟩, none, 0⟩ (.string ⟨#[]⟩) rfl rfl rfl rfl rfl).mono ?_); rintro e v5 ⟨rfl, c6, f6, F6⟩)
        | (go_at_call 47; (with_reducible refine (sz_word F6.out [105, 110, 116, 111] ⟨#[105, 110, 116, 111]⟩ rfl hq6).mono ?_); rintro e v6 ⟨rfl, F7⟩)
        | (go_at_call 48; (with_reducible refine (sz_name F7.out hq7 3 ⟨⟨4, nA, n3, n7, n5, [], [], t.a⟩, none, 0⟩ (.string ⟨#[]⟩) rfl rfl rfl rfl rfl).mono ?_); rintro e v7 ⟨rfl, c8, f8, F8⟩)
        | (go_at_call 49; (with_reducible refine (sz_mark F8.out 59 hq8).mono ?_); rintro e v8 ⟨rfl, F9⟩)
        | (refine wpList_load_cb rfl 51 (.tmp 4) rfl _ _ rfl F9.out.s4 Tryz.underlying51 rfl (by kernel_rfl) ?_)
        | (refine wpList_store_cb rfl 51 (.tmp 2) (.tmp 116) rfl w.heap.size (stC st0 (.slice none 0 0)) _ rfl rfl F9.out.r2 rfl (by kernel_rfl) (by kernel_rfl) ?_; intro w9 h9 t9))
      obtain ⟨z1, z2, z3⟩ := F9.out.close t9
      refine bodyPost_ret (results_cb rfl _ _ _ _ rfl h9 Tryz.underlying51 rfl (by kernel_rfl)) rfl ?_
      exact ⟨⟨⟨4, nA, n3, n7, n5, [], [], t.a⟩, none, 0⟩, rfl, by rw [HS.out]; exact z1, z2, z3, by rw [HS.out]⟩

set_option maxRecDepth 100000 in
set_option maxHeartbeats 8000000 in
theorem rstep5_any {w : World} {g : Nat} {A : Option Addr} {c : Nat} {T : List Tk} {p : PS} (h : RZ w g A c T p) (hK : stepK T p = 5) :
    Calls Tryz.prog 85 #[.pointer (some ⟨g, 0, none⟩)] w (StepR g A c T p w) := by
  obtain ⟨h0, hk1⟩ := rstep_pre hK (by decide) (by decide)
  have hgl := h.len
  obtain ⟨t, ht⟩ : ∃ t, p.tok T = t := ⟨_, rfl⟩
  obtain ⟨q0, hq0⟩ : ∃ q, p.next = q := ⟨_, rfl⟩
  obtain ⟨q1, nA, hq1⟩ : ∃ q nm, q0.name T = (q, nm) := ⟨_, _, rfl⟩
  obtain ⟨q2, hq2⟩ : ∃ q, q1.word T [116, 111] = q := ⟨_, rfl⟩
  obtain ⟨q3, n3, hq3⟩ : ∃ q nm, q2.name T = (q, nm) := ⟨_, _, rfl⟩
  obtain ⟨q4, hq4⟩ : ∃ q, q3.mark T 59 = q := ⟨_, rfl⟩
  have hS : p.step T = (q4, ⟨5, nA, [], [], [], n3, [], t.a⟩) := by
    unfold PS.step
    rw [hK]
    dsimp only
    rw [if_neg (by decide), hq0, hq1]
    dsimp only
    rw [if_neg (by decide)]
    rw [if_neg (by decide)]
    rw [if_neg (by decide)]
    rw [if_neg (by decide)]
    rw [if_pos rfl]
    rw [ls_to, hq2]
    rw [hq3]
    dsimp only
    rw [hq4]
    rw [ht]
  have HS := Lib.hid hS
  have HK0 : Hid (p.flt = 0 ∧ (p.tok T).k ≠ 0) := ⟨h0, hk1⟩
  have HKK := Lib.hid hK
  have hb1 : Below w.heap.size w (w.alloc (.cells #[.int .i64 0, .string ⟨#[]⟩, .string ⟨#[]⟩, .string ⟨#[]⟩, .string ⟨#[]⟩, .string ⟨#[]⟩, .slice none 0 0, .int .i64 0] 51)) := (Below.refl _ w).alloc (Nat.le_refl _) _
  have hc1 : CB (w.alloc (.cells #[.int .i64 0, .string ⟨#[]⟩, .string ⟨#[]⟩, .string ⟨#[]⟩, .string ⟨#[]⟩, .string ⟨#[]⟩, .slice none 0 0, .int .i64 0] 51)) w.heap.size 51 (stC st0 (.slice none 0 0)) := CB.new w _ _
  have ct := ztok_any (h.below hb1) ht
  have hs1 : (w.alloc (.cells #[.int .i64 0, .string ⟨#[]⟩, .string ⟨#[]⟩, .string ⟨#[]⟩, .string ⟨#[]⟩, .string ⟨#[]⟩, .slice none 0 0, .int .i64 0] 51)).heap.size = w.heap.size + 1 := by simp
  have PRE : Hid (∀ w2, Below (w.alloc (.cells #[.int .i64 0, .string ⟨#[]⟩, .string ⟨#[]⟩, .string ⟨#[]⟩, .string ⟨#[]⟩, .string ⟨#[]⟩, .slice none 0 0, .int .i64 0] 51)).heap.size (w.alloc (.cells #[.int .i64 0, .string ⟨#[]⟩, .string ⟨#[]⟩, .string ⟨#[]⟩, .string ⟨#[]⟩, .string ⟨#[]⟩, .slice none 0 0, .int .i64 0] 51)) w2 → ∃ w3 w4 w5 : World, w2.alloc (.cells #[.int .i64 (t.k : Nat), .string (str t.t), .int .u64 (t.n : Nat), .int .i64 (t.a : Nat), .int .i64 (t.e : Nat)] 78) = w3 ∧ w3.alloc (.cells #[.int .i64 0, .string ⟨#[]⟩, .string ⟨#[]⟩, .string ⟨#[]⟩, .string ⟨#[]⟩, .string ⟨#[]⟩, .slice none 0 0, .int .i64 (t.a : Nat)] 51) = w4 ∧ w4.alloc (.cells #[.string ⟨#[]⟩, .string ⟨#[97, 100, 100]⟩, .string ⟨#[114, 101, 110, 97, 109, 101]⟩, .string ⟨#[115, 112, 108, 105, 116]⟩, .string ⟨#[106, 111, 105, 110]⟩, .string ⟨#[114, 101, 116, 121, 112, 101]⟩, .string ⟨#[100, 114, 111, 112]⟩] 9) = w5 ∧ w3.heap.size = w2.heap.size + 1 ∧ w4.heap.size = w2.heap.size + 2 ∧ w3.cell? ⟨w2.heap.size, 3, none⟩ = some (.int .i64 (t.a : Nat)) ∧
      Hid (SZ w w5 g A c T p w.heap.size (w2.heap.size + 1) ⟨⟨0, [], [], [], [], [], [], t.a⟩, none, 0⟩ ∧ CB w5 w2.heap.size 78 #[.int .i64 (t.k : Nat), .string (str t.t), .int .u64 (t.n : Nat), .int .i64 (t.a : Nat), .int .i64 (t.e : Nat)] ∧ CB w5 (w2.heap.size + 2) 9 kwC)) := fun w2 hb2 => by
    obtain ⟨w3, h3⟩ : ∃ w3, w2.alloc (.cells #[.int .i64 (t.k : Nat), .string (str t.t), .int .u64 (t.n : Nat), .int .i64 (t.a : Nat), .int .i64 (t.e : Nat)] 78) = w3 := ⟨_, rfl⟩
    obtain ⟨w4, h4⟩ : ∃ w4, w3.alloc (.cells #[.int .i64 0, .string ⟨#[]⟩, .string ⟨#[]⟩, .string ⟨#[]⟩, .string ⟨#[]⟩, .string ⟨#[]⟩, .slice none 0 0, .int .i64 (t.a : Nat)] 51) = w4 := ⟨_, rfl⟩
    obtain ⟨w5, h5⟩ : ∃ w5, w4.alloc (.cells #[.string ⟨#[]⟩, .string ⟨#[97, 100, 100]⟩, .string ⟨#[114, 101, 110, 97, 109, 101]⟩, .string ⟨#[115, 112, 108, 105, 116]⟩, .string ⟨#[106, 111, 105, 110]⟩, .string ⟨#[114, 101, 116, 121, 112, 101]⟩, .string ⟨#[100, 114, 111, 112]⟩] 9) = w5 := ⟨_, rfl⟩
    have s3 : w3.heap.size = w2.heap.size + 1 := by rw [← h3]; simp
    have s4 : w4.heap.size = w2.heap.size + 2 := by rw [← h4]; simp [s3]
    have b3 : Below w2.heap.size w2 w3 := by rw [← h3]; exact (Below.refl _ w2).alloc (Nat.le_refl _) _
    have b4 : Below w3.heap.size w3 w4 := by rw [← h4]; exact (Below.refl _ w3).alloc (Nat.le_refl _) _
    have b5 : Below w4.heap.size w4 w5 := by rw [← h5]; exact (Below.refl _ w4).alloc (Nat.le_refl _) _
    have t3 : CB w3 w2.heap.size 78 #[.int .i64 (t.k : Nat), .string (str t.t), .int .u64 (t.n : Nat), .int .i64 (t.a : Nat), .int .i64 (t.e : Nat)] := by rw [← h3]; exact CB.new w2 _ _
    have k5 : CB w5 (w2.heap.size + 2) 9 kwC := by rw [← s4, ← h5]; exact CB.new w4 _ _
    have r1 := h.below hb1
    have r2 := r1.below hb2
    have r3 := r2.below b3
    have c2 := (hc1.below hb2).below b3
    have gn3 : Gn g w w3 := ((Gn.of hb1).trans (Gn.of hb2)).trans (Gn.of b3)
    have z4 := sz_start r3 c2 gn3 hgl (Nat.le_refl _) ⟨⟨0, [], [], [], [], [], [], t.a⟩, none, 0⟩ ⟨rfl, rfl, rfl⟩
    rw [s3] at z4
    have z4' : SZ w w4 g A c T p w.heap.size (w2.heap.size + 1) ⟨⟨0, [], [], [], [], [], [], t.a⟩, none, 0⟩ := by rw [← h4]; exact z4
    exact ⟨w3, w4, w5, h3, h4, h5, s3, s4, t3.at_ 3, z4'.call (Gn.of b5) (z4'.rs.below b5), (t3.below b4).below b5, k5⟩
  clear h hK ht hS hb1 hc1 h0 hk1
  go_enter Tryz.func85, Tryz.ntmps85
  go_wp2_with (go_at_call 46; refine ct.mono ?_; rintro e w2 ⟨rfl, hb2⟩; obtain ⟨w3, w4, w5, e3, e4, e5, s3, s4, c33, HF5⟩ := PRE.out w2 hb2; clear ct)
  clear e3 e4 e5 c33 PRE
  go_loopw [6] (fun u wr => ∃ i : Nat, u = .int .i64 i ∧ 1 ≤ i ∧ i ≤ 7 ∧ Hid (SZ w wr g A c T p w.heap.size (w2.heap.size + 1) ⟨⟨if stepK T p < i then stepK T p else 0, [], [], [], [], [], [], t.a⟩, none, 0⟩ ∧ CB wr w2.heap.size 78 #[.int .i64 (t.k : Nat), .string (str t.t), .int .u64 (t.n : Nat), .int .i64 (t.a : Nat), .int .i64 (t.e : Nat)] ∧ CB wr (w2.heap.size + 2) 9 kwC)) (fun u _ => 7 - (intOf u).toNat)
  case atStart =>
    refine ⟨1, rfl, by omega, by omega, ?_⟩
    have e : (if stepK T p < 1 then stepK T p else 0) = 0 := by split <;> omega
    rw [e]
    exact HF5
  case round =>
    clear HF5
    obtain ⟨i, rfl, hi1, hi7, HF⟩ := hrel
    by_cases hlt : i < 7
    · have hlz : (i : Int) < 7 := by omega
      have hi0 : (0 : Int) ≤ (i : Int) := by omega
      have ck := kwC_at _ _ HF.out.2.2 i hlt
      obtain ⟨s, hs⟩ : ∃ s, kwL[i]'hlt = s := ⟨_, rfl⟩
      obtain ⟨b, hb⟩ : ∃ b, decide (stepK T p = i) = b := ⟨_, rfl⟩
      have hi := step_is (T := T) p i hlt hi1
      rw [hs, hb] at hi
      rw [hs] at ck
      obtain ⟨x, hx⟩ : ∃ x : LSt, (⟨⟨if stepK T p < i then stepK T p else 0, [], [], [], [], [], [], t.a⟩, none, 0⟩ : LSt) = x := ⟨_, rfl⟩
      have HX := Lib.hid hx
      rw [hx] at HF
      have ci := sz_isw HF.out.1 s hi
      cases b with
      | false =>
        have hne := of_decide_eq_false hb
        have NX : Hid (∀ W, Below wr.heap.size wr W → SZ w W g A c T p w.heap.size (w2.heap.size + 1) x → Hid (SZ w W g A c T p w.heap.size (w2.heap.size + 1) ⟨⟨if stepK T p < i + 1 then stepK T p else 0, [], [], [], [], [], [], t.a⟩, none, 0⟩ ∧ CB W w2.heap.size 78 #[.int .i64 (t.k : Nat), .string (str t.t), .int .u64 (t.n : Nat), .int .i64 (t.a : Nat), .int .i64 (t.e : Nat)] ∧ CB W (w2.heap.size + 2) 9 kwC)) := fun W hW hz => by
          have e : (if stepK T p < i + 1 then stepK T p else 0) = if stepK T p < i then stepK T p else 0 := by
            by_cases h : stepK T p < i
            · rw [if_pos h, if_pos (by omega)]
            · rw [if_neg h, if_neg (by omega)]
          rw [e, HX.out]
          exact ⟨hz, HF.out.2.1.below hW, HF.out.2.2.below hW⟩
        clear hx hs hb hi hne
        go_wp2_with (go_at_call 24; refine ci.mono ?_; rintro e w6 ⟨rfl, hb6, HZ6⟩; have HN := NX.out _ hb6 HZ6.out)
        go_roundw
        case rel => exact ⟨i + 1, by go_num, by omega, by omega, HN⟩
        case measure => simp [intOf]; omega
      | true =>
        have heq := of_decide_eq_true hb
        have NX : Hid (∀ W, Below wr.heap.size wr W → SZ w W g A c T p w.heap.size (w2.heap.size + 1) x → (∃ v, W.cell? ⟨w2.heap.size + 1, 0, none⟩ = some v) ∧ W.frozen? ⟨w2.heap.size + 1, 0, none⟩ = false ∧ Hid (SZ w (W.setCell ⟨w2.heap.size + 1, 0, none⟩ (.int .i64 (i : Nat))) g A c T p w.heap.size (w2.heap.size + 1) ⟨⟨if stepK T p < i + 1 then stepK T p else 0, [], [], [], [], [], [], t.a⟩, none, 0⟩ ∧ CB (W.setCell ⟨w2.heap.size + 1, 0, none⟩ (.int .i64 (i : Nat))) w2.heap.size 78 #[.int .i64 (t.k : Nat), .string (str t.t), .int .u64 (t.n : Nat), .int .i64 (t.a : Nat), .int .i64 (t.e : Nat)] ∧ CB (W.setCell ⟨w2.heap.size + 1, 0, none⟩ (.int .i64 (i : Nat))) (w2.heap.size + 2) 9 kwC)) := fun W hW hz => by
          have e : (if stepK T p < i + 1 then stepK T p else 0) = i := by rw [if_pos (by omega), heq]
          rw [e]
          rw [← HX.out] at hz
          have o : ∀ k, k ≠ w2.heap.size + 1 → (W.setCell ⟨w2.heap.size + 1, 0, none⟩ (.int .i64 (i : Nat))).heap[k]? = W.heap[k]? := fun k hk => Below.heap_setCell W ⟨w2.heap.size + 1, 0, none⟩ _ k hk
          refine ⟨⟨_, (hz.at_ 0).1⟩, (hz.at_ 0).2, hz.set 0 _ rfl ?_ ?_, ((HF.out.2.1.below hW).keep (o _ (by omega))), ((HF.out.2.2.below hW).keep (o _ (by omega)))⟩
          · exact OwnN.nil _ _
          · exact fun b hb => by simp [StLev, obk] at hb
        clear hx hs hb hi heq
        go_wp2_with (go_at_call 24; refine ci.mono ?_; rintro e w6 ⟨rfl, hb6, HZ6⟩; obtain ⟨⟨v6, c6⟩, f6, HN⟩ := NX.out _ hb6 HZ6.out)
        go_roundw
        case rel => exact ⟨i + 1, by go_num, by omega, by omega, HN⟩
        case measure => simp [intOf]; omega
    · obtain rfl : i = 7 := by omega
      have hlz : ¬ ((7 : Nat) : Int) < 7 := by omega
      have e7 : (if stepK T p < 7 then stepK T p else 0) = 5 := by rw [HKK.out]; rfl
      rw [e7] at HF
      have c40 := (HF.out.1.at_ 0).1
      change wr.cell? ⟨w2.heap.size + 1, 0, none⟩ = some (.int .i64 5) at c40
      have F0 := Lib.hid (HF.out.1)
      obtain ⟨c1, _, _, f1⟩ := F0.out.rs.cells
      have f1 := f1 1
      have F1 := Lib.hid (F0.out.next HK0.out.2 hq0)
      have hil : p.i < T.length := F0.out.rs.pt.inn
      have hfew : T.length ≤ 2000000 := F0.out.rs.pt.few
      clear hlz e7 HF
      go_wp2_with (first
        | (go_at_call 48; (with_reducible refine (sz_nameA F1.out hq1 ⟨⟨5, nA, [], [], [], [], [], t.a⟩, none, 0⟩ (.string ⟨#[]⟩) (.int .i64 5) rfl rfl rfl rfl rfl rfl).mono ?_); rintro e v1 ⟨rfl, k0, c2, f2, F2⟩)
        | (go_at_call 47; (with_reducible refine (sz_word F2.out [116, 111] ⟨#[116, 111]⟩ rfl hq2).mono ?_); rintro e v2 ⟨rfl, F3⟩)
        | (go_at_call 48; (with_reducible refine (sz_name F3.out hq3 5 ⟨⟨5, nA, [], [], [], n3, [], t.a⟩, none, 0⟩ (.string ⟨#[]⟩) rfl rfl rfl rfl rfl).mono ?_); rintro e v3 ⟨rfl, c4, f4, F4⟩)
        | (go_at_call 49; (with_reducible refine (sz_mark F4.out 59 hq4).mono ?_); rintro e v4 ⟨rfl, F5⟩)
        | (refine wpList_load_cb rfl 51 (.tmp 4) rfl _ _ rfl F5.out.s4 Tryz.underlying51 rfl (by kernel_rfl) ?_)
        | (refine wpList_store_cb rfl 51 (.tmp 2) (.tmp 116) rfl w.heap.size (stC st0 (.slice none 0 0)) _ rfl rfl F5.out.r2 rfl (by kernel_rfl) (by kernel_rfl) ?_; intro w9 h9 t9))
      obtain ⟨z1, z2, z3⟩ := F5.out.close t9
      refine bodyPost_ret (results_cb rfl _ _ _ _ rfl h9 Tryz.underlying51 rfl (by kernel_rfl)) rfl ?_
      exact ⟨⟨⟨5, nA, [], [], [], n3, [], t.a⟩, none, 0⟩, rfl, by rw [HS.out]; exact z1, z2, z3, by rw [HS.out]⟩

set_option maxRecDepth 100000 in
set_option maxHeartbeats 8000000 in
theorem rstep6_any {w : World} {g : Nat} {A : Option Addr} {c : Nat} {T : List Tk} {p : PS} (h : RZ w g A c T p) (hK : stepK T p = 6) :
    Calls Tryz.prog 85 #[.pointer (some ⟨g, 0, none⟩)] w (StepR g A c T p w) := by
  obtain ⟨h0, hk1⟩ := rstep_pre hK (by decide) (by decide)
  have hgl := h.len
  obtain ⟨t, ht⟩ : ∃ t, p.tok T = t := ⟨_, rfl⟩
  obtain ⟨q0, hq0⟩ : ∃ q, p.next = q := ⟨_, rfl⟩
  obtain ⟨q1, nA, hq1⟩ : ∃ q nm, q0.name T = (q, nm) := ⟨_, _, rfl⟩
  obtain ⟨q2, hq2⟩ : ∃ q, q1.mark T 59 = q := ⟨_, rfl⟩
  have hS : p.step T = (q2, ⟨6, nA, [], [], [], [], [], t.a⟩) := by
    unfold PS.step
    rw [hK]
    dsimp only
    rw [if_neg (by decide), hq0, hq1]
    dsimp only
    rw [if_neg (by decide)]
    rw [if_neg (by decide)]
    rw [if_neg (by decide)]
    rw [if_neg (by decide)]
    rw [if_neg (by decide)]
    rw [hq2]
    rw [ht]
  have HS := Lib.hid hS
  have HK0 : Hid (p.flt = 0 ∧ (p.tok T).k ≠ 0) := ⟨h0, hk1⟩
  have HKK := Lib.hid hK
  have hb1 : Below w.heap.size w (w.alloc (.cells #[.int .i64 0, .string ⟨#[]⟩, .string ⟨#[]⟩, .string ⟨#[]⟩, .string ⟨#[]⟩, .string ⟨#[]⟩, .slice none 0 0, .int .i64 0] 51)) := (Below.refl _ w).alloc (Nat.le_refl _) _
  have hc1 : CB (w.alloc (.cells #[.int .i64 0, .string ⟨#[]⟩, .string ⟨#[]⟩, .string ⟨#[]⟩, .string ⟨#[]⟩, .string ⟨#[]⟩, .slice none 0 0, .int .i64 0] 51)) w.heap.size 51 (stC st0 (.slice none 0 0)) := CB.new w _ _
  have ct := ztok_any (h.below hb1) ht
  have hs1 : (w.alloc (.cells #[.int .i64 0, .string ⟨#[]⟩, .string ⟨#[]⟩, .string ⟨#[]⟩, .string ⟨#[]⟩, .string ⟨#[]⟩, .slice none 0 0, .int .i64 0] 51)).heap.size = w.heap.size + 1 := by simp
  have PRE : Hid (∀ w2, Below (w.alloc (.cells #[.int .i64 0, .string ⟨#[]⟩, .string ⟨#[]⟩, .string ⟨#[]⟩, .string ⟨#[]⟩, .string ⟨#[]⟩, .slice none 0 0, .int .i64 0] 51)).heap.size (w.alloc (.cells #[.int .i64 0, .string ⟨#[]⟩, .string ⟨#[]⟩, .string ⟨#[]⟩, .string ⟨#[]⟩, .string ⟨#[]⟩, .slice none 0 0, .int .i64 0] 51)) w2 → ∃ w3 w4 w5 : World, w2.alloc (.cells #[.int .i64 (t.k : Nat), .string (str t.t), .int .u64 (t.n : Nat), .int .i64 (t.a : Nat), .int .i64 (t.e : Nat)] 78) = w3 ∧ w3.alloc (.cells #[.int .i64 0, .string ⟨#[]⟩, .string ⟨#[]⟩, .string ⟨#[]⟩, .string ⟨#[]⟩, .string ⟨#[]⟩, .slice none 0 0, .int .i64 (t.a : Nat)] 51) = w4 ∧ w4.alloc (.cells #[.string ⟨#[]⟩, .string ⟨#[97, 100, 100]⟩, .string ⟨#[114, 101, 110, 97, 109, 101]⟩, .string ⟨#[115, 112, 108, 105, 116]⟩, .string ⟨#[106, 111, 105, 110]⟩, .string ⟨#[114, 101, 116, 121, 112, 101]⟩, .string ⟨#[100, 114, 111, 112]⟩] 9) = w5 ∧ w3.heap.size = w2.heap.size + 1 ∧ w4.heap.size = w2.heap.size + 2 ∧ w3.cell? ⟨w2.heap.size, 3, none⟩ = some (.int .i64 (t.a : Nat)) ∧
      Hid (SZ w w5 g A c T p w.heap.size (w2.heap.size + 1) ⟨⟨0, [], [], [], [], [], [], t.a⟩, none, 0⟩ ∧ CB w5 w2.heap.size 78 #[.int .i64 (t.k : Nat), .string (str t.t), .int .u64 (t.n : Nat), .int .i64 (t.a : Nat), .int .i64 (t.e : Nat)] ∧ CB w5 (w2.heap.size + 2) 9 kwC)) := fun w2 hb2 => by
    obtain ⟨w3, h3⟩ : ∃ w3, w2.alloc (.cells #[.int .i64 (t.k : Nat), .string (str t.t), .int .u64 (t.n : Nat), .int .i64 (t.a : Nat), .int .i64 (t.e : Nat)] 78) = w3 := ⟨_, rfl⟩
    obtain ⟨w4, h4⟩ : ∃ w4, w3.alloc (.cells #[.int .i64 0, .string ⟨#[]⟩, .string ⟨#[]⟩, .string ⟨#[]⟩, .string ⟨#[]⟩, .string ⟨#[]⟩, .slice none 0 0, .int .i64 (t.a : Nat)] 51) = w4 := ⟨_, rfl⟩
    obtain ⟨w5, h5⟩ : ∃ w5, w4.alloc (.cells #[.string ⟨#[]⟩, .string ⟨#[97, 100, 100]⟩, .string ⟨#[114, 101, 110, 97, 109, 101]⟩, .string ⟨#[115, 112, 108, 105, 116]⟩, .string ⟨#[106, 111, 105, 110]⟩, .string ⟨#[114, 101, 116, 121, 112, 101]⟩, .string ⟨#[100, 114, 111, 112]⟩] 9) = w5 := ⟨_, rfl⟩
    have s3 : w3.heap.size = w2.heap.size + 1 := by rw [← h3]; simp
    have s4 : w4.heap.size = w2.heap.size + 2 := by rw [← h4]; simp [s3]
    have b3 : Below w2.heap.size w2 w3 := by rw [← h3]; exact (Below.refl _ w2).alloc (Nat.le_refl _) _
    have b4 : Below w3.heap.size w3 w4 := by rw [← h4]; exact (Below.refl _ w3).alloc (Nat.le_refl _) _
    have b5 : Below w4.heap.size w4 w5 := by rw [← h5]; exact (Below.refl _ w4).alloc (Nat.le_refl _) _
    have t3 : CB w3 w2.heap.size 78 #[.int .i64 (t.k : Nat), .string (str t.t), .int .u64 (t.n : Nat), .int .i64 (t.a : Nat), .int .i64 (t.e : Nat)] := by rw [← h3]; exact CB.new w2 _ _
    have k5 : CB w5 (w2.heap.size + 2) 9 kwC := by rw [← s4, ← h5]; exact CB.new w4 _ _
    have r1 := h.below hb1
    have r2 := r1.below hb2
    have r3 := r2.below b3
    have c2 := (hc1.below hb2).below b3
    have gn3 : Gn g w w3 := ((Gn.of hb1).trans (Gn.of hb2)).trans (Gn.of b3)
    have z4 := sz_start r3 c2 gn3 hgl (Nat.le_refl _) ⟨⟨0, [], [], [], [], [], [], t.a⟩, none, 0⟩ ⟨rfl, rfl, rfl⟩
    rw [s3] at z4
    have z4' : SZ w w4 g A c T p w.heap.size (w2.heap.size + 1) ⟨⟨0, [], [], [], [], [], [], t.a⟩, none, 0⟩ := by rw [← h4]; exact z4
    exact ⟨w3, w4, w5, h3, h4, h5, s3, s4, t3.at_ 3, z4'.call (Gn.of b5) (z4'.rs.below b5), (t3.below b4).below b5, k5⟩
  clear h hK ht hS hb1 hc1 h0 hk1
  go_enter Tryz.func85, Tryz.ntmps85
  go_wp2_with (go_at_call 46; refine ct.mono ?_; rintro e w2 ⟨rfl, hb2⟩; obtain ⟨w3, w4, w5, e3, e4, e5, s3, s4, c33, HF5⟩ := PRE.out w2 hb2; clear ct)
  clear e3 e4 e5 c33 PRE
  go_loopw [6] (fun u wr => ∃ i : Nat, u = .int .i64 i ∧ 1 ≤ i ∧ i ≤ 7 ∧ Hid (SZ w wr g A c T p w.heap.size (w2.heap.size + 1) ⟨⟨if stepK T p < i then stepK T p else 0, [], [], [], [], [], [], t.a⟩, none, 0⟩ ∧ CB wr w2.heap.size 78 #[.int .i64 (t.k : Nat), .string (str t.t), .int .u64 (t.n : Nat), .int .i64 (t.a : Nat), .int .i64 (t.e : Nat)] ∧ CB wr (w2.heap.size + 2) 9 kwC)) (fun u _ => 7 - (intOf u).toNat)
  case atStart =>
    refine ⟨1, rfl, by omega, by omega, ?_⟩
    have e : (if stepK T p < 1 then stepK T p else 0) = 0 := by split <;> omega
    rw [e]
    exact HF5
  case round =>
    clear HF5
    obtain ⟨i, rfl, hi1, hi7, HF⟩ := hrel
    by_cases hlt : i < 7
    · have hlz : (i : Int) < 7 := by omega
      have hi0 : (0 : Int) ≤ (i : Int) := by omega
      have ck := kwC_at _ _ HF.out.2.2 i hlt
      obtain ⟨s, hs⟩ : ∃ s, kwL[i]'hlt = s := ⟨_, rfl⟩
      obtain ⟨b, hb⟩ : ∃ b, decide (stepK T p = i) = b := ⟨_, rfl⟩
      have hi := step_is (T := T) p i hlt hi1
      rw [hs, hb] at hi
      rw [hs] at ck
      obtain ⟨x, hx⟩ : ∃ x : LSt, (⟨⟨if stepK T p < i then stepK T p else 0, [], [], [], [], [], [], t.a⟩, none, 0⟩ : LSt) = x := ⟨_, rfl⟩
      have HX := Lib.hid hx
      rw [hx] at HF
      have ci := sz_isw HF.out.1 s hi
      cases b with
      | false =>
        have hne := of_decide_eq_false hb
        have NX : Hid (∀ W, Below wr.heap.size wr W → SZ w W g A c T p w.heap.size (w2.heap.size + 1) x → Hid (SZ w W g A c T p w.heap.size (w2.heap.size + 1) ⟨⟨if stepK T p < i + 1 then stepK T p else 0, [], [], [], [], [], [], t.a⟩, none, 0⟩ ∧ CB W w2.heap.size 78 #[.int .i64 (t.k : Nat), .string (str t.t), .int .u64 (t.n : Nat), .int .i64 (t.a : Nat), .int .i64 (t.e : Nat)] ∧ CB W (w2.heap.size + 2) 9 kwC)) := fun W hW hz => by
          have e : (if stepK T p < i + 1 then stepK T p else 0) = if stepK T p < i then stepK T p else 0 := by
            by_cases h : stepK T p < i
            · rw [if_pos h, if_pos (by omega)]
            · rw [if_neg h, if_neg (by omega)]
          rw [e, HX.out]
          exact ⟨hz, HF.out.2.1.below hW, HF.out.2.2.below hW⟩
        clear hx hs hb hi hne
        go_wp2_with (go_at_call 24; refine ci.mono ?_; rintro e w6 ⟨rfl, hb6, HZ6⟩; have HN := NX.out _ hb6 HZ6.out)
        go_roundw
        case rel => exact ⟨i + 1, by go_num, by omega, by omega, HN⟩
        case measure => simp [intOf]; omega
      | true =>
        have heq := of_decide_eq_true hb
        have NX : Hid (∀ W, Below wr.heap.size wr W → SZ w W g A c T p w.heap.size (w2.heap.size + 1) x → (∃ v, W.cell? ⟨w2.heap.size + 1, 0, none⟩ = some v) ∧ W.frozen? ⟨w2.heap.size + 1, 0, none⟩ = false ∧ Hid (SZ w (W.setCell ⟨w2.heap.size + 1, 0, none⟩ (.int .i64 (i : Nat))) g A c T p w.heap.size (w2.heap.size + 1) ⟨⟨if stepK T p < i + 1 then stepK T p else 0, [], [], [], [], [], [], t.a⟩, none, 0⟩ ∧ CB (W.setCell ⟨w2.heap.size + 1, 0, none⟩ (.int .i64 (i : Nat))) w2.heap.size 78 #[.int .i64 (t.k : Nat), .string (str t.t), .int .u64 (t.n : Nat), .int .i64 (t.a : Nat), .int .i64 (t.e : Nat)] ∧ CB (W.setCell ⟨w2.heap.size + 1, 0, none⟩ (.int .i64 (i : Nat))) (w2.heap.size + 2) 9 kwC)) := fun W hW hz => by
          have e : (if stepK T p < i + 1 then stepK T p else 0) = i := by rw [if_pos (by omega), heq]
          rw [e]
          rw [← HX.out] at hz
          have o : ∀ k, k ≠ w2.heap.size + 1 → (W.setCell ⟨w2.heap.size + 1, 0, none⟩ (.int .i64 (i : Nat))).heap[k]? = W.heap[k]? := fun k hk => Below.heap_setCell W ⟨w2.heap.size + 1, 0, none⟩ _ k hk
          refine ⟨⟨_, (hz.at_ 0).1⟩, (hz.at_ 0).2, hz.set 0 _ rfl ?_ ?_, ((HF.out.2.1.below hW).keep (o _ (by omega))), ((HF.out.2.2.below hW).keep (o _ (by omega)))⟩
          · exact OwnN.nil _ _
          · exact fun b hb => by simp [StLev, obk] at hb
        clear hx hs hb hi heq
        go_wp2_with (go_at_call 24; refine ci.mono ?_; rintro e w6 ⟨rfl, hb6, HZ6⟩; obtain ⟨⟨v6, c6⟩, f6, HN⟩ := NX.out _ hb6 HZ6.out)
        go_roundw
        case rel => exact ⟨i + 1, by go_num, by omega, by omega, HN⟩
        case measure => simp [intOf]; omega
    · obtain rfl : i = 7 := by omega
      have hlz : ¬ ((7 : Nat) : Int) < 7 := by omega
      have e7 : (if stepK T p < 7 then stepK T p else 0) = 6 := by rw [HKK.out]; rfl
      rw [e7] at HF
      have c40 := (HF.out.1.at_ 0).1
      change wr.cell? ⟨w2.heap.size + 1, 0, none⟩ = some (.int .i64 6) at c40
      have F0 := Lib.hid (HF.out.1)
      obtain ⟨c1, _, _, f1⟩ := F0.out.rs.cells
      have f1 := f1 1
      have F1 := Lib.hid (F0.out.next HK0.out.2 hq0)
      have hil : p.i < T.length := F0.out.rs.pt.inn
      have hfew : T.length ≤ 2000000 := F0.out.rs.pt.few
      clear hlz e7 HF
      go_wp2_with (first
        | (go_at_call 48; (with_reducible refine (sz_nameA F1.out hq1 ⟨⟨6, nA, [], [], [], [], [], t.a⟩, none, 0⟩ (.string ⟨#[]⟩) (.int .i64 6) rfl rfl rfl rfl rfl rfl).mono ?_); rintro e v1 ⟨rfl, k0, c2, f2, F2⟩)
        | (go_at_call 49; (with_reducible refine (sz_mark F2.out 59 hq2).mono ?_); rintro e v2 ⟨rfl, F3⟩)
        | (refine wpList_load_cb rfl 51 (.tmp 4) rfl _ _ rfl F3.out.s4 Tryz.underlying51 rfl (by kernel_rfl) ?_)
        | (refine wpList_store_cb rfl 51 (.tmp 2) (.tmp 116) rfl w.heap.size (stC st0 (.slice none 0 0)) _ rfl rfl F3.out.r2 rfl (by kernel_rfl) (by kernel_rfl) ?_; intro w9 h9 t9))
      obtain ⟨z1, z2, z3⟩ := F3.out.close t9
      refine bodyPost_ret (results_cb rfl _ _ _ _ rfl h9 Tryz.underlying51 rfl (by kernel_rfl)) rfl ?_
      exact ⟨⟨⟨6, nA, [], [], [], [], [], t.a⟩, none, 0⟩, rfl, by rw [HS.out]; exact z1, z2, z3, by rw [HS.out]⟩

theorem rstep_any {w : World} {g : Nat} {A : Option Addr} {c : Nat} {T : List Tk} {p : PS} (h : RZ w g A c T p) : Calls Tryz.prog 85 #[.pointer (some ⟨g, 0, none⟩)] w (StepR g A c T p w) := by
  have h6 : stepK T p ≤ 6 := by
    unfold stepK
    repeat' split
    all_goals omega
  have hc : stepK T p = 0 ∨ stepK T p = 1 ∨ stepK T p = 2 ∨ stepK T p = 3 ∨ stepK T p = 4 ∨ stepK T p = 5 ∨ stepK T p = 6 := by omega
  rcases hc with k | k | k | k | k | k | k
  · exact rstep0_any h k
  · cases hb : (((p.next.name T).1.mark T 58).name T).1.is T 4 [61] with
    | false => exact rstep1_any h k hb
    | true => exact rstep1v_any h k hb
  · exact rstep2_any h k
  · exact rstep3_any h k
  · exact rstep4_any h k
  · exact rstep5_any h k
  · exact rstep6_any h k
end Go.Proofs.YtbngelinfpaefaaGreatDoor
