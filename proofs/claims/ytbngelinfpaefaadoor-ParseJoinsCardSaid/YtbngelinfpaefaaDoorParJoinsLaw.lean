/- The walk of ParseJoins. -/
import Derived.Test.YtbngelinfpaefaaDoorParFaultsLaw
import Derived.Test.YtbngelinfpaefaaDoorParGm
import Derived.Deep.RegionHeld3
import Derived.Laws.Slices
namespace Go.Proofs.YtbngelinfpaefaaDoor
open Go.RowKit

theorem more_add {a a' d N : Nat} (hN : N + d ≤ 9000000000000000000) (h : a ≤ N) (e : a' = a + d) : More (d : Int) true a a' := by
  unfold More
  rw [if_pos rfl, e, show ((a : Int) + (d : Int)) = ((a + d : Nat) : Int) by omega, w64_nat (by omega)]
theorem Rel2.split {α β : Type} {r : α → β → Prop} : ∀ {a b : List α} {c : List β}, Rel2 r (a ++ b) c → Rel2 r a (c.take a.length) ∧ Rel2 r b (c.drop a.length)
  | [], _, _, h => ⟨.nil, h⟩
  | _ :: _, _, _, .cons h k => ⟨.cons h (Rel2.split k).1, (Rel2.split k).2⟩
/-- the events of both texts -/
theorem join_ev {s t : ByteArray} {a b c : List LEv} {l : List Ev} (hs : s.size ≤ 262144) (ht : t.size ≤ 262144) (ha : a.map (·.ev) = (schS s).evs) (hb : b.map (·.ev) = (schS t).evs) (hc : c.map (·.ev) = (schS s).evs ++ l) (hl : Rel2 (EvR fun a a' => a' = a + (s.size + 1)) (schS t).evs l) :
    c.length = a.length + b.length ∧ Rel2 (fun x y : LEv => EvR (More 0 true) x.ev y.ev) a (c.take a.length) ∧ Rel2 (fun x y : LEv => EvR (More ((s.size + 1 : Nat) : Int) true) x.ev y.ev) b (c.drop a.length) := by
  have la : a.length = (schS s).evs.length := by rw [← ha, List.length_map]
  have lb : b.length = (schS t).evs.length := by rw [← hb, List.length_map]
  have lc : c.length = (schS s).evs.length + l.length := by rw [← List.length_map (f := fun x : LEv => x.ev), hc, List.length_append]
  have ll := hl.len
  refine ⟨by omega, ?_, ?_⟩
  · refine self_ev (s := s) (by omega) ha ?_
    rw [List.map_take, hc, la, List.take_left]
  · refine Rel2.of_map (f := fun x : LEv => x.ev) (g := fun x : LEv => x.ev) ?_
    show Rel2 _ (b.map (·.ev)) ((c.drop a.length).map (·.ev))
    rw [List.map_drop, hc, hb, la, List.drop_left]
    exact Rel2.comp (sch_self t) hl fun _ _ _ => EvR.comp fun x y z h1 h2 => by
      obtain ⟨rfl, h1⟩ := h1
      exact more_add (N := t.size) (by omega) h1 h2
theorem run_sizeS {P : Program} {e : TypeId} {s : Nat} (hs : (P.info? e).map (·.size) = some s) (W : World) : (sizeOf e).run P W = .ok s W := by
  cases hq : P.info? e with
  | none => simp [hq] at hs
  | some i =>
    have : i.size = s := by simpa [hq] using hs
    simp [sizeOf, typeInfo, hq, this]
theorem run_cutS_l {P : Program} {T e : TypeId} {s : Nat} (ht : P.underlying T = some (.slice e)) (hs : (P.info? e).map (·.size) = some s) (A A' : Option Addr) (n c k : Nat) (hk : k ≤ n) (hA : A' = if c = k then A else A.map (·.add (k * s))) (W : World) :
    (Instr.sliceAt T (.slice A n c) (some (.int .i64 (k : Int))) none none).run P W = .ok (.slice A' (n - k) (c - k)) W := by
  have hE : P.elem T = e := by simp [Program.elem, ht]
  have ht' : P.underlying T = some (.slice (P.elem T)) := by rw [hE]; exact ht
  rw [run_sliceAt_slice _ _ _ _ _ _ ht', run_slice_l _ T A n c ht' .i64 k (by omega) (by omega), hE, run_sizeS hs]
  simp only [Result.andThen, sliced, Int.toNat_natCast]
  rw [← hA]
theorem run_cutS_h {P : Program} {T e : TypeId} {s : Nat} (ht : P.underlying T = some (.slice e)) (hs : (P.info? e).map (·.size) = some s) (A : Option Addr) (n c k : Nat) (hk : k ≤ c) (W : World) :
    (Instr.sliceAt T (.slice A n c) none (some (.int .i64 (k : Int))) none).run P W = .ok (.slice A k c) W := by
  have hE : P.elem T = e := by simp [Program.elem, ht]
  have ht' : P.underlying T = some (.slice (P.elem T)) := by rw [hE]; exact ht
  have hz : A.map (·.add 0) = A := by cases A <;> simp [Addr.add]
  rw [run_sliceAt_slice _ _ _ _ _ _ ht', run_slice_h _ T A n c ht' .i64 k (by omega) (by omega), hE, run_sizeS hs]
  simp only [Result.andThen, sliced, Int.toNat_natCast, Nat.zero_mul, Nat.sub_zero, hz]
  simp
theorem own_cap {w : World} {B : Nat} {T : TypeId} {s : Nat} {A : Option Addr} {c n : Nat} {xs : List Value} (h : w.ownsRow B T s (.slice A n c) n xs) : n ≤ c := by
  rcases h.2 with ⟨_, h0⟩ | ⟨g, cap, cur, hv, _, _, h1, _⟩
  · omega
  · injection hv with _ _ e
    omega
/-- what lies behind the first k -/
theorem RdE.cut {w : World} {A : Option Addr} {l : List LEv} (h : RdE w A l) {c : Nat} (hc : l.length ≤ c) (k : Nat) : RdE w (if c = k then A else A.map (·.add (k * 3))) (l.drop k) := by
  by_cases z : l.length ≤ k
  · rw [List.drop_eq_nil_of_le z]
    exact ⟨.inl rfl, nofun⟩
  · rw [if_neg (by omega)]
    rcases h.row with e | ⟨g, o, rfl, hg, hr⟩
    · rw [e] at z
      exact absurd (Nat.zero_le _) z
    · show RdE w (some ((⟨g, o, none⟩ : Addr).add (k * 3))) _
      rw [Addr.add_lit]
      exact h.drop k

set_option maxRecDepth 100000 in
set_option maxHeartbeats 8000000 in
theorem joins_any (w : World) (hEV : EV w) (s t : ByteArray) : Calls Tryd.prog 5 #[.string s, .string t] w fun e w' => e = .returned (.bool true) ∧ Below w.heap.size w w' := by
  have ca := cawake_any w hEV
  by_cases hbig : 262144 < s.size
  · have hz : (262144 : Int) < (s.size : Int) := by omega
    go_enter Tryd.func5, Tryd.ntmps5
    go_wp2_with (go_at_call 13; refine ca.mono ?_; rintro e w1 ⟨rfl, hb1⟩)
    go_ret
    exact ⟨rfl, hb1⟩
  by_cases hbig2 : 262144 < t.size
  · have hz : ¬ (262144 : Int) < (s.size : Int) := by omega
    have hz2 : (262144 : Int) < (t.size : Int) := by omega
    go_enter Tryd.func5, Tryd.ntmps5
    go_wp2_with (go_at_call 13; refine ca.mono ?_; rintro e w1 ⟨rfl, hb1⟩)
    go_ret
    exact ⟨rfl, hb1⟩
  have hz : ¬ (262144 : Int) < (s.size : Int) := by omega
  have hz2 : ¬ (262144 : Int) < (t.size : Int) := by omega
  by_cases he : (schS s).err = 0
  · by_cases hf : (schS t).err = 0
    · have hps : (schS s).plc = 0 := by obtain ⟨_, _, _, _, _, h⟩ := sch_ok he; exact h
      have hpt : (schS t).plc = 0 := by obtain ⟨_, _, _, _, _, h⟩ := sch_ok hf; exact h
      have cs := fun W h => cschema_any W s h
      have ct := fun W h => cschema_any W t h
      obtain ⟨l, hl1, hl2⟩ := sch_join (r := (s ++ ⟨#[10]⟩) ++ t) he hf (by rw [ls_append, ls_append, List.append_assoc]; rfl) (by rw [ByteArray.size_append, ByteArray.size_append]; show s.size + 1 + t.size ≤ _; omega)
      have cr := fun W h => cschema_any W ((s ++ ⟨#[10]⟩) ++ t) h
      have JE : Hid (∀ (a b c : List LEv), a.map (·.ev) = (schS s).evs → b.map (·.ev) = (schS t).evs → c.map (·.ev) = (schS s).evs ++ l → c.length = a.length + b.length ∧ Rel2 (fun x y : LEv => EvR (More 0 true) x.ev y.ev) a (c.take a.length) ∧ Rel2 (fun x y : LEv => EvR (More ((s.size + 1 : Nat) : Int) true) x.ev y.ev) b (c.drop a.length)) := fun a b c ha hb hc => join_ev (by omega) (by omega) ha hb hc hl2
      unfold SchAt at cs ct cr
      rw [he, hps] at cs
      rw [hf, hpt] at ct
      rw [hl1] at cr
      replace cr : ∀ W, EV W → Calls Tryd.prog 15 #[.string ((s ++ ⟨#[10]⟩) ++ t)] W fun e w' => ∃ As cs es, e = .returned (.tuple #[.agg #[.slice As (List.length (α := LEv) es) cs], .int .i64 0, .int .i64 0]) ∧ Below W.heap.size W w' ∧ Built EvLev w' W.heap.size As cs es ∧ es.map (·.ev) = (schS s).evs ++ l := cr
      have hs9 : s.size ≤ 262144 := by omega
      have ht9 : t.size ≤ 262144 := by omega
      clear he hf hps hpt hl1 hl2 hbig hbig2
      go_enter Tryd.func5, Tryd.ntmps5
      go_wp2_with (first
        | (go_at_call 13; refine ca.mono ?_; rintro e w1 ⟨rfl, hb1⟩; have e1 := hEV.below hb1)
        | (go_at_call 15; (with_reducible refine (cs _ e1).mono ?_); rintro e w2 ⟨As, c1, es1, rfl, hb2, hB1, hm1⟩; have e2 := (e1.below hb2).new (.cells #[.slice As es1.length c1] 30); have H1 := Lib.hid (And.intro hB1 hm1); have Q2 : Hid (CB (w2.alloc (.cells #[.slice As es1.length c1] 30)) w2.heap.size 30 #[.slice As es1.length c1]) := CB.new _ _ _; clear hB1 hm1)
        | (go_at_call 15; (with_reducible refine (ct _ e2).mono ?_); rintro e w3 ⟨Bs, c2, es2, rfl, hb3, hB2, hm2⟩; have e3 := (e2.below hb3).new (.cells #[.slice Bs es2.length c2] 30); have H2 := Lib.hid (And.intro hB2 hm2); have Q3 : Hid (CB (w3.alloc (.cells #[.slice Bs es2.length c2] 30)) w3.heap.size 30 #[.slice Bs es2.length c2]) := CB.new _ _ _; clear hB2 hm2)
        | (go_at_call 15; (with_reducible refine (cr _ e3).mono ?_); rintro e w4 ⟨Cs, c3, es3, rfl, hb4, hB3, hm3⟩; have H3 := Lib.hid (And.intro hB3 hm3)
           obtain ⟨hj1, hj2, hj3⟩ := JE.out es1 es2 es3 H1.out.2 H2.out.2 hm3
           have g23 : Below w2.heap.size w2 w3 := ((Below.refl _ w2).alloc (Nat.le_refl _) _).trans (hb3.mono (by simp))
           have g34 : Below w3.heap.size w3 w4 := ((Below.refl _ w3).alloc (Nat.le_refl _) _).trans (hb4.mono (by simp))
           have g45 : Below w4.heap.size w4 (w4.alloc (.cells #[.slice Cs es3.length c3] 30)) := (Below.refl _ w4).alloc (Nat.le_refl _) _
           have HG := Lib.hid (And.intro g23 (And.intro g34 g45))
           have G4 : Hid (Below w.heap.size w w4) := Below.both (Below.both (Below.both hb1 hb2) g23) g34
           have EV1 : Hid (∀ W, Below w4.heap.size w4 W → Calls Tryd.prog 18 #[.slice As es1.length c1, .slice Cs es1.length c3, .int .i64 0, .bool true] W fun e w' => e = .returned (.bool true) ∧ Below W.heap.size W w') := fun W hW => by
             have := events_any (c := c1) (c' := c3) 0 true (((RdE.of H1.out.1).below (Below.both g23 g34)).below hW) (((RdE.of hB3).take es1.length).below hW) hj2 (own_few H1.out.1.own)
             rwa [List.length_take, Nat.min_eq_left (by omega)] at this
           obtain ⟨Cs', hC⟩ : ∃ x, x = if c3 = es1.length then Cs else Cs.map (·.add (es1.length * 3)) := ⟨_, rfl⟩
           have EV2 : Hid (∀ W, Below w4.heap.size w4 W → Calls Tryd.prog 18 #[.slice Bs es2.length c2, .slice Cs' (es3.length - es1.length) (c3 - es1.length), .int .i64 ((s.size : Int) + 1), .bool true] W fun e w' => e = .returned (.bool true) ∧ Below W.heap.size W w') := fun W hW => by
             have := events_any (c := c2) (c' := c3 - es1.length) ((s.size + 1 : Nat) : Int) true (((RdE.of H2.out.1).below g34).below hW) (((RdE.of hB3).cut (own_cap hB3.own) es1.length).below hW) hj3 (own_few H2.out.1.own)
             rw [List.length_drop, ← hC] at this
             exact this
           have cutH : ∀ W, (Instr.sliceAt 28 (.slice Cs es3.length c3) none (some (.int .i64 (es1.length : Int))) none).run Tryd.prog W = .ok (.slice Cs es1.length c3) W := run_cutS_h (s := 3) Tryd.underlying28 (by kernel_rfl) Cs es3.length c3 es1.length (by have := own_cap hB3.own; omega)
           have cutL : ∀ W, (Instr.sliceAt 28 (.slice Cs es3.length c3) (some (.int .i64 (es1.length : Int))) none none).run Tryd.prog W = .ok (.slice Cs' (es3.length - es1.length) (c3 - es1.length)) W := run_cutS_l (s := 3) Tryd.underlying28 (by kernel_rfl) Cs Cs' es3.length c3 es1.length (by omega) hC
           have hm1 : (es1.length : Int) + (es2.length : Int) = (es3.length : Int) := by omega
           have hm4 : es3.length ≤ 9223372036854775807 := own_few hB3.own
           have hm5 : IntKind.i64.wrap (es3.length : Int) = (es3.length : Int) := by rw [IntKind.wrap_i64]; omega
           have hs2 : IntKind.i64.wrap ((s.size : Int) + 1) = (s.size : Int) + 1 := by rw [IntKind.wrap_i64]; omega
           have z2 := ((Q2.out.below hb3).below ((Below.refl _ _).alloc (Nat.le_refl _) (.cells #[.slice Bs es2.length c2] 30))).below hb4
           have z3 := Q3.out.below hb4
           have j2 : w4.cell? ⟨w2.heap.size, 0, none⟩ = some (.slice As es1.length c1) := z2.at_ 0
           have n24 : w2.heap.size ≠ w4.heap.size := by have := z2.len; omega
           have n34 : w3.heap.size ≠ w4.heap.size := by have := z3.len; omega
           have y2 := z2.below ((Below.refl _ w4).alloc (Nat.le_refl _) (.cells #[.slice Cs es3.length c3] 30))
           have y3 := z3.below ((Below.refl _ w4).alloc (Nat.le_refl _) (.cells #[.slice Cs es3.length c3] 30))
           have y4 : CB (w4.alloc (.cells #[.slice Cs es3.length c3] 30)) w4.heap.size 30 #[.slice Cs es3.length c3] := CB.new _ _ _
           have k2 : (w4.alloc (.cells #[.slice Cs es3.length c3] 30)).cell? ⟨w2.heap.size, 0, none⟩ = some (.slice As es1.length c1) := y2.at_ 0
           have K4 : Hid ((w4.alloc (.cells #[.slice Cs es3.length c3] 30)).drew.cell? ⟨w2.heap.size, 0, none⟩ = some (.slice As es1.length c1) ∧ (w4.alloc (.cells #[.slice Cs es3.length c3] 30)).drew.cell? ⟨w3.heap.size, 0, none⟩ = some (.slice Bs es2.length c2) ∧ (w4.alloc (.cells #[.slice Cs es3.length c3] 30)).drew.cell? ⟨w4.heap.size, 0, none⟩ = some (.slice Cs es3.length c3)) := ⟨y2.at_ 0, y3.at_ 0, y4.at_ 0⟩
           have KB : Hid (∀ W, Below (w4.alloc (.cells #[.slice Cs es3.length c3] 30)).heap.size (w4.alloc (.cells #[.slice Cs es3.length c3] 30)) W → W.cell? ⟨w2.heap.size, 0, none⟩ = some (.slice As es1.length c1) ∧ W.cell? ⟨w3.heap.size, 0, none⟩ = some (.slice Bs es2.length c2) ∧ W.cell? ⟨w4.heap.size, 0, none⟩ = some (.slice Cs es3.length c3)) := fun W hW => ⟨(y2.below hW).at_ 0, (y3.below hW).at_ 0, (y4.below hW).at_ 0⟩
           have D4 : Hid (Below (w4.alloc (.cells #[.slice Cs es3.length c3] 30)).heap.size (w4.alloc (.cells #[.slice Cs es3.length c3] 30)) (w4.alloc (.cells #[.slice Cs es3.length c3] 30)).drew) := Below.newN _ 1
           clear hj1 hB3 hm3 hj2 hj3 g23 g34 g45 hC z2 z3 y2 y3 y4 hb3 hb4 e1 e2 e3 cs ct cr JE H1 H2 H3 Q2 Q3))
      go_region_held3 (fun W => W.cell? ⟨w2.heap.size, 0, none⟩ = some (.slice As es1.length c1) ∧ W.cell? ⟨w3.heap.size, 0, none⟩ = some (.slice Bs es2.length c2) ∧ W.cell? ⟨w4.heap.size, 0, none⟩ = some (.slice Cs es3.length c3)) (first | (with_reducible exact K4.out) | (with_reducible exact K6.out) | (with_reducible exact K7.out) | fail)
        (first
          | (go_at_call 18; (with_reducible refine (EV1.out _ (Below.both HG.out.2.2 D4.out)).mono ?_); rintro e w6 ⟨rfl, hb6⟩; have D6 := Lib.hid (Below.both D4.out hb6); have K6 := Lib.hid (KB.out w6 D6.out))
          | (go_at_call 18; (with_reducible refine (EV2.out _ (Below.both HG.out.2.2 D6.out)).mono ?_); rintro e w7 ⟨rfl, hb7⟩; have D7 := Lib.hid (Below.both D6.out hb7); have K7 := Lib.hid (KB.out w7 D7.out))
          | fail)
      go_wp2
      go_ret
      exact ⟨rfl, Below.both (Below.both G4.out HG.out.2.2) D7.out⟩
    · have cs := fun W h => csch_len W s h
      have ct := fun W h => csch_len W t h
      obtain ⟨x, hx⟩ : ∃ x, (schS s).err = x := ⟨_, rfl⟩
      obtain ⟨y, hy⟩ : ∃ x, (schS t).err = x := ⟨_, rfl⟩
      obtain ⟨p, hp⟩ : ∃ x, (schS s).plc = x := ⟨_, rfl⟩
      obtain ⟨q, hq⟩ : ∃ x, (schS t).plc = x := ⟨_, rfl⟩
      rw [hx, hp] at cs
      rw [hy, hq] at ct
      rw [hx] at he
      rw [hy] at hf
      have hxz : ((x : Int) != 0) = false := by rw [he]; rfl
      have hyz : ((y : Int) != 0) = true := by simp; omega
      clear he hf hx hy hp hq hbig hbig2
      go_enter Tryd.func5, Tryd.ntmps5
      go_wp2_with (first
        | (go_at_call 13; refine ca.mono ?_; rintro e w1 ⟨rfl, hb1⟩; have e1 := hEV.below hb1)
        | (go_at_call 15; (with_reducible refine (cs _ e1).mono ?_); rintro e w2 ⟨As, n, c, rfl, hb2⟩; have e2 := (e1.below hb2).new (.cells #[.slice As n c] 30))
        | (go_at_call 15; (with_reducible refine (ct _ e2).mono ?_); rintro e w3 ⟨Bs, n2, c2, rfl, hb3⟩))
      go_ret
      exact ⟨rfl, (Below.both (Below.both hb1 hb2) (((Below.refl _ w2).alloc (Nat.le_refl _) _).trans (hb3.mono (by simp)))).alloc (by have := hb1.size; have := hb2.size; have := hb3.size; simp at *; omega) _⟩
  · have cs := fun W h => csch_len W s h
    have ct := fun W h => csch_len W t h
    obtain ⟨x, hx⟩ : ∃ x, (schS s).err = x := ⟨_, rfl⟩
    obtain ⟨y, hy⟩ : ∃ x, (schS t).err = x := ⟨_, rfl⟩
    obtain ⟨p, hp⟩ : ∃ x, (schS s).plc = x := ⟨_, rfl⟩
    obtain ⟨q, hq⟩ : ∃ x, (schS t).plc = x := ⟨_, rfl⟩
    rw [hx, hp] at cs
    rw [hy, hq] at ct
    rw [hx] at he
    have hxz : ((x : Int) != 0) = true := by simp; omega
    clear he hx hy hp hq hbig hbig2
    go_enter Tryd.func5, Tryd.ntmps5
    go_wp2_with (first
      | (go_at_call 13; refine ca.mono ?_; rintro e w1 ⟨rfl, hb1⟩; have e1 := hEV.below hb1)
      | (go_at_call 15; (with_reducible refine (cs _ e1).mono ?_); rintro e w2 ⟨As, n, c, rfl, hb2⟩; have e2 := (e1.below hb2).new (.cells #[.slice As n c] 30))
      | (go_at_call 15; (with_reducible refine (ct _ e2).mono ?_); rintro e w3 ⟨Bs, n2, c2, rfl, hb3⟩))
    go_ret
    exact ⟨rfl, (Below.both (Below.both hb1 hb2) (((Below.refl _ w2).alloc (Nat.le_refl _) _).trans (hb3.mono (by simp)))).alloc (by have := hb1.size; have := hb2.size; have := hb3.size; simp at *; omega) _⟩
end Go.Proofs.YtbngelinfpaefaaDoor
