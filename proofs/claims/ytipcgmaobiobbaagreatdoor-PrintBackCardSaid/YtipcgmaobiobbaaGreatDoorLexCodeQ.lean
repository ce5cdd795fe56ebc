/- The walks of the code: a text written as one token. -/
import Derived.Test.YtipcgmaobiobbaaGreatDoorParGd
import Derived.Test.YtipcgmaobiobbaaGreatDoorLexBldS
import Derived.Test.YtipcgmaobiobbaaGreatDoorLexQt
namespace Go.Proofs.YtipcgmaobiobbaaGreatDoor
open Go.RowKit
open Go.Lib (byteCells)

set_option maxRecDepth 100000 in
set_option maxHeartbeats 1000000 in
theorem writeQ_any (w : World) (B b : Nat) (l : List UInt8) (c : UInt8) (hB : Bld B b l w) (hn : l.length + 4 ≤ 140737488355328) (hBw : B ≤ w.heap.size) (r : List UInt8) (hr : r = l ++ qb c) :
    Calls Tryz.prog 110 #[.pointer (some ⟨b, 0, none⟩), .int .u8 (c.toNat : Nat)] w fun e w' => e = .returned (.tuple #[]) ∧ Bld B b r w' ∧ Below B w w' := by
  have hc8 := c.toNat_lt
  by_cases q92 : c.toNat = 92 ∨ c.toNat = 34
  · rw [qb_esc q92] at hr
    have hz : ((c.toNat : Int) == 92) = true ∨ (((c.toNat : Int) == 92) = false ∧ ((c.toNat : Int) == 34) = true) := by
      by_cases g : c.toNat = 92
      · exact .inl (by rw [g]; rfl)
      · exact .inr ⟨beq_eq_false_iff_ne.2 (by omega), by rw [q92.resolve_left g]; rfl⟩
    obtain ⟨m, hm⟩ : ∃ m, m = l ++ [(92 : UInt8)] := ⟨_, rfl⟩
    have hml : m.length = l.length + 1 := by rw [hm]; simp
    have c1 := hB.byte 92 (by omega) hBw m hm
    change Calls _ _ #[_, .int .u8 92] _ _ at c1
    have hr2 : r = m ++ [c] := by rw [hr, hm, List.append_assoc]; rfl
    have C2 := Lib.hid (fun (w2 : World) (h2 : Bld B b m w2) (hb2 : Below B w w2) => h2.byte c (by omega) (Nat.le_trans hBw hb2.size) r hr2)
    clear q92 hm hml hr hr2 hB hc8 hn
    rcases hz with hz | ⟨hz, hz2⟩
    · go_enter Tryz.func110, Tryz.ntmps110
      go_wp2_with (first
        | (go_at_call 86; (with_reducible refine c1.mono ?_); rintro e w2 ⟨rfl, h2, hb2⟩; have c2 := C2.out w2 h2 hb2; clear h2)
        | (go_at_call 86; (with_reducible refine c2.mono ?_); rintro e w3 ⟨rfl, h3, hb3⟩))
      go_end0
      exact ⟨rfl, h3, hb2.trans hb3⟩
    · go_enter Tryz.func110, Tryz.ntmps110
      go_wp2_with (first
        | (go_at_call 86; (with_reducible refine c1.mono ?_); rintro e w2 ⟨rfl, h2, hb2⟩; have c2 := C2.out w2 h2 hb2; clear h2)
        | (go_at_call 86; (with_reducible refine c2.mono ?_); rintro e w3 ⟨rfl, h3, hb3⟩))
      go_end0
      exact ⟨rfl, h3, hb2.trans hb3⟩
  · have z92 : ((c.toNat : Int) == 92) = false := beq_eq_false_iff_ne.2 (by omega)
    have z34 : ((c.toNat : Int) == 34) = false := beq_eq_false_iff_ne.2 (by omega)
    by_cases q10 : c.toNat = 10
    · rw [qb_nl q10] at hr
      have z10 : ((c.toNat : Int) == 10) = true := by rw [q10]; rfl
      have c1 := hB.text ⟨#[92, 110]⟩ (by show _ + 2 ≤ _; omega) hBw r hr
      clear q92 q10 hr hB hc8 hn
      go_enter Tryz.func110, Tryz.ntmps110
      go_wp2_with (go_at_call 54; refine c1.mono ?_; rintro e w2 ⟨rfl, h2, hb2⟩)
      go_end0
      exact ⟨rfl, h2, hb2⟩
    · have z10 : ((c.toNat : Int) == 10) = false := beq_eq_false_iff_ne.2 (by omega)
      by_cases q9 : c.toNat = 9
      · rw [qb_tab q9] at hr
        have z9 : ((c.toNat : Int) == 9) = true := by rw [q9]; rfl
        have c1 := hB.text ⟨#[92, 116]⟩ (by show _ + 2 ≤ _; omega) hBw r hr
        clear q92 q10 q9 hr hB hc8 hn
        go_enter Tryz.func110, Tryz.ntmps110
        go_wp2_with (go_at_call 54; refine c1.mono ?_; rintro e w2 ⟨rfl, h2, hb2⟩)
        go_end0
        exact ⟨rfl, h2, hb2⟩
      · have z9 : ((c.toNat : Int) == 9) = false := beq_eq_false_iff_ne.2 (by omega)
        by_cases qs : 32 ≤ c.toNat ∧ c.toNat ≤ 126
        · rw [qb_self q92 qs] at hr
          have zl : (32 : Int) ≤ (c.toNat : Int) := by omega
          have zh : (c.toNat : Int) ≤ 126 := by omega
          have c1 := hB.byte c (by omega) hBw r hr
          clear q92 q10 q9 qs hr hB hc8 hn
          go_enter Tryz.func110, Tryz.ntmps110
          go_wp2_with (go_at_call 86; refine c1.mono ?_; rintro e w2 ⟨rfl, h2, hb2⟩)
          go_end0
          exact ⟨rfl, h2, hb2⟩
        · obtain ⟨p, hp⟩ : ∃ p, c.toNat / 16 = p := ⟨_, rfl⟩
          obtain ⟨q, hq⟩ : ∃ q, c.toNat % 16 = q := ⟨_, rfl⟩
          have hp16 : p < 16 := by omega
          have hq16 : q < 16 := by omega
          have e1 := lit_hexD p hp16
          have e2 := lit_hexD q hq16
          have hqb := qb_hex q92 q10 q9 qs
          rw [hp, hq] at hqb
          obtain ⟨y1, hy1⟩ : ∃ y, qb.hexD p = y := ⟨_, rfl⟩
          obtain ⟨y2, hy2⟩ : ∃ y, qb.hexD q = y := ⟨_, rfl⟩
          rw [hy1] at e1 hqb
          rw [hy2] at e2 hqb
          rw [hqb] at hr
          have hp16i : (p : Int) < 16 := by omega
          have hq16i : (q : Int) < 16 := by omega
          have hpi : (c.toNat : Int) / 16 = (p : Int) := by omega
          have hqi : (c.toNat : Int) % 16 = (q : Int) := by omega
          obtain ⟨m, hm⟩ : ∃ m, m = l ++ [(92 : UInt8), 120] := ⟨_, rfl⟩
          have hml : m.length = l.length + 2 := by rw [hm]; simp
          obtain ⟨m2, hm2⟩ : ∃ m2, m2 = m ++ [y1] := ⟨_, rfl⟩
          have hml2 : m2.length = l.length + 3 := by rw [hm2]; simp [hml]
          have c1 := hB.text ⟨#[92, 120]⟩ (by show _ + 2 ≤ _; omega) hBw m hm
          have C2 := Lib.hid (fun (w2 : World) (h2 : Bld B b m w2) (hb2 : Below B w w2) => h2.byte y1 (by omega) (Nat.le_trans hBw hb2.size) m2 hm2)
          have hr2 : r = m2 ++ [y2] := by rw [hr, hm2, hm, List.append_assoc, List.append_assoc]; rfl
          have C3 := Lib.hid (fun (w2 : World) (h2 : Bld B b m2 w2) (hb2 : Below B w w2) => h2.byte y2 (by omega) (Nat.le_trans hBw hb2.size) r hr2)
          have zs : (32 : Int) ≤ (c.toNat : Int) ∧ ¬ (c.toNat : Int) ≤ 126 ∨ ¬ (32 : Int) ≤ (c.toNat : Int) := by omega
          clear q92 q10 q9 qs hr hm hm2 hml hml2 hr2 hB hn hp hq hy1 hy2 hqb
          rcases zs with ⟨zl, zh⟩ | zl
          · go_enter Tryz.func110, Tryz.ntmps110
            go_wp2_with (first
              | (go_at_call 54; (with_reducible refine c1.mono ?_); rintro e w2 ⟨rfl, h2, hb2⟩; have c2 := C2.out w2 h2 hb2; clear h2)
              | (go_at_call 86; (with_reducible refine c2.mono ?_); rintro e w3 ⟨rfl, h3, hb3⟩; have c3 := C3.out w3 h3 (hb2.trans hb3); clear h3)
              | (go_at_call 86; (with_reducible refine c3.mono ?_); rintro e w4 ⟨rfl, h4, hb4⟩))
            go_end0
            exact ⟨rfl, h4, (hb2.trans hb3).trans hb4⟩
          · go_enter Tryz.func110, Tryz.ntmps110
            go_wp2_with (first
              | (go_at_call 54; (with_reducible refine c1.mono ?_); rintro e w2 ⟨rfl, h2, hb2⟩; have c2 := C2.out w2 h2 hb2; clear h2)
              | (go_at_call 86; (with_reducible refine c2.mono ?_); rintro e w3 ⟨rfl, h3, hb3⟩; have c3 := C3.out w3 h3 (hb2.trans hb3); clear h3)
              | (go_at_call 86; (with_reducible refine c3.mono ?_); rintro e w4 ⟨rfl, h4, hb4⟩))
            go_end0
            exact ⟨rfl, h4, (hb2.trans hb3).trans hb4⟩

set_option maxRecDepth 100000 in
set_option maxHeartbeats 1000000 in
theorem quote_any (w : World) (s : ByteArray) (hs : s.size ≤ 4194304) :
    Calls Tryz.prog 93 #[.string s] w fun e w' => e = .returned (.string (str (quoteL (ls s)))) ∧ Below w.heap.size w w' := by
  obtain ⟨Z, hZ⟩ : ∃ Z, str (quoteL (ls s)) = Z := ⟨_, rfl⟩
  rw [hZ]
  have HZ := Lib.hid hZ
  have c0 := (Bld.new w).byte 34 (by decide) (by simp) [34] rfl
  change Calls _ _ #[_, .int .u8 34] _ _ at c0
  have hq0 := QInv.start s
  have hb0 : Below w.heap.size w (w.alloc (.cells #[.pointer none, .slice none 0 0] 69)) := (Below.refl _ w).alloc (Nat.le_refl _) _
  clear hZ
  go_enter Tryz.func93, Tryz.ntmps93
  go_wp2_with (go_at_call 86; refine c0.mono ?_; rintro e w1 ⟨rfl, h1, hb1⟩)
  have H1 := Lib.hid h1
  have HQ0 := Lib.hid hq0
  clear h1 hq0 c0
  go_loopw [8] (fun v wr => ∃ (k : Nat) (pre : List UInt8), v = .int .i64 k ∧ k ≤ s.size ∧ Hid (Bld w.heap.size w.heap.size pre wr) ∧ Hid (QInv s pre k) ∧ Below w.heap.size w wr) (fun v _ => s.size - (intOf v).toNat)
  case atStart => exact ⟨0, [34], rfl, Nat.zero_le _, H1, HQ0, hb0.trans hb1⟩
  case round =>
    obtain ⟨k, pre, rfl, hk, HB, HQ, hbw⟩ := hrel
    have hlen := HQ.out.len
    by_cases hlt : k < s.size
    · have hltz : (k : Int) < (s.size : Int) := by omega
      obtain ⟨c, hc⟩ : ∃ c, s[k]'hlt = c := ⟨_, rfl⟩
      obtain ⟨r, hr⟩ : ∃ r, r = pre ++ qb c := ⟨_, rfl⟩
      have cw := writeQ_any wr _ _ pre c HB.out (by omega) hbw.size r hr
      have HQ2 := Lib.hid (HQ.out.more hlt hc rfl hr)
      clear hr hlen
      go_wp2_with (go_at_call 110; refine cw.mono ?_; rintro e w2 ⟨rfl, h2, hb2⟩; have H2 := Lib.hid h2; clear h2)
      go_roundw
      case rel => exact ⟨k + 1, r, by go_num, by omega, H2, HQ2, hbw.trans hb2⟩
      case measure => simp [intOf]; omega
    · have hltz : ¬ (k : Int) < (s.size : Int) := by omega
      obtain ⟨r, hr⟩ : ∃ r, r = pre ++ [34] := ⟨_, rfl⟩
      have hrq : str r = Z := by rw [hr, HQ.out.end_ (by omega), HZ.out]
      have cw := HB.out.byte 34 (by omega) hbw.size r hr
      change Calls _ _ #[_, .int .u8 34] _ _ at cw
      clear hlen hr
      have CO := Lib.hid (fun (w2 : World) (h2 : Bld w.heap.size w.heap.size r w2) (hb2 : Below w.heap.size wr w2) => h2.out (Nat.le_trans hbw.size hb2.size))
      rw [hrq] at CO
      go_wp2_with (first
        | (go_at_call 86; (with_reducible refine cw.mono ?_); rintro e w2 ⟨rfl, h2, hb2⟩; have co := CO.out w2 h2 hb2; clear h2)
        | (go_at_call 30; refine co.mono ?_; rintro e w3 ⟨rfl, hb3⟩))
      go_ret
      exact ⟨rfl, (hbw.trans hb2).trans hb3⟩
end Go.Proofs.YtipcgmaobiobbaaGreatDoor
