/- The walk of the reference: a text written as one token. -/
import Derived.Test.YtggonhciakfabaaDoorLexRefS
import Derived.Test.YtggonhciakfabaaDoorStepApp
import Derived.Laws.OwnMore
import Derived.Deep.RegionHeld3
import Derived.Deep.DeepCutAuto
namespace Go.Proofs.YtggonhciakfabaaDoor
open Go.RowKit
open Go.Lib (byteCells)

theorem own_lit1 (w : World) (base : Nat) (hb : base ≤ w.heap.size) (x : UInt8) : OwnB (w.alloc (.cells #[.int .u8 (x.toNat : Nat)] 5)) base 5 (some ⟨w.heap.size, 0, none⟩) 1 [x] := World.ownsRow_lit w _ 1 hb (by decide) rfl
theorem lit_hexD (p : Nat) (h : p < 16) : (⟨#[48, 49, 50, 51, 52, 53, 54, 55, 56, 57, 97, 98, 99, 100, 101, 102]⟩ : ByteArray)[p]'h = qb.hexD p := by
  have : ∀ p : Fin 16, (⟨#[48, 49, 50, 51, 52, 53, 54, 55, 56, 57, 97, 98, 99, 100, 101, 102]⟩ : ByteArray)[(p : Nat)]'p.2 = qb.hexD p := by decide
  exact this ⟨p, h⟩
theorem wrap_u8q {x : Int} (h0 : 0 ≤ x) (h1 : x ≤ 255) : IntKind.u8.wrap x = x := by
  have h : IntKind.u8.wrap x = x % 256 := rfl
  rw [h]
  omega
theorem qb_esc {c : UInt8} (h : c.toNat = 92 ∨ c.toNat = 34) : qb c = [92, c] := by unfold qb; rw [if_pos h]
theorem qb_nl {c : UInt8} (h : c.toNat = 10) : qb c = [92, 110] := by unfold qb; rw [if_neg (by omega), if_pos h]
theorem qb_tab {c : UInt8} (h : c.toNat = 9) : qb c = [92, 116] := by unfold qb; rw [if_neg (by omega), if_neg (by omega), if_pos h]
theorem qb_self {c : UInt8} (h : ¬ (c.toNat = 92 ∨ c.toNat = 34)) (h2 : 32 ≤ c.toNat ∧ c.toNat ≤ 126) : qb c = [c] := by unfold qb; rw [if_neg h, if_neg (by omega), if_neg (by omega), if_pos h2]
theorem qb_hex {c : UInt8} (h : ¬ (c.toNat = 92 ∨ c.toNat = 34)) (h1 : c.toNat ≠ 10) (h3 : c.toNat ≠ 9) (h2 : ¬ (32 ≤ c.toNat ∧ c.toNat ≤ 126)) : qb c = [92, 120, qb.hexD (c.toNat / 16), qb.hexD (c.toNat % 16)] := by unfold qb; rw [if_neg h, if_neg h1, if_neg h3, if_neg h2]

/-- what the loop knows: what is written so far, and what is still to be written -/
def QInv (s : ByteArray) (pre : List UInt8) (k : Nat) : Prop := pre ++ qbs ((ls s).drop k) = 34 :: qbs (ls s)
theorem QInv.start (s : ByteArray) : QInv s [34] 0 := by unfold QInv; rw [List.drop_zero]; rfl
theorem QInv.end_ {s : ByteArray} {pre : List UInt8} {k : Nat} (h : QInv s pre k) (hk : s.size ≤ k) : pre ++ [34] = quoteL (ls s) := by
  unfold QInv at h
  rw [drop_end s hk] at h
  unfold quoteL
  rw [← List.cons_append, ← h]
  show _ = (pre ++ []) ++ [34]
  rw [List.append_nil]
theorem QInv.len {s : ByteArray} {pre : List UInt8} {k : Nat} (h : QInv s pre k) : pre.length ≤ 4 * s.size + 1 := by
  have e := congrArg List.length h
  rw [List.length_append, List.length_cons] at e
  have := (qbs_len (ls s)).2
  rw [ls_size] at this
  omega
theorem QInv.more {s : ByteArray} {pre : List UInt8} {k : Nat} (h : QInv s pre k) (hk : k < s.size) {c : UInt8} (hc : s[k]'hk = c) {l r : List UInt8} (hl : qb c = l) (hr : r = pre ++ l) : QInv s r (k + 1) := by
  unfold QInv at h ⊢
  rw [drop_at s hk, hc] at h
  have e : qbs (c :: (ls s).drop (k + 1)) = qb c ++ qbs ((ls s).drop (k + 1)) := rfl
  rw [e, hl, ← List.append_assoc, ← hr] at h
  exact h

set_option maxRecDepth 100000 in
set_option maxHeartbeats 8000000 in
theorem rquote_any (w : World) (s : ByteArray) (hs : s.size ≤ 4194304) :
    Calls Tryd.prog 17 #[.string s] w fun e w' => e = .returned (.string (str (quoteL (ls s)))) ∧ Below w.heap.size w w' := by
  obtain ⟨Z, hZ⟩ : ∃ Z, str (quoteL (ls s)) = Z := ⟨_, rfl⟩
  rw [hZ]
  have HZ := Lib.hid hZ
  have h1 := own_lit1 w w.heap.size (Nat.le_refl _) 34
  have hq0 := QInv.start s
  have hb0 : Below w.heap.size w (w.alloc (.cells #[.int .u8 34] 5)) := (Below.refl _ w).alloc (Nat.le_refl _) _
  clear hZ
  go_enter Tryd.func17, Tryd.ntmps17
  go_wp2
  go_loopw [4, 5] (fun o v wr => ∃ (k : Nat) (A : Option Addr) (c : Nat) (pre : List UInt8), o = .slice A pre.length c ∧ v = .int .i64 k ∧ k ≤ s.size ∧ Hid (OwnB wr w.heap.size 5 A c pre) ∧ Hid (QInv s pre k) ∧ Below w.heap.size w wr) (fun _ v _ => s.size - (intOf v).toNat)
  case atStart => exact ⟨0, _, _, [34], rfl, rfl, Nat.zero_le _, h1, hq0, hb0⟩
  case round =>
    obtain ⟨k, A, c0, pre, rfl, rfl, hk, HO, HQ, hbw⟩ := hrel
    by_cases hlt : k < s.size
    · have hltz : (k : Int) < (s.size : Int) := by omega
      obtain ⟨c, hc⟩ : ∃ c, s[k]'hlt = c := ⟨_, rfl⟩
      have hc8 := c.toNat_lt
      have app := fun (l : List UInt8) (cs : Array Value) (n : Nat) (hl : qb c = l) (hn : n = l.length) (hcs : cs.toList = byteCells l) (r : List UInt8) (hr : r = pre ++ l) =>
        (⟨run_app_new HO.out cs l n hn hcs 5 r hr (by have := (HQ.out.more hlt hc hl hr).len; omega) hbw.size, HQ.out.more hlt hc hl hr⟩ : _ ∧ _)
      have APP := Lib.hid app
      clear app
      by_cases q92 : c.toNat = 92 ∨ c.toNat = 34
      · obtain ⟨r, hr⟩ : ∃ r, r = pre ++ [92, c] := ⟨_, rfl⟩
        obtain ⟨⟨A', c', w4, ha, ho4, hb4⟩, hq2⟩ := APP.out [92, c] #[.int .u8 92, .int .u8 (c.toNat : Nat)] 2 (qb_esc q92) rfl (by simp [byteCells]) r hr
        have HA := Lib.hid ha
        have HO4 := Lib.hid ho4
        have HQ2 := Lib.hid hq2
        have hz : ((c.toNat : Int) == 92) = true ∨ (((c.toNat : Int) == 92) = false ∧ ((c.toNat : Int) == 34) = true) := by
          by_cases g : c.toNat = 92
          · exact .inl (by rw [g]; rfl)
          · exact .inr ⟨beq_eq_false_iff_ne.2 (by omega), by rw [q92.resolve_left g]; rfl⟩
        clear q92 hr ha ho4 hq2 APP hc8
        rcases hz with hz | ⟨hz, hz2⟩
        · go_wp2_with (at_builtin; refine wpList_append_run rfl (.tmp 35) (.tmp 37) _ rfl rfl rfl HA.out ?_)
          go_roundw
          case rel => exact ⟨k + 1, A', c', r, rfl, by go_num, by omega, HO4, HQ2, hbw.trans hb4⟩
          case measure => simp [intOf]; omega
        · go_wp2_with (at_builtin; refine wpList_append_run rfl (.tmp 35) (.tmp 37) _ rfl rfl rfl HA.out ?_)
          go_roundw
          case rel => exact ⟨k + 1, A', c', r, rfl, by go_num, by omega, HO4, HQ2, hbw.trans hb4⟩
          case measure => simp [intOf]; omega
      · have z92 : ((c.toNat : Int) == 92) = false := beq_eq_false_iff_ne.2 (by omega)
        have z34 : ((c.toNat : Int) == 34) = false := beq_eq_false_iff_ne.2 (by omega)
        by_cases q10 : c.toNat = 10
        · obtain ⟨r, hr⟩ : ∃ r, r = pre ++ [92, 110] := ⟨_, rfl⟩
          obtain ⟨⟨A', c', w4, ha, ho4, hb4⟩, hq2⟩ := APP.out [92, 110] #[.int .u8 92, .int .u8 110] 2 (qb_nl q10) rfl (by simp [byteCells]) r hr
          have HA := Lib.hid ha
          have HO4 := Lib.hid ho4
          have HQ2 := Lib.hid hq2
          have z10 : ((c.toNat : Int) == 10) = true := by rw [q10]; rfl
          clear q92 q10 hr ha ho4 hq2 APP hc8
          go_wp2_with (at_builtin; refine wpList_append_run rfl (.tmp 42) (.tmp 43) _ rfl rfl rfl HA.out ?_)
          go_roundw
          case rel => exact ⟨k + 1, A', c', r, rfl, by go_num, by omega, HO4, HQ2, hbw.trans hb4⟩
          case measure => simp [intOf]; omega
        · have z10 : ((c.toNat : Int) == 10) = false := beq_eq_false_iff_ne.2 (by omega)
          by_cases q9 : c.toNat = 9
          · obtain ⟨r, hr⟩ : ∃ r, r = pre ++ [92, 116] := ⟨_, rfl⟩
            obtain ⟨⟨A', c', w4, ha, ho4, hb4⟩, hq2⟩ := APP.out [92, 116] #[.int .u8 92, .int .u8 116] 2 (qb_tab q9) rfl (by simp [byteCells]) r hr
            have HA := Lib.hid ha
            have HO4 := Lib.hid ho4
            have HQ2 := Lib.hid hq2
            have z9 : ((c.toNat : Int) == 9) = true := by rw [q9]; rfl
            clear q92 q10 q9 hr ha ho4 hq2 APP hc8
            go_wp2_with (at_builtin; refine wpList_append_run rfl (.tmp 48) (.tmp 49) _ rfl rfl rfl HA.out ?_)
            go_roundw
            case rel => exact ⟨k + 1, A', c', r, rfl, by go_num, by omega, HO4, HQ2, hbw.trans hb4⟩
            case measure => simp [intOf]; omega
          · have z9 : ((c.toNat : Int) == 9) = false := beq_eq_false_iff_ne.2 (by omega)
            by_cases qs : 32 ≤ c.toNat ∧ c.toNat ≤ 126
            · obtain ⟨r, hr⟩ : ∃ r, r = pre ++ [c] := ⟨_, rfl⟩
              obtain ⟨⟨A', c', w4, ha, ho4, hb4⟩, hq2⟩ := APP.out [c] #[.int .u8 (c.toNat : Nat)] 1 (qb_self q92 qs) rfl (by simp [byteCells]) r hr
              have HA := Lib.hid ha
              have HO4 := Lib.hid ho4
              have HQ2 := Lib.hid hq2
              have zl : (32 : Int) ≤ (c.toNat : Int) := by omega
              have zh : (c.toNat : Int) ≤ 126 := by omega
              clear q92 q10 q9 qs hr ha ho4 hq2 APP hc8
              go_wp2_with (at_builtin; refine wpList_append_run rfl (.tmp 58) (.tmp 60) _ rfl rfl rfl HA.out ?_)
              go_roundw
              case rel => exact ⟨k + 1, A', c', r, rfl, by go_num, by omega, HO4, HQ2, hbw.trans hb4⟩
              case measure => simp [intOf]; omega
            · obtain ⟨p, hp⟩ : ∃ p, c.toNat / 16 = p := ⟨_, rfl⟩
              obtain ⟨q, hq⟩ : ∃ q, c.toNat % 16 = q := ⟨_, rfl⟩
              have hp16 : p < 16 := by omega
              have hq16 : q < 16 := by omega
              have hpi : (c.toNat : Int) / 16 = (p : Int) := by omega
              have hqi : (c.toNat : Int) % 16 = (q : Int) := by omega
              have e1 := lit_hexD p hp16
              have e2 := lit_hexD q hq16
              have hwp : IntKind.u8.wrap (p : Int) = (p : Int) := wrap_u8q (by omega) (by omega)
              have hqt : ((c.toNat : Nat) : Int).tmod 16 = (q : Int) := by rw [Int.tmod_eq_emod_of_nonneg (by omega)]; exact hqi
              have hp16i : (p : Int) < 16 := by omega
              have hq16i : (q : Int) < 16 := by omega
              have hqb := qb_hex q92 q10 q9 qs
              rw [hp, hq] at hqb
              obtain ⟨y1, hy1⟩ : ∃ y, qb.hexD p = y := ⟨_, rfl⟩
              obtain ⟨y2, hy2⟩ : ∃ y, qb.hexD q = y := ⟨_, rfl⟩
              rw [hy1] at e1 hqb
              rw [hy2] at e2 hqb
              obtain ⟨r, hr⟩ : ∃ r, r = pre ++ [92, 120, y1, y2] := ⟨_, rfl⟩
              have hq2 := HQ.out.more hlt hc hqb hr
              have hbd : Below wr.heap.size wr wr.drew := Below.thenN (Below.refl _ _) 1
              obtain ⟨A', c', w4, ha, ho4, hb4'⟩ := run_app_new (HO.out.then_ hbd) #[.int .u8 92, .int .u8 120, .int .u8 (y1.toNat : Nat), .int .u8 (y2.toNat : Nat)] [92, 120, y1, y2] 4 rfl (by simp [byteCells]) 5 r hr (by have := hq2.len; omega) (Nat.le_trans hbw.size hbd.size)
              have hb4 : Below w.heap.size wr w4 := (hbd.mono hbw.size).trans hb4'
              rw [World.alloc_drew] at ha
              have HA := Lib.hid ha
              clear hb4' hbd
              have HO4 := Lib.hid ho4
              have HQ2 := Lib.hid hq2
              have zs : (32 : Int) ≤ (c.toNat : Int) ∧ ¬ (c.toNat : Int) ≤ 126 ∨ ¬ (32 : Int) ≤ (c.toNat : Int) := by omega
              clear q92 q10 q9 qs hr ha ho4 hq2 APP hc8 hp hq hy1 hy2 hqb
              rcases zs with ⟨zl, zh⟩ | zl
              · go_wp2_with fail
                go_region_held3 (fun _ => True) (exact trivial) (first | (refine step_append_run rfl (.tmp 17) (.tmp 26) _ rfl rfl rfl HA.out ?_) | fail)
                all_goals
                  clear HA
                  go_wp2_with fail
                  go_roundw
                  case rel => exact ⟨k + 1, A', c', r, rfl, by go_num, by omega, HO4, HQ2, hbw.trans hb4⟩
                  case measure => simp [intOf]; omega
              · go_wp2_with fail
                go_region_held3 (fun _ => True) (exact trivial) (first | (refine step_append_run rfl (.tmp 17) (.tmp 26) _ rfl rfl rfl HA.out ?_) | fail)
                all_goals
                  clear HA
                  go_wp2_with fail
                  go_roundw
                  case rel => exact ⟨k + 1, A', c', r, rfl, by go_num, by omega, HO4, HQ2, hbw.trans hb4⟩
                  case measure => simp [intOf]; omega
    · have hltz : ¬ (k : Int) < (s.size : Int) := by omega
      obtain ⟨r, hr⟩ : ∃ r, r = pre ++ [34] := ⟨_, rfl⟩
      have hrq : str r = Z := by rw [hr, HQ.out.end_ (by omega), HZ.out]
      obtain ⟨A', c', w4, ha, ho4, hb4⟩ := run_app_new HO.out #[.int .u8 34] [34] 1 rfl (by simp [byteCells]) 5 r hr (by have := HQ.out.len; rw [hr, List.length_append]; show _ + 1 ≤ _; omega) hbw.size
      have hst := own_byt ho4 c'
      rw [hrq] at hst
      have HA := Lib.hid ha
      clear ha ho4 hr hrq
      go_wp2_with (at_builtin; refine wpList_append_run rfl (.tmp 62) (.tmp 63) _ rfl rfl rfl HA.out ?_)
      go_ret
      exact ⟨rfl, hbw.trans hb4⟩
end Go.Proofs.YtggonhciakfabaaDoor
