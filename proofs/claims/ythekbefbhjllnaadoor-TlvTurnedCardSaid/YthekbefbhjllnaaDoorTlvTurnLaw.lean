/- The walk of TlvTurned. -/
import Derived.Test.YthekbefbhjllnaaDoorTlvBackLaw
import Derived.Laws.BitsAllLaws
namespace Go.Proofs.YthekbefbhjllnaaDoor
open Go.RowKit
open Go.Lib (byteCells uvarint)

/-- append of bytes that stand below some block onto a row of the call's own -/
theorem app_byt {w : World} {base : Nat} {A0 : Option Addr} {c0 : Nat} {pre : List UInt8} (hown : OwnB w base 5 A0 c0 pre) {B : Nat} {A : Option Addr} {l : List UInt8} (h : Byt w B A l) (c n : Nat) (hn : l.length = n) (r : List UInt8) (hr : r = pre ++ l) (hm : r.length ≤ 140737488355328) (hbase : base ≤ w.heap.size) :
    ∃ A' c' w', (Builtin.append_ #[28, 28] 28 #[.slice A0 pre.length c0, .slice A n c]).run Tryd.prog w = .ok (.slice A' r.length c') w' ∧ OwnB w' base 5 A' c' r ∧ Below base w w' := by
  obtain ⟨i0, hi, hz0, hz1, hz2⟩ := info_parts infoB
  subst hn
  exact run_append_byt base 28 28 5 i0 _ Tryd.underlying28 hi hz0 hz1 hz2 rfl c0 c hown h r hr hm hbase
/-- the same, out of a list that was just laid -/
theorem app_lit {w : World} {base : Nat} {A0 : Option Addr} {c0 : Nat} {pre : List UInt8} (hown : OwnB w base 5 A0 c0 pre) (cs : Array Value) (l : List UInt8) (hl : cs.toList = byteCells l) (n : Nat) (hn : l.length = n) (r : List UInt8) (hr : r = pre ++ l) (hm : r.length ≤ 140737488355328) (hbase : base ≤ w.heap.size) :
    ∃ A' c' w', (Builtin.append_ #[28, 28] 28 #[.slice A0 pre.length c0, .slice (some ⟨w.heap.size, 0, none⟩) n n]).run Tryd.prog (w.alloc (.cells cs 5)) = .ok (.slice A' r.length c') w' ∧ OwnB w' base 5 A' c' r ∧ Below base w w' := by
  obtain ⟨A', c', w', h1, h2, h3⟩ := app_byt (hown.new (.cells cs 5)) (Byt.made w cs l hl 5) n n hn r hr hm (by simp; omega)
  exact ⟨A', c', w', h1, h2, ((Below.refl base w).alloc hbase _).trans h3⟩

theorem xor_byte (a b : UInt8) : bits .xor .u8 (a.toNat : Int) (b.toNat : Int) = ((a ^^^ b).toNat : Int) := by
  rw [u8_xor_nat _ _ a.toNat_lt b.toNat_lt, UInt8.toNat_xor]
/-- what is put in at the place, way by way -/
def wayL (way : Nat) (x c : UInt8) : List UInt8 := if way = 0 then [c ^^^ x] else if way = 1 then [x, c] else []

set_option maxRecDepth 100000 in
set_option maxHeartbeats 2000000 in
theorem turned_out {w : World} (h : KSt w w) {A : Option Addr} {l : List Fd} (c : Nat) (z : Int) (x : UInt8) (hA : FRow w w.heap.size A l) (hg : Good l) (hl : l.length ≤ 140737488355328) (hz : hvy l = true ∨ cer l ≠ 0 ∨ z < 0 ∨ ((cby l).length : Int) ≤ z) :
    Calls Tryd.prog 9 #[.slice A l.length c, .int .i64 z, .int .u8 (x.toNat : Int)] w (Yes w) := by
  have ch := fun {W : World} (q : KSt w W) => c_heavy c hA hg hl q
  cases hh : hvy l with
  | true =>
    simp only [hh] at ch
    clear hh hz
    go_enter Tryd.func9, Tryd.ntmps9
    go_wp2_with (first
      | (go_at_call 11; refine (c_lives h).mono ?_; rintro e w1 ⟨rfl, h1⟩)
      | (go_at_call 12; refine (ch h1).mono ?_; rintro e w2 ⟨rfl, rfl⟩))
    go_ret
    exact ⟨rfl, h1.below⟩
  | false =>
    have hL := hvy_light hh
    simp only [hh] at ch
    have ce := fun {W : World} (q : KSt w W) => c_encode c hA hg hL q
    have hz2 : cer l ≠ 0 ∨ (cer l = 0 ∧ z < 0) ∨ (cer l = 0 ∧ 0 ≤ z ∧ ((cby l).length : Int) ≤ z) := by
      by_cases e : cer l = 0
      · rcases hz with g | g | g | g
        · rw [hh] at g; cases g
        · exact absurd e g
        · exact .inr (.inl ⟨e, g⟩)
        · exact .inr (.inr ⟨e, by omega, g⟩)
      · exact .inl e
    obtain ⟨d, hd⟩ : ∃ d, cer l = d := ⟨_, rfl⟩
    obtain ⟨r, hr⟩ : ∃ d, cby l = d := ⟨_, rfl⟩
    simp only [hd, hr] at ce hz2
    clear hh hz hd hr
    rcases hz2 with g | ⟨rfl, g⟩ | ⟨rfl, g, g2⟩
    · have gb : (d != 0) = true := by simpa using g
      clear g
      go_enter Tryd.func9, Tryd.ntmps9
      go_wp2_with (first
        | (go_at_call 11; refine (c_lives h).mono ?_; rintro e w1 ⟨rfl, h1⟩)
        | (go_at_call 12; refine (ch h1).mono ?_; rintro e w2 ⟨rfl, rfl⟩)
        | (go_at_call 16; refine (ce h1).mono ?_; rintro e w3 ⟨A3, c3, rfl, h3⟩; have h3s := h3.st))
      go_ret
      exact ⟨rfl, h3s.below⟩
    · go_enter Tryd.func9, Tryd.ntmps9
      go_wp2_with (first
        | (go_at_call 11; refine (c_lives h).mono ?_; rintro e w1 ⟨rfl, h1⟩)
        | (go_at_call 12; refine (ch h1).mono ?_; rintro e w2 ⟨rfl, rfl⟩)
        | (go_at_call 16; refine (ce h1).mono ?_; rintro e w3 ⟨A3, c3, rfl, h3⟩; have h3s := h3.st))
      go_ret
      exact ⟨rfl, h3s.below⟩
    · go_enter Tryd.func9, Tryd.ntmps9
      go_wp2_with (first
        | (go_at_call 11; refine (c_lives h).mono ?_; rintro e w1 ⟨rfl, h1⟩)
        | (go_at_call 12; refine (ch h1).mono ?_; rintro e w2 ⟨rfl, rfl⟩)
        | (go_at_call 16; refine (ce h1).mono ?_; rintro e w3 ⟨A3, c3, rfl, h3⟩; have h3s := h3.st))
      go_ret
      exact ⟨rfl, h3s.below⟩

/-- what Decode answers of bytes: none, or a record; if it is l, the bytes are those of l -/
theorem der_same {p : List UInt8} {l : List Fd} : (der p ≠ 0) ∨ (der p = 0 ∧ dre p = l ∧ p = enc l) ∨ (der p = 0 ∧ dre p ≠ l) := by
  by_cases h : der p = 0
  · by_cases g : dre p = l
    · rcases der_three p with ⟨_, e, _⟩ | ⟨_, _, _, e⟩ | ⟨_, e, _⟩
      · omega
      · exact .inr (.inl ⟨h, g, by rw [← g, e]⟩)
      · omega
    · exact .inr (.inr ⟨h, g⟩)
  · exact .inl h
set_option maxRecDepth 100000 in
set_option maxHeartbeats 8000000 in
theorem turned_in {w : World} (h : KSt w w) {A : Option Addr} {l : List Fd} (c k : Nat) (x : UInt8) (hA : FRow w w.heap.size A l) (hg : Good l) (hl : l.length ≤ 140737488355328) (hh : hvy l = false) (he : cer l = 0) (his : Is 0 l) (hm : (enc l).length ≤ 16777215) (hk : k < (enc l).length) :
    Calls Tryd.prog 9 #[.slice A l.length c, .int .i64 (k : Int), .int .u8 (x.toNat : Int)] w (Yes w) := by
  have ch := fun {W : World} (q : KSt w W) => c_heavy c hA hg hl q
  have hL := hvy_light hh
  simp only [hh] at ch
  have ce := fun {W : World} (q : KSt w W) => c_encode c hA hg hL q
  have hb := (cer_ok his hm).2.2.2
  simp only [he, hb] at ce
  obtain ⟨r, hr⟩ : ∃ r, enc l = r := ⟨_, rfl⟩
  simp only [hr] at ce hm hk
  have HE := Lib.hid hr
  have HA := Lib.hid hA
  clear hh he his hb hr hL hg hA
  have kz : decide ((k : Int) < 0) = false := decide_eq_false (by omega)
  have kr : decide (r.length ≤ k) = false := decide_eq_false (by omega)
  go_enter Tryd.func9, Tryd.ntmps9
  go_wp2_with (first
    | (go_at_call 11; refine (c_lives h).mono ?_; rintro e w1 ⟨rfl, h1⟩)
    | (go_at_call 12; refine (ch h1).mono ?_; rintro e w2 ⟨rfl, rfl⟩)
    | (go_at_call 16; refine (ce h1).mono ?_; rintro e w3 ⟨A3, c3, rfl, h3⟩))
  have h3s := h3.st
  have hroom := h3.room
  obtain ⟨gb, ob, rfl, hgb, hcb⟩ := h3.reads.at_ (by omega)
  obtain ⟨ck, hck⟩ : ∃ ck, r[k] = ck := ⟨_, rfl⟩
  have hcbk := hcb k hk
  rw [hck] at hcbk
  have HRD := Lib.hid h3.reads
  have HCK := Lib.hid hck
  clear hcb hck ce ch h3
  go_loopw [9] (fun wy wr => ∃ y : Nat, wy = .int .i64 y ∧ y ≤ 3 ∧ Below w3.heap.size w3 wr) (fun wy _ => 3 - (intOf wy).toNat)
  case atStart => exact ⟨0, rfl, by omega, Below.refl _ _⟩
  case round =>
    obtain ⟨y, rfl, hy, hB⟩ := hrel
    by_cases hy3 : y = 3
    · subst hy3
      go_wp2
      go_ret
      exact ⟨rfl, (h3s.then_ hB).below⟩
    · have hbs := hB.size
      have hK : KSt w wr := h3s.then_ hB
      have hcr : wr.cell? ⟨gb, ob + k, none⟩ = some (.int .u8 (ck.toNat : Nat)) := (hB.cell (p := ⟨gb, ob + k, none⟩) hgb).trans hcbk
      have hrd : Byt wr wr.heap.size (some ⟨gb, ob, none⟩) r := HRD.out.then_ hB
      have hcut1 := run_cut_h (P := Tryd.prog) Tryd.underlying28 (by kernel_rfl) (some ⟨gb, ob, none⟩) r.length c3 k (by omega)
      obtain ⟨A5, hA5⟩ : ∃ A5, (if c3 = k + 1 then some ⟨gb, ob, none⟩ else (some ⟨gb, ob, none⟩ : Option Addr).map (·.add (k + 1))) = A5 := ⟨_, rfl⟩
      have hcut2 := run_cut_l (P := Tryd.prog) Tryd.underlying28 (by kernel_rfl) (some ⟨gb, ob, none⟩) A5 r.length c3 (k + 1) (by omega) hA5.symm
      have hcut2' : ∀ W : World, (Instr.sliceAt 28 (.slice (some ⟨gb, ob, none⟩) r.length c3) (some (.int .i64 ((k : Int) + 1))) none none).run Tryd.prog W = .ok (.slice A5 (r.length - (k + 1)) (c3 - (k + 1))) W := hcut2
      have hd5 := hrd.drop (k := k + 1) (cap := c3) hroom (by omega)
      rw [hA5] at hd5
      have ht1 := hrd.take k
      have e1 : (r.take k).length = k := by rw [List.length_take]; omega
      have e5 : (r.drop (k + 1)).length = r.length - (k + 1) := List.length_drop
      obtain ⟨p1, hp1⟩ : ∃ p1, p1 = r.take k := ⟨_, rfl⟩
      obtain ⟨p2, hp2⟩ : ∃ p2, p2 = p1 ++ wayL y x ck := ⟨_, rfl⟩
      obtain ⟨p3, hp3⟩ : ∃ p3, p3 = p2 ++ r.drop (k + 1) := ⟨_, rfl⟩
      have lw : (wayL y x ck).length ≤ 2 := by unfold wayL; split; simp; split <;> simp
      have l1 : p1.length = k := by rw [hp1, e1]
      have l2 : p2.length ≤ k + 2 := by rw [hp2, List.length_append]; omega
      have l3 : p3.length ≤ r.length + 2 := by rw [hp3, List.length_append, e5]; omega
      obtain ⟨A1, c1, w1', hr1, ho1, hb1⟩ := app_byt (OwnB.nil wr wr.heap.size 5) ht1 c3 k e1 p1 (by rw [hp1]; rfl) (by omega) (Nat.le_refl _)
      simp only [List.length_nil] at hr1
      have hcr1 : w1'.cell? ⟨gb, ob + k, none⟩ = some (.int .u8 (ck.toNat : Nat)) := (hb1.cell (p := ⟨gb, ob + k, none⟩) (by show gb < _; omega)).trans hcr
      have HR1 := Lib.hid hr1
      have hy012 : y = 0 ∨ y = 1 ∨ y = 2 := by omega
      rcases hy012 with rfl | rfl | rfl
      · have hxb := xor_byte ck x
        obtain ⟨z, hz⟩ : ∃ z, ck ^^^ x = z := ⟨_, rfl⟩
        have hwl : wayL 0 x ck = [z] := by rw [← hz]; rfl
        rw [hz] at hxb
        rw [hwl] at hp2
        obtain ⟨A2, c2, w2', hr2, ho2, hb2⟩ := app_lit ho1 #[.int .u8 (z.toNat : Int)] [z] rfl 1 rfl p2 hp2 (by omega) hb1.size
        have HR2 := Lib.hid hr2
        have hB2 : Below wr.heap.size wr w2' := hb1.trans hb2
        clear hwl hz
        · obtain ⟨A4, c4, w4', hr4, ho4, hb4⟩ := app_byt ho2 (hd5.below hB2) (c3 - (k + 1)) (r.length - (k + 1)) e5 p3 hp3 (by omega) hB2.size
          have hB4 : Below wr.heap.size wr w4' := hB2.trans hb4
          have hK4 : KSt w w4' := hK.then_ hB4
          have hrd4 := ho4.reads
          have hrm4 := (own_room ho4).1
          have cd := c_decode c4 hrd4 hrm4 (by omega) hK4
          have hq := dre_len p3
          have HR4 := Lib.hid hr4
          have hB5 := hB.trans (hB4.mono hbs)
          clear hr1 hr4 hr2 ho2 hb2 hB2 hd5 ht1 hb1 ho1 hb4 ho4 hp1 hp2 hp3 hA5 hcut2 hbs l1 l2 e1 e5 lw
          rcases (der_same (p := p3) (l := l)) with g | ⟨g, g2, g3⟩ | ⟨g, g2⟩
          · obtain ⟨D, hD⟩ : ∃ D, der p3 = D := ⟨_, rfl⟩
            obtain ⟨Q, hQ⟩ : ∃ Q, dre p3 = Q := ⟨_, rfl⟩
            rw [hD] at cd g
            rw [hQ] at cd hq
            have gz : (D == 0) = false := by simpa using g
            clear hD hQ g
            go_wp2_with (first
              | (at_builtin; refine wpList_append_run rfl (.tmp 38) (.tmp 41) _ rfl rfl rfl HR1.out ?_)
              | (at_builtin; refine wpList_append_run rfl (.tmp 46) (.tmp 53) _ rfl rfl rfl HR2.out ?_)
              | (at_builtin; refine wpList_append_run rfl (.tmp 65) (.tmp 69) _ rfl rfl rfl HR4.out ?_)
              | (go_at_call 21; refine cd.mono ?_; rintro e w6 ⟨A6, c6, rfl, h6⟩))
            go_roundw
            case rel => exact ⟨1, by first | rfl | go_num, by omega, hB5.trans (h6.old.mono hB5.size)⟩
            case measure => simp [intOf]
          · have h1 : sm (dre p3) l = true := by rw [g2]; exact sm_self l
            have h2 : decide (p3 = r) = true := decide_eq_true (g3.trans HE.out)
            obtain ⟨Q, hQ⟩ : ∃ Q, dre p3 = Q := ⟨_, rfl⟩
            rw [g, hQ] at cd
            rw [hQ] at h1 hq
            have cs := fun {W : World} {A6 : Option Addr} {c6 : Nat} (q : KSt w W) (hF : FRow W W.heap.size A6 Q) => c_same c6 c hF (HA.out.then_ q.below) hq hl q
            have ca := fun {W : World} (q1 : Byt W W.heap.size A4 p3) (q2 : Byt W W.heap.size (some ⟨gb, ob, none⟩) r) => alike_any c4 c3 q1 q2
            simp only [h1] at cs
            simp only [h2] at ca
            have hrr : Byt w4' w4'.heap.size (some ⟨gb, ob, none⟩) r := hrd.then_ hB4
            clear g g2 g3 h1 h2 hQ
            go_wp2_with (first
              | (at_builtin; refine wpList_append_run rfl (.tmp 38) (.tmp 41) _ rfl rfl rfl HR1.out ?_)
              | (at_builtin; refine wpList_append_run rfl (.tmp 46) (.tmp 53) _ rfl rfl rfl HR2.out ?_)
              | (at_builtin; refine wpList_append_run rfl (.tmp 65) (.tmp 69) _ rfl rfl rfl HR4.out ?_)
              | (go_at_call 21; refine cd.mono ?_; rintro e w6 ⟨A6, c6, rfl, h6⟩; have h6s := h6.st; have h6r := h6.reads)
              | (go_at_call 22; refine (cs h6s h6r).mono ?_; rintro e w7 ⟨rfl, h7, hb7⟩)
              | (go_at_call 19; refine (ca ((hrd4.then_ h6.old).then_ hb7) ((hrr.then_ h6.old).then_ hb7)).mono ?_; rintro e w8 ⟨rfl, rfl⟩))
            go_roundw
            case rel => exact ⟨1, by first | rfl | go_num, by omega, hB5.trans ((h6.old.trans (hb7.mono h6.old.size)).mono hB5.size)⟩
            case measure => simp [intOf]
          · have h1 : sm (dre p3) l = false := sm_ne g2
            obtain ⟨Q, hQ⟩ : ∃ Q, dre p3 = Q := ⟨_, rfl⟩
            rw [g, hQ] at cd
            rw [hQ] at h1 hq
            have cs := fun {W : World} {A6 : Option Addr} {c6 : Nat} (q : KSt w W) (hF : FRow W W.heap.size A6 Q) => c_same c6 c hF (HA.out.then_ q.below) hq hl q
            simp only [h1] at cs
            clear g g2 h1 hQ
            go_wp2_with (first
              | (at_builtin; refine wpList_append_run rfl (.tmp 38) (.tmp 41) _ rfl rfl rfl HR1.out ?_)
              | (at_builtin; refine wpList_append_run rfl (.tmp 46) (.tmp 53) _ rfl rfl rfl HR2.out ?_)
              | (at_builtin; refine wpList_append_run rfl (.tmp 65) (.tmp 69) _ rfl rfl rfl HR4.out ?_)
              | (go_at_call 21; refine cd.mono ?_; rintro e w6 ⟨A6, c6, rfl, h6⟩; have h6s := h6.st; have h6r := h6.reads)
              | (go_at_call 22; refine (cs h6s h6r).mono ?_; rintro e w7 ⟨rfl, h7, hb7⟩))
            go_roundw
            case rel => exact ⟨1, by first | rfl | go_num, by omega, hB5.trans ((h6.old.trans (hb7.mono h6.old.size)).mono hB5.size)⟩
            case measure => simp [intOf]
      · have hwl : wayL 1 x ck = [x, ck] := rfl
        rw [hwl] at hp2
        obtain ⟨A2, c2, w2', hr2, ho2, hb2⟩ := app_lit ho1 #[.int .u8 (x.toNat : Int), .int .u8 (ck.toNat : Int)] [x, ck] rfl 2 rfl p2 hp2 (by omega) hb1.size
        have HR2 := Lib.hid hr2
        have hB2 : Below wr.heap.size wr w2' := hb1.trans hb2
        clear hwl
        · obtain ⟨A4, c4, w4', hr4, ho4, hb4⟩ := app_byt ho2 (hd5.below hB2) (c3 - (k + 1)) (r.length - (k + 1)) e5 p3 hp3 (by omega) hB2.size
          have hB4 : Below wr.heap.size wr w4' := hB2.trans hb4
          have hK4 : KSt w w4' := hK.then_ hB4
          have hrd4 := ho4.reads
          have hrm4 := (own_room ho4).1
          have cd := c_decode c4 hrd4 hrm4 (by omega) hK4
          have hq := dre_len p3
          have HR4 := Lib.hid hr4
          have hB5 := hB.trans (hB4.mono hbs)
          clear hr1 hr4 hr2 ho2 hb2 hB2 hd5 ht1 hb1 ho1 hb4 ho4 hp1 hp2 hp3 hA5 hcut2 hbs l1 l2 e1 e5 lw
          rcases (der_same (p := p3) (l := l)) with g | ⟨g, g2, g3⟩ | ⟨g, g2⟩
          · obtain ⟨D, hD⟩ : ∃ D, der p3 = D := ⟨_, rfl⟩
            obtain ⟨Q, hQ⟩ : ∃ Q, dre p3 = Q := ⟨_, rfl⟩
            rw [hD] at cd g
            rw [hQ] at cd hq
            have gz : (D == 0) = false := by simpa using g
            clear hD hQ g
            go_wp2_with (first
              | (at_builtin; refine wpList_append_run rfl (.tmp 38) (.tmp 41) _ rfl rfl rfl HR1.out ?_)
              | (at_builtin; refine wpList_append_run rfl (.tmp 57) (.tmp 63) _ rfl rfl rfl HR2.out ?_)
              | (at_builtin; refine wpList_append_run rfl (.tmp 65) (.tmp 69) _ rfl rfl rfl HR4.out ?_)
              | (go_at_call 21; refine cd.mono ?_; rintro e w6 ⟨A6, c6, rfl, h6⟩))
            go_roundw
            case rel => exact ⟨2, by first | rfl | go_num, by omega, hB5.trans (h6.old.mono hB5.size)⟩
            case measure => simp [intOf]
          · have h1 : sm (dre p3) l = true := by rw [g2]; exact sm_self l
            have h2 : decide (p3 = r) = true := decide_eq_true (g3.trans HE.out)
            obtain ⟨Q, hQ⟩ : ∃ Q, dre p3 = Q := ⟨_, rfl⟩
            rw [g, hQ] at cd
            rw [hQ] at h1 hq
            have cs := fun {W : World} {A6 : Option Addr} {c6 : Nat} (q : KSt w W) (hF : FRow W W.heap.size A6 Q) => c_same c6 c hF (HA.out.then_ q.below) hq hl q
            have ca := fun {W : World} (q1 : Byt W W.heap.size A4 p3) (q2 : Byt W W.heap.size (some ⟨gb, ob, none⟩) r) => alike_any c4 c3 q1 q2
            simp only [h1] at cs
            simp only [h2] at ca
            have hrr : Byt w4' w4'.heap.size (some ⟨gb, ob, none⟩) r := hrd.then_ hB4
            clear g g2 g3 h1 h2 hQ
            go_wp2_with (first
              | (at_builtin; refine wpList_append_run rfl (.tmp 38) (.tmp 41) _ rfl rfl rfl HR1.out ?_)
              | (at_builtin; refine wpList_append_run rfl (.tmp 57) (.tmp 63) _ rfl rfl rfl HR2.out ?_)
              | (at_builtin; refine wpList_append_run rfl (.tmp 65) (.tmp 69) _ rfl rfl rfl HR4.out ?_)
              | (go_at_call 21; refine cd.mono ?_; rintro e w6 ⟨A6, c6, rfl, h6⟩; have h6s := h6.st; have h6r := h6.reads)
              | (go_at_call 22; refine (cs h6s h6r).mono ?_; rintro e w7 ⟨rfl, h7, hb7⟩)
              | (go_at_call 19; refine (ca ((hrd4.then_ h6.old).then_ hb7) ((hrr.then_ h6.old).then_ hb7)).mono ?_; rintro e w8 ⟨rfl, rfl⟩))
            go_roundw
            case rel => exact ⟨2, by first | rfl | go_num, by omega, hB5.trans ((h6.old.trans (hb7.mono h6.old.size)).mono hB5.size)⟩
            case measure => simp [intOf]
          · have h1 : sm (dre p3) l = false := sm_ne g2
            obtain ⟨Q, hQ⟩ : ∃ Q, dre p3 = Q := ⟨_, rfl⟩
            rw [g, hQ] at cd
            rw [hQ] at h1 hq
            have cs := fun {W : World} {A6 : Option Addr} {c6 : Nat} (q : KSt w W) (hF : FRow W W.heap.size A6 Q) => c_same c6 c hF (HA.out.then_ q.below) hq hl q
            simp only [h1] at cs
            clear g g2 h1 hQ
            go_wp2_with (first
              | (at_builtin; refine wpList_append_run rfl (.tmp 38) (.tmp 41) _ rfl rfl rfl HR1.out ?_)
              | (at_builtin; refine wpList_append_run rfl (.tmp 57) (.tmp 63) _ rfl rfl rfl HR2.out ?_)
              | (at_builtin; refine wpList_append_run rfl (.tmp 65) (.tmp 69) _ rfl rfl rfl HR4.out ?_)
              | (go_at_call 21; refine cd.mono ?_; rintro e w6 ⟨A6, c6, rfl, h6⟩; have h6s := h6.st; have h6r := h6.reads)
              | (go_at_call 22; refine (cs h6s h6r).mono ?_; rintro e w7 ⟨rfl, h7, hb7⟩))
            go_roundw
            case rel => exact ⟨2, by first | rfl | go_num, by omega, hB5.trans ((h6.old.trans (hb7.mono h6.old.size)).mono hB5.size)⟩
            case measure => simp [intOf]
      · have hwl : wayL 2 x ck = [] := rfl
        rw [hwl, List.append_nil] at hp2
        obtain rfl := hp2
        have hB2 := hb1
        clear hwl
        · obtain ⟨A4, c4, w4', hr4, ho4, hb4⟩ := app_byt ho1 (hd5.below hB2) (c3 - (k + 1)) (r.length - (k + 1)) e5 p3 hp3 (by omega) hB2.size
          have hB4 : Below wr.heap.size wr w4' := hB2.trans hb4
          have hK4 : KSt w w4' := hK.then_ hB4
          have hrd4 := ho4.reads
          have hrm4 := (own_room ho4).1
          have cd := c_decode c4 hrd4 hrm4 (by omega) hK4
          have hq := dre_len p3
          have HR4 := Lib.hid hr4
          have hB5 := hB.trans (hB4.mono hbs)
          clear hr1 hr4 hB2 hd5 ht1 hb1 ho1 hb4 ho4 hp1 hp3 hA5 hcut2 hbs l1 l2 e1 e5 lw
          rcases (der_same (p := p3) (l := l)) with g | ⟨g, g2, g3⟩ | ⟨g, g2⟩
          · obtain ⟨D, hD⟩ : ∃ D, der p3 = D := ⟨_, rfl⟩
            obtain ⟨Q, hQ⟩ : ∃ Q, dre p3 = Q := ⟨_, rfl⟩
            rw [hD] at cd g
            rw [hQ] at cd hq
            have gz : (D == 0) = false := by simpa using g
            clear hD hQ g
            go_wp2_with (first
              | (at_builtin; refine wpList_append_run rfl (.tmp 38) (.tmp 41) _ rfl rfl rfl HR1.out ?_)
              | (at_builtin; refine wpList_append_run rfl (.tmp 65) (.tmp 69) _ rfl rfl rfl HR4.out ?_)
              | (go_at_call 21; refine cd.mono ?_; rintro e w6 ⟨A6, c6, rfl, h6⟩))
            go_roundw
            case rel => exact ⟨3, by first | rfl | go_num, by omega, hB5.trans (h6.old.mono hB5.size)⟩
            case measure => simp [intOf]
          · have h1 : sm (dre p3) l = true := by rw [g2]; exact sm_self l
            have h2 : decide (p3 = r) = true := decide_eq_true (g3.trans HE.out)
            obtain ⟨Q, hQ⟩ : ∃ Q, dre p3 = Q := ⟨_, rfl⟩
            rw [g, hQ] at cd
            rw [hQ] at h1 hq
            have cs := fun {W : World} {A6 : Option Addr} {c6 : Nat} (q : KSt w W) (hF : FRow W W.heap.size A6 Q) => c_same c6 c hF (HA.out.then_ q.below) hq hl q
            have ca := fun {W : World} (q1 : Byt W W.heap.size A4 p3) (q2 : Byt W W.heap.size (some ⟨gb, ob, none⟩) r) => alike_any c4 c3 q1 q2
            simp only [h1] at cs
            simp only [h2] at ca
            have hrr : Byt w4' w4'.heap.size (some ⟨gb, ob, none⟩) r := hrd.then_ hB4
            clear g g2 g3 h1 h2 hQ
            go_wp2_with (first
              | (at_builtin; refine wpList_append_run rfl (.tmp 38) (.tmp 41) _ rfl rfl rfl HR1.out ?_)
              | (at_builtin; refine wpList_append_run rfl (.tmp 65) (.tmp 69) _ rfl rfl rfl HR4.out ?_)
              | (go_at_call 21; refine cd.mono ?_; rintro e w6 ⟨A6, c6, rfl, h6⟩; have h6s := h6.st; have h6r := h6.reads)
              | (go_at_call 22; refine (cs h6s h6r).mono ?_; rintro e w7 ⟨rfl, h7, hb7⟩)
              | (go_at_call 19; refine (ca ((hrd4.then_ h6.old).then_ hb7) ((hrr.then_ h6.old).then_ hb7)).mono ?_; rintro e w8 ⟨rfl, rfl⟩))
            go_roundw
            case rel => exact ⟨3, by first | rfl | go_num, by omega, hB5.trans ((h6.old.trans (hb7.mono h6.old.size)).mono hB5.size)⟩
            case measure => simp [intOf]
          · have h1 : sm (dre p3) l = false := sm_ne g2
            obtain ⟨Q, hQ⟩ : ∃ Q, dre p3 = Q := ⟨_, rfl⟩
            rw [g, hQ] at cd
            rw [hQ] at h1 hq
            have cs := fun {W : World} {A6 : Option Addr} {c6 : Nat} (q : KSt w W) (hF : FRow W W.heap.size A6 Q) => c_same c6 c hF (HA.out.then_ q.below) hq hl q
            simp only [h1] at cs
            clear g g2 h1 hQ
            go_wp2_with (first
              | (at_builtin; refine wpList_append_run rfl (.tmp 38) (.tmp 41) _ rfl rfl rfl HR1.out ?_)
              | (at_builtin; refine wpList_append_run rfl (.tmp 65) (.tmp 69) _ rfl rfl rfl HR4.out ?_)
              | (go_at_call 21; refine cd.mono ?_; rintro e w6 ⟨A6, c6, rfl, h6⟩; have h6s := h6.st; have h6r := h6.reads)
              | (go_at_call 22; refine (cs h6s h6r).mono ?_; rintro e w7 ⟨rfl, h7, hb7⟩))
            go_roundw
            case rel => exact ⟨3, by first | rfl | go_num, by omega, hB5.trans ((h6.old.trans (hb7.mono h6.old.size)).mono hB5.size)⟩
            case measure => simp [intOf]

theorem turned_any {w : World} (h : KSt w w) {A : Option Addr} {l : List Fd} (c : Nat) (z : Int) (x : UInt8) (hA : FRow w w.heap.size A l) (hg : Good l) (hl : l.length ≤ 140737488355328) :
    Calls Tryd.prog 9 #[.slice A l.length c, .int .i64 z, .int .u8 (x.toNat : Int)] w (Yes w) := by
  by_cases hh : hvy l = true
  · exact turned_out h c z x hA hg hl (.inl hh)
  · rcases cer_is hg.fit with ⟨g, _⟩ | ⟨g, _⟩ | ⟨g, his, hm⟩
    · exact turned_out h c z x hA hg hl (.inr (.inl (by omega)))
    · exact turned_out h c z x hA hg hl (.inr (.inl (by omega)))
    · have hb := (cer_ok his hm).2.2.2
      by_cases z0 : z < 0
      · exact turned_out h c z x hA hg hl (.inr (.inr (.inl z0)))
      · by_cases z1 : ((enc l).length : Int) ≤ z
        · exact turned_out h c z x hA hg hl (.inr (.inr (.inr (by rw [hb]; exact z1))))
        · obtain ⟨k, rfl⟩ := Int.eq_ofNat_of_zero_le (show 0 ≤ z by omega)
          exact turned_in h c k x hA hg hl (by simpa using hh) g his hm (by omega)
end Go.Proofs.YthekbefbhjllnaaDoor
