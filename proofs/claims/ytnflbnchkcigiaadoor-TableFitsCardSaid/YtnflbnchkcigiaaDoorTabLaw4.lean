/- The walk of TableFits. -/
import Derived.Test.YtnflbnchkcigiaaDoorTabLaw1
import Derived.Test.YtnflbnchkcigiaaDoorTaGf
import Derived.Test.YtnflbnchkcigiaaDoorCutR
namespace Go.Proofs.YtnflbnchkcigiaaDoor
open Go.RowKit

/-- columns of the same tag and kind -/
def alk (x y : Co) : Bool := decide (x.t = y.t) && decide (x.k = y.k)
theorem of_alk {x y : Co} {f : Fd} (h : ofCo y f = true) : ofCo x f = alk x y := by
  unfold ofCo alk at *
  simp only [Bool.and_eq_true, decide_eq_true_iff] at h
  rw [h.1, h.2]
  congr 1
  · exact decide_eq_decide.2 eq_comm
  · exact decide_eq_decide.2 eq_comm
theorem eq_alk {a b : List Co} {l : List Fd} (h : eqL ofCo b l = true) : eqL ofCo a l = eqL alk a b := by
  obtain ⟨hl, hp⟩ := eqL_iff.1 h
  have key : (eqL ofCo a l = true) ↔ (eqL alk a b = true) := by
    rw [eqL_iff, eqL_iff]
    constructor
    · rintro ⟨h1, h2⟩
      refine ⟨by omega, fun k x y hx hy => ?_⟩
      have hk : k < l.length := by rw [← hl]; exact (List.getElem?_eq_some_iff.1 hy).1
      have hf := List.getElem?_eq_getElem hk
      rw [← of_alk (hp k y _ hy hf)]
      exact h2 k x _ hx hf
    · rintro ⟨h1, h2⟩
      refine ⟨by omega, fun k x f hx hf => ?_⟩
      have hk : k < b.length := by rw [hl]; exact (List.getElem?_eq_some_iff.1 hf).1
      have hy := List.getElem?_eq_getElem hk
      rw [of_alk (hp k _ f hy hf)]
      exact h2 k x _ hx hy
  cases h1 : eqL ofCo a l <;> cases h2 : eqL alk a b <;> simp_all
theorem ty_three (a : List Co) (l : List Fd) (hg : Good l) : (tyE a l = 130) ∨ (tyE a l = 2 ∧ eqL ofCo a l = true) ∨ (tyE a l = 0 ∧ eqL ofCo a l = true ∧ Is 0 l ∧ (enc l).length ≤ 16777215 ∧ cer l = 0) := by
  cases h : eqL ofCo a l with
  | false => exact .inl (ty_off h)
  | true =>
    rcases cer_is hg.fit with ⟨g, _⟩ | ⟨g, _, _⟩ | ⟨g, hi, hm⟩
    · exact .inl (ty_arg g)
    · exact .inr (.inl ⟨by rw [ty_on h (by rw [g]; decide), g], rfl⟩)
    · exact .inr (.inr ⟨by rw [ty_on h (by rw [g]; decide), g], rfl, hi, hm, g⟩)
theorem cer_nil : cer [] = 0 := (cer_ok (l := []) trivial (by simp [enc_nil])).1
theorem ty_nil : tyE [] [] = 0 := by
  have h : eqL ofCo [] [] = true := eqL_all rfl fun k x y hx => by simp at hx
  rw [ty_on h (by rw [cer_nil]; decide), cer_nil]
theorem ty_alk {a b : List Co} {l : List Fd} (h : eqL ofCo b l = true) (hc : cer l = 0) : (tyE a l == 0) = eqL alk a b := by
  rw [← eq_alk h]
  cases h1 : eqL ofCo a l with
  | false => rw [ty_off h1]; rfl
  | true => rw [ty_on h1 (by rw [hc]; decide), hc]; rfl
theorem infoFl : (Tryd.prog.info? 53).map (·.size) = some 4 := by kernel_rfl
theorem is_ok {l : List Fd} : ∀ {last : Int}, Is last l → ∀ f ∈ l, okV f.v = true := by
  induction l with
  | nil => intro last _ f hf; cases hf
  | cons g r ih =>
    intro last h f hf
    rcases List.mem_cons.1 hf with rfl | hf
    · exact (can_parts h.1).2.2
    · exact ih h.2.2 f hf

set_option maxRecDepth 100000 in
set_option maxHeartbeats 8000000 in
theorem fitslaw_any {w : World} (h : KSt w w) {A A' A2 : Option Addr} {a : List Co} {l : List Fd} {b : List Co} (c c' c2 : Nat) (ha : CoR w w.heap.size A a) (hA : FRow w w.heap.size A' l) (hb : CoR w w.heap.size A2 b) (hg : Good l) (_hc : a.length ≤ c) (_hc' : l.length ≤ c') (hl : a.length ≤ 140737488355328) (hl' : l.length ≤ 140737488355328) (hl2 : b.length ≤ 140737488355328) :
    Calls Tryd.prog 8 #[.slice A a.length c, .slice A' l.length c', .slice A2 b.length c2] w (Yes w) := by
  have c1 := awake_any h
  have CT := Lib.hid (fun W (q : Below w.heap.size w W) => typed_any (h.then_ q) c c' ((ha.below q).more q.size) ((hA.below q).more q.size) hg hl hl')
  rcases ty_three a l hg with g | ⟨g, he⟩ | ⟨g, he, hi, hm, hcr⟩
  · rw [g] at CT
    go_enter Tryd.func8, Tryd.ntmps8
    go_wp2_with fail
    refine c1.mono ?_
    rintro e w1 ⟨rfl, hb1⟩
    go_wp2_with fail
    refine (CT.out _ hb1).mono ?_
    rintro e w2 ⟨rfl, hb2⟩
    have B2 := Lib.hid (Below.both hb1 hb2)
    clear hb1 hb2 CT c1 ha hA hb g h hg
    go_wp2
    go_quiet (fail)
    go_wp2
    go_ret
    exact ⟨rfl, Below.thenN B2.out _⟩
  · rw [g] at CT
    have hlen : (a.length : Int) = (l.length : Int) := by rw [(eqL_iff.1 he).1]
    have hlb : ((a.length : Int) == (l.length : Int)) = true := by rw [hlen]; exact beq_self_eq_true _
    have hcut1 : ∀ W : World, (Instr.sliceAt 29 (.slice A a.length c) none (some (.int .i64 0)) none).run Tryd.prog W = .ok (.slice A 0 c) W := CR.run_h (P := Tryd.prog) (s := 3) Tryd.underlying29 sizeCo A a.length c 0 (Nat.zero_le _)
    have hcut2 : ∀ W : World, (Instr.sliceAt 39 (.slice A' l.length c') none (some (.int .i64 0)) none).run Tryd.prog W = .ok (.slice A' 0 c') W := CR.run_h (P := Tryd.prog) (s := 4) Tryd.underlying39 infoFl A' l.length c' 0 (Nat.zero_le _)
    have CN := Lib.hid (fun W (q : Below w.heap.size w W) => typed_any (A := A) (A' := A') (a := []) (l := []) (h.then_ q) c c' (.inl rfl) FRow.nil (fun f hf => (List.not_mem_nil hf).elim) (by decide) (by decide))
    rw [ty_nil] at CN
    go_enter Tryd.func8, Tryd.ntmps8
    go_wp2_with fail
    refine c1.mono ?_
    rintro e w1 ⟨rfl, hb1⟩
    go_wp2_with fail
    refine (CT.out _ hb1).mono ?_
    rintro e w2 ⟨rfl, hb2⟩
    have B2 := Lib.hid (Below.both hb1 hb2)
    clear hb1 hb2 CT c1 ha hA hb g h hg he hlen
    go_wp2
    have e1 := fun (d : Nat) (os : Array Obj) => Calls.regrown_of (CN.out _ (B2.out.trans ((below_regrown w2 d os).mono B2.out.size)))
    refine wp_region_quiet_below (by kernel_rfl) (by kernel_rfl) ?_
    repeat (go_big_quiet_step ((go_at_call 18; exact e1 _ _)))
    refine wpQuiet_nil ?_
    intro _ hw'
    obtain ⟨⟨dq, osq⟩, hw''⟩ := hw'
    subst hw''
    go_wp2
    go_ret
    exact ⟨rfl, B2.out.trans ((below_regrown w2 dq osq).mono B2.out.size)⟩
  · rw [g] at CT
    have hleq := (eqL_iff.1 he).1
    have hlen : (a.length : Int) = (l.length : Int) := by rw [hleq]
    have hlb : ((a.length : Int) != (l.length : Int)) = false := by rw [hlen]; exact bne_self_eq_false _
    have hL := (is_good hi (by omega)).2
    obtain ⟨_, _, _, hby⟩ := cer_ok hi hm
    obtain ⟨d1, d2⟩ := der_ok hm hi rfl
    obtain ⟨r, hr⟩ : ∃ r, enc l = r := ⟨_, rfl⟩
    rw [hr] at hby d1 d2 hm
    have CE : Hid (∀ W, Below w.heap.size w W → Calls Tryd.prog 22 #[.slice A' l.length c'] W fun e w' => ∃ A4 c4, e = .returned (.tuple #[.slice A4 r.length c4, .int .i64 0]) ∧ Byt w' w'.heap.size A4 r ∧ r.length ≤ c4 ∧ Below W.heap.size W w') := fun W q => by
      refine (encode_any (h.then_ q) c' ((hA.below q).more q.size) hg hL).mono ?_
      rintro e w' ⟨A4, c4, he, ho, hb⟩
      rw [hby, hcr] at he
      rw [hby] at ho
      exact ⟨A4, c4, he, ho.reads, (own_room ho).1, hb⟩
    have CD : Hid (∀ W A4 c4, Below w.heap.size w W → Byt W W.heap.size A4 r → r.length ≤ c4 → Calls Tryd.prog 23 #[.slice A4 r.length c4] W fun e w' => ∃ A5 c5, e = .returned (.tuple #[.slice A5 l.length c5, .int .i64 0]) ∧ FRow w' w'.heap.size A5 l ∧ Below W.heap.size W w') := fun W A4 c4 q hB hc => by
      refine (decode_any (h.then_ q) c4 hB hc (by omega)).mono ?_
      rintro e w' ⟨A5, c5, he, ho, hb⟩
      rw [d1, d2] at he
      rw [d2] at ho
      exact ⟨A5, c5, he, ho.reads, hb⟩
    have CB2 : Hid (∀ W A5 c5, Below w.heap.size w W → FRow W W.heap.size A5 l → Calls Tryd.prog 18 #[.slice A a.length c, .slice A5 l.length c5] W fun e w' => e = .returned (.int .i64 0) ∧ Below W.heap.size W w') := fun W A5 c5 q hF => by
      have := typed_any (h.then_ q) c c5 ((ha.below q).more q.size) hF hg hl hl'
      rw [g] at this
      exact this
    obtain ⟨Z, hZ⟩ : ∃ Z, tyE b l = Z := ⟨_, rfl⟩
    have HZ : Hid ((Z == 0) = eqL alk b a) := by rw [← hZ]; exact ty_alk he hcr
    have CO : Hid (∀ W, Below w.heap.size w W → Calls Tryd.prog 18 #[.slice A2 b.length c2, .slice A' l.length c'] W fun e w' => e = .returned (.int .i64 Z) ∧ Below W.heap.size W w') := fun W q => by
      have := typed_any (h.then_ q) c2 c' ((hb.below q).more q.size) ((hA.below q).more q.size) hg hl2 hl'
      rw [hZ] at this
      exact this
    have HA := Lib.hid ha
    have HF := Lib.hid hA
    have HO := Lib.hid hb
    have HG := Lib.hid hg
    have HE := Lib.hid (eqL_iff.1 he)
    have HOK := Lib.hid (is_ok hi)
    have HK := Lib.hid h
    have HLE := Lib.hid hleq
    clear ha hA hb hg he hi hm hcr hL hby d1 d2 hr g h hZ hleq hlen
    go_enter Tryd.func8, Tryd.ntmps8
    go_wp2_with fail
    refine c1.mono ?_
    rintro e w1 ⟨rfl, hb1⟩
    go_wp2_with fail
    refine (CT.out _ hb1).mono ?_
    rintro e w2 ⟨rfl, hb2⟩
    have B2 := Below.both hb1 hb2
    clear hb1 hb2 c1 CT
    go_wp2_with fail
    refine (CE.out _ B2).mono ?_
    rintro e w3 ⟨A4, c4, rfl, hB4, hc4, hb3⟩
    have B3 := Below.both B2 hb3
    clear hb3 B2 CE
    go_wp2_with fail
    refine (CD.out _ _ _ B3 hB4 hc4).mono ?_
    rintro e w4 ⟨A5, c5, rfl, hF5, hb4⟩
    have B4 := Below.both B3 hb4
    clear hb4 B3 CD hB4
    go_wp2_with fail
    refine (CB2.out _ _ _ B4 hF5).mono ?_
    rintro e w5 ⟨rfl, hb5⟩
    have B5 := Lib.hid (Below.both B4 hb5)
    clear hb5 B4 CB2 hF5
    go_wp2
    go_loopw [12] (fun i wr => ∃ k : Nat, i = .int .i64 k ∧ k ≤ l.length ∧ Hid (Below w.heap.size w wr)) (fun i _ => l.length - (intOf i).toNat)
    case atStart => exact ⟨0, rfl, Nat.zero_le _, B5.out⟩
    case round =>
      obtain ⟨k, rfl, hk, HB⟩ := hrel
      by_cases hlt : k < l.length
      · have hltz : (k : Int) < (l.length : Int) := by omega
        have hlka : k < a.length := by have := HLE.out; omega
        have hlta : (k : Int) < (a.length : Int) := by omega
        have k0 : (0 : Int) ≤ (k : Int) := by omega
        obtain ⟨f, hf⟩ : ∃ f, l[k]? = some f := ⟨l[k], List.getElem?_eq_getElem hlt⟩
        obtain ⟨x, hx⟩ : ∃ x, a[k]? = some x := ⟨a[k], List.getElem?_eq_getElem hlka⟩
        obtain ⟨g, o, rfl, hgB, hcs⟩ := (HF.out.below HB.out).at_ (by omega)
        obtain ⟨ga, oa, rfl, hgaB, x0, x1, x2⟩ := CoR.cells (HA.out.below HB.out) hx
        obtain ⟨f0, f1, f2, f3⟩ := hcs k f hf
        have hof := HE.out.2 k x f hx hf
        unfold ofCo at hof
        simp only [Bool.and_eq_true, decide_eq_true_iff] at hof
        obtain ⟨o1, o2⟩ := hof
        have e1d : (f.t != x.t) = false := by rw [o1]; exact bne_self_eq_false _
        have e2d : (f.v.k != x.k) = false := by rw [o2]; exact bne_self_eq_false _
        have hokv := HOK.out f (List.mem_of_getElem? hf)
        obtain ⟨hfit, hsz⟩ := HG.out.at_ hf
        have v0 := fun {W : World} (q : KSt w W) => kval_any q f.v hfit hsz
        rw [hokv] at v0
        have dd0 := cell_regrown f0
        have dd1 := cell_regrown f1
        have dd2 := cell_regrown f2
        have dd3 := cell_regrown f3
        have xx1 := cell_regrown x1
        have xx2 := cell_regrown x2
        have cV := fun (d : Nat) (os : Array Obj) => Calls.regrown_of (v0 (HK.out.then_ (HB.out.trans ((below_regrown wr d os).mono HB.out.size))))
        clear o1 o2 hokv hfit hsz hf hx hcs x0 x1 x2 f0 f1 f2 f3 v0
        obtain ⟨t, v⟩ := f
        obtain ⟨vk, vn, vs⟩ := v
        obtain ⟨xn, xt, xk⟩ := x
        unfold vvC at cV
        dsimp only at *
        go_wp2
        refine wp_region_quiet_below (by kernel_rfl) (by kernel_rfl) ?_
        repeat (go_big_quiet_step ((go_at_call 24; exact cV _ _)))
        refine wpQuiet_nil ?_
        intro _ hw'
        obtain ⟨⟨dq, osq⟩, hw''⟩ := hw'
        subst hw''
        go_wp2
        go_roundw
        case rel => exact ⟨k + 1, by go_num, by omega, HB.out.trans ((below_regrown wr dq osq).mono HB.out.size)⟩
        case measure => simp [intOf]; omega
      · obtain rfl : k = l.length := by omega
        obtain ⟨w6, hw6⟩ : ∃ wo : World, wo = wr := ⟨_, rfl⟩
        subst hw6
        have HB6 := HB
        clear HB
        obtain ⟨AL0, hAL0⟩ : ∃ q : Bool, ((b.length : Int) == (a.length : Int)) = q := ⟨_, rfl⟩
        have HAL : Hid (if AL0 = true then b.length = a.length else eqL alk b a = false) := by
          unfold Hid
          cases AL0 with
          | true => rw [if_pos rfl]; have := beq_iff_eq.1 hAL0; omega
          | false => rw [if_neg (by decide)]; exact eqL_len (fun q => by rw [q] at hAL0; simp at hAL0)
        go_wp2
        clear hAL0
        go_loopw [13, 14] (fun al i wr => ∃ (AL : Bool) (k : Nat), al = .bool AL ∧ i = .int .i64 k ∧ k ≤ a.length ∧ Hid (if AL = true then b.length = a.length ∧ UpL alk b a k else eqL alk b a = false) ∧ Hid (Below w.heap.size w wr)) (fun _ i _ => a.length - (intOf i).toNat)
        case atStart => exact ⟨AL0, 0, rfl, rfl, Nat.zero_le _, by have := HAL.out; cases AL0 with
          | true => rw [if_pos rfl] at this; unfold Hid; rw [if_pos rfl]; exact ⟨this, UpL.zero⟩
          | false => exact this, HB6.out⟩
        case round =>
          obtain ⟨AL, j, rfl, rfl, hj, HL, HB⟩ := hrel
          cases AL with
          | false =>
            have hz := HZ.out
            have hlf := HL.out
            rw [if_neg (by decide)] at hlf
            rw [hlf] at hz
            clear hlf
            go_wp2_with fail
            refine (CO.out _ HB.out).mono ?_
            rintro e w9 ⟨rfl, hb9⟩
            have B9 := Lib.hid (HB.out.trans (hb9.mono HB.out.size))
            clear hb9
            go_wp2
            go_ret
            exact ⟨rfl, B9.out⟩
          | true =>
            have hlt0 := HL.out
            rw [if_pos rfl] at hlt0
            obtain ⟨hbl, hup⟩ := hlt0
            have HUP := Lib.hid hup
            have HBL := Lib.hid hbl
            clear hup HL
            by_cases hjt : j < a.length
            · have jz : (j : Int) < (a.length : Int) := by omega
              have jz2 : (j : Int) < (b.length : Int) := by omega
              have j0 : (0 : Int) ≤ (j : Int) := by omega
              obtain ⟨x, hx⟩ : ∃ x, a[j]? = some x := ⟨a[j], List.getElem?_eq_getElem hjt⟩
              obtain ⟨y, hy⟩ : ∃ y, b[j]? = some y := ⟨b[j]'(by omega), List.getElem?_eq_getElem (by omega)⟩
              obtain ⟨ga, oa, rfl, hgaB, x0, x1, x2⟩ := CoR.cells (HA.out.below HB.out) hx
              obtain ⟨gb, ob, rfl, hgbB, y0, y1, y2⟩ := CoR.cells (HO.out.below HB.out) hy
              have HX := Lib.hid hx
              have HY := Lib.hid hy
              clear hx hy x0 y0 hbl
              obtain ⟨xn, xt, xk⟩ := x
              obtain ⟨yn, yt, yk⟩ := y
              dsimp only at *
              by_cases e1 : yt = xt
              · have e1d : (yt == xt) = true := beq_iff_eq.2 e1
                by_cases e2 : yk = xk
                · have e2d : (yk == xk) = true := beq_iff_eq.2 e2
                  have HN := Lib.hid (HUP.out.next HY.out HX.out (by unfold alk; dsimp only; rw [decide_eq_true e1, decide_eq_true e2]; rfl))
                  clear e1 e2
                  go_wp2
                  go_quiet (fail)
                  go_wp2
                  go_roundw
                  case rel => exact ⟨true, j + 1, rfl, by go_num, by omega, by unfold Hid; rw [if_pos rfl]; exact ⟨HBL.out, HN.out⟩, Below.thenN HB.out _⟩
                  case measure => simp [intOf]; omega
                · have e2d : (yk == xk) = false := beq_eq_false_iff_ne.2 e2
                  have HN := Lib.hid (eqL_at (p := alk) HY.out HX.out (by unfold alk; dsimp only; rw [decide_eq_false e2, Bool.and_false]))
                  clear e1 e2
                  go_wp2
                  go_quiet (fail)
                  go_wp2
                  go_roundw
                  case rel => exact ⟨false, j + 1, rfl, by go_num, by omega, by unfold Hid; rw [if_neg (by decide)]; exact HN.out, Below.thenN HB.out _⟩
                  case measure => simp [intOf]; omega
              · have e1d : (yt == xt) = false := beq_eq_false_iff_ne.2 e1
                have HN := Lib.hid (eqL_at (p := alk) HY.out HX.out (by unfold alk; dsimp only; rw [decide_eq_false e1]; rfl))
                clear e1
                go_wp2
                go_quiet (fail)
                go_wp2
                go_roundw
                case rel => exact ⟨false, j + 1, rfl, by go_num, by omega, by unfold Hid; rw [if_neg (by decide)]; exact HN.out, Below.thenN HB.out _⟩
                case measure => simp [intOf]; omega
            · obtain rfl : j = a.length := by omega
              have hu := HUP.out
              rw [← hbl] at hu
              have hz := HZ.out
              rw [hu.all hbl] at hz
              clear hu hbl
              go_wp2_with fail
              refine (CO.out _ HB.out).mono ?_
              rintro e w9 ⟨rfl, hb9⟩
              have B9 := Lib.hid (HB.out.trans (hb9.mono HB.out.size))
              clear hb9
              go_wp2
              go_ret
              exact ⟨rfl, B9.out⟩
end Go.Proofs.YtnflbnchkcigiaaDoor
