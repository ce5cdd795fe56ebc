/- The walk of RollNumbers. -/
import Derived.Test.YtgdeeojamnbakaaRollNumPure
import Derived.Deep.RegionHeld3
namespace Go.Proofs.Ytgdeeojamnbakaa
open Go.RowKit

theorem Rel.fewer {w wr : World} {K K' : List (Nat × Obj)} {p : Nat} {es : List Ent} {cl : Nat → Bool} (h : Rel w K p es cl wr) (hk : ∀ x ∈ K', x ∈ K) : Rel w K' p es cl wr := by
  obtain ⟨S, hb, hs, hk0, hw⟩ := h
  exact ⟨S, hb, hs, fun x hx => hk0 x (hk x hx), hw⟩

theorem OpCells {w wr : World} {K : List (Nat × Obj)} {p : Nat} {es : List Ent} {cl : Nat → Bool} {b : Nat} {x0 x1 x2 x3 x4 : Value} {t : TypeId}
    (h : Rel w K p es cl wr) (hx : (b, Obj.cells #[x0, x1, x2, x3, x4] t (0, 0)) ∈ K) :
    wr.cell? ⟨b, 0, none⟩ = some x0 ∧ wr.cell? ⟨b, 2, none⟩ = some x2 ∧ wr.cell? ⟨b, 3, none⟩ = some x3 ∧ wr.cell? ⟨b, 4, none⟩ = some x4 ∧ b < wr.heap.size := by
  have hk := h.keep hx
  exact ⟨cell_in hk 0 rfl, cell_in hk 2 rfl, cell_in hk 3 rfl, cell_in hk 4 rfl, lt_of_block hk⟩

theorem CntCells {w wr : World} {K : List (Nat × Obj)} {p : Nat} {es : List Ent} {cl : Nat → Bool} {d : Nat} {xs : List Ent} {t : TypeId}
    (h : Rel w K p es cl wr) (hx : (d, Obj.cells (cnts xs) t (0, 0)) ∈ K) (j : Nat) (hj : j < 6) :
    wr.cell? ⟨d, j, none⟩ = some (.int .i64 (cnt j xs : Nat)) ∧ wr.frozen? ⟨d, j, none⟩ = false ∧ d < wr.heap.size := by
  have hk := h.keep hx
  exact ⟨cell_in hk j (cnts_at xs j hj), by simp [World.frozen?, hk], lt_of_block hk⟩

theorem shut_own (cl : Nat → Bool) (f : Int) : openF (shutF cl f) f = false := by
  unfold openF shutF
  cases h : famOk f
  · rfl
  · have h1 : 1 ≤ f := by simp [famOk] at h; omega
    rw [if_pos ⟨by omega, rfl⟩]
    rfl

theorem NumStore {w wr : World} {bo d p j : Nat} {o : Obj} {es es' : List Ent} {cl : Nat → Bool} {t : TypeId}
    (h : Rel w [(bo, o), (d, .cells (cnts es) t (0, 0))] p es' cl wr) (hbd : ¬ bo = d) (hj : j < 6) (e : Ent) (he : e.fam = j) :
    Rel w [(bo, o), (d, .cells (cnts (es ++ [e])) t (0, 0))] p es' cl (wr.setCell ⟨d, j, none⟩ (.int .i64 ((cnt (j : Int) es : Nat) + 1))) := by
  have h1 := h.fewer (K' := [(d, .cells (cnts es) t (0, 0)), (bo, o)]) (fun x hx => by simp at hx ⊢; exact hx.symm)
  have h2 := h1.store (i := j) (fun x hx => by simp at hx; subst hx; exact hbd) (.int .i64 ((cnt (j : Int) es : Nat) + 1))
  rw [cnts_set es j hj e he] at h2
  exact h2.fewer (fun x hx => by simp at hx ⊢; exact hx.symm)

theorem cnt_snoc (es : List Ent) (f n : Int) (nx : ByteArray) (sx : Int) : ((cnt f (es ++ [⟨f, n, nx, sx⟩]) : Nat) : Int) = (cnt f es : Nat) + 1 := by
  rw [cnt_append]
  simp [cnt]

theorem NumAt {es : List Ent} (h : Fine es) (f : Int) (nx : ByteArray) (sx : Int) {xf xn : Int} {xm : ByteArray} {xs : Int} {y : Bool}
    (hx : Hid ((findAt f (cnt f es + 1) (es ++ [⟨f, cnt f es + 1, nx, sx⟩])).getD Ent.none = ⟨xf, xn, xm, xs⟩ ∧ (findAt f (cnt f es + 1) (es ++ [⟨f, cnt f es + 1, nx, sx⟩])).isSome = y)) :
    xf = f ∧ xn = cnt f es + 1 ∧ nx = xm ∧ sx = xs ∧ y = true := by
  obtain ⟨h1, h2⟩ := hx
  rw [findAt_snoc f _ _ (h.beyond f) (isAt_yes rfl (by simp))] at h1 h2
  injection h1 with e1 e2 e3 e4
  exact ⟨e1.symm, e2.symm, e3, e4, h2.symm⟩

theorem row_at {w : World} {B n cap : Nat} {ao : Option Addr} {t : TypeId} {es : List Ent} (h : w.ownsRow B t 4 (.slice ao n cap) n (flat es)) {k : Nat} {e : Ent} (hk : es[k]? = some e) (hn : k < n) :
    ∃ g, ao = some ⟨g, 0, none⟩ ∧ w.cell? ⟨g, k * 4, none⟩ = some (.int .i64 e.fam) ∧ w.cell? ⟨g, k * 4 + 1, none⟩ = some (.int .i64 e.num) ∧ w.cell? ⟨g, k * 4 + 2, none⟩ = some (.string e.name) ∧ w.cell? ⟨g, k * 4 + 3, none⟩ = some (.int .i64 e.size) := by
  rcases rows_form h with ⟨_, h0⟩ | ⟨g, cap', hv, _⟩
  · omega
  · simp only [Value.slice.injEq] at hv
    obtain ⟨rfl, _, rfl⟩ := hv
    exact ⟨g, rfl, rows_at h hk⟩

/-- The law's own books after k calls. -/
def NumRun (w : World) (d p : Nat) (n : Int) (wr : World) : Prop :=
  ∃ es cl, Fine es ∧ Rel w [(d, .cells (cnts es) 41 (0, 0))] p es cl wr ∧ n = (es.length : Nat)

set_option maxRecDepth 100000 in
set_option maxHeartbeats 8000000 in
theorem numbers_any (ao : Option Addr) (cap : Nat) (l : List Rec) (w : World) (hs : Script w ao l) :
    Calls Try.prog 5 #[.slice ao l.length cap] w fun e w' => e = .returned (.bool true) ∧ Below w.heap.size w w' := by
  have hl := hs.1
  unfold maxLen at hl
  have HS := Lib.hid hs
  clear hs
  go_enter Try.func5, Try.ntmps5
  go_wp2_with fail
  refine (awake_any _).mono ?_
  rintro e w0 ⟨rfl, hB0⟩
  go_wp2_with fail
  refine (new_any _).mono ?_
  rintro e w1 ⟨rfl, hk1, hB1⟩
  have h1 : Rel w [] w0.heap.size [] (fun _ => false) w1 :=
    ⟨_, hk1, fun k hk => by simp at hk; subst hk; exact hB0.size, fun x hx => by simp at hx, hB0.trans (hB1.mono hB0.size)⟩
  have h2 := h1.alloc (.cells #[.int .i64 0, .int .i64 0, .int .i64 0, .int .i64 0, .int .i64 0, .int .i64 0] 41)
  have H2 := Lib.hid h2
  clear h1 h2 hk1 hB1
  obtain ⟨p, hp⟩ : ∃ p, p = w0.heap.size := ⟨_, rfl⟩
  rw [← hp]
  rw [← hp] at H2
  clear hp hB0
  go_wp2_with fail
  obtain ⟨d, hd⟩ : ∃ d, d = w1.heap.size := ⟨_, rfl⟩
  rw [← hd] at H2 ⊢
  clear hd
  go_loopw [4, 6] (fun n i wr => ∃ (k : Nat) (m : Int), k ≤ l.length ∧ i = .int .i64 k ∧ n = .int .i64 m ∧ 0 ≤ m ∧ m ≤ 64 ∧ Hid (NumRun w d p m wr)) (fun _ i _ => l.length - (intOf i).toNat)
  case atStart => exact ⟨0, 0, Nat.zero_le _, rfl, rfl, by omega, by omega, [], _, Fine.nil, H2, rfl⟩
  case round =>
    obtain ⟨k, m, hk, rfl, rfl, hm0, hm64, es, cl, hfine, hrel, hmes⟩ := hrel
    have HF := Lib.hid hfine
    have HR := Lib.hid hrel
    have HM := Lib.hid hmes
    clear hfine hrel hmes
    by_cases hlt : k < l.length
    · obtain ⟨r, hr⟩ : ∃ r, l[k]? = some r := ⟨l[k], by simp⟩
      obtain ⟨g, off, rfl, hg, h0, h1, h2, h3, h4, hnm⟩ := (HS.out.below HR.out.outer).2 k r hr
      obtain ⟨kd, on, fm, nx, sx⟩ := r
      dsimp only at h0 h1 h2 h3 h4 hnm
      clear hr
      cases hkind : (kd == 2)
      · by_cases hwhy : why es cl fm nx sx = 0
        · obtain ⟨hfam, hop, hfd⟩ := why_ok hwhy
          have h15 : 1 ≤ fm ∧ fm ≤ 5 := by simpa [famOk] using hfam
          obtain ⟨h15a, h15b⟩ := h15
          obtain ⟨j, rfl⟩ := Int.eq_ofNat_of_zero_le (a := fm) (by omega)
          have HOP := Lib.hid hop
          have HFD := Lib.hid hfd
          have HFAM := Lib.hid hfam
          have HWHY := Lib.hid hwhy
          clear hfam hop hfd hwhy
          have HR0 := Lib.hid (HR.out.alloc (.cells #[.int .i64 kd, .int .i64 on, .int .i64 j, .string nx, .int .i64 sx] 32))
          have hdw := lt_of_block (HR.out.keep List.mem_cons_self)
          dsimp only at hdw
          go_wp2_with fail
          obtain ⟨bo, hbo⟩ : ∃ bo, bo = wr.heap.size := ⟨_, rfl⟩
          have hbd : ¬ bo = d := by omega
          have hdb : ¬ d = bo := by omega
          obtain ⟨w2, hw2⟩ : ∃ w2, w2 = wr.alloc (.cells #[.int .i64 kd, .int .i64 on, .int .i64 j, .string nx, .int .i64 sx] 32) := ⟨_, rfl⟩
          rw [← hbo, ← hw2] at HR0
          rw [← hbo, ← hw2]
          clear hbo hw2 hdw HR h0 h1 h2 h3 h4
          obtain ⟨S0, hb0⟩ := HR0.out.book
          refine (find_any hb0 _ _).mono ?_
          rintro e w3 ⟨rfl, hB3⟩
          have HR3 := Lib.hid (HR0.out.below hB3)
          clear hb0 hB3 HR0
          obtain ⟨c0, c2, c3, c4, c5⟩ := OpCells HR3.out List.mem_cons_self
          go_wp2_with fail
          obtain ⟨S3, hb3⟩ := HR3.out.book
          refine (open_any hb3 _).mono ?_
          rintro e w4 ⟨rfl, rfl⟩
          rw [HOP.out, HFD.out]
          go_wp2_with fail
          clear hb3 c0 c2 c3 c4 c5
          obtain ⟨S3, hb3⟩ := HR3.out.book
          refine (enter_took hb3 _ _ _ hnm HWHY.out).mono ?_
          rintro e w5 ⟨S5, rfl, hk5, ho5, hm5⟩
          have HR5 := Lib.hid (HR3.out.entered hb3 hk5 ho5 hm5)
          have hsm : es.length ≤ 63 := by have := hk5.small; simpa using this
          have hcn := cnt_le (j : Int) es
          clear hb3 hk5 ho5 hm5 HR3
          obtain ⟨c0, c2, c3, c4, c5⟩ := OpCells HR5.out List.mem_cons_self
          obtain ⟨n0, n1, n2⟩ := CntCells HR5.out (List.mem_cons_of_mem _ List.mem_cons_self) j (by omega)
          have hj5 : (j : Int) < 6 := by omega
          go_wp2_with fail
          have HR6 := Lib.hid (NumStore HR5.out hbd (by omega) ⟨j, cnt j es + 1, nx, sx⟩ rfl)
          obtain ⟨w6, hw6⟩ : ∃ w6, w6 = w5.setCell ⟨d, j, none⟩ (.int .i64 ((cnt (j : Int) es : Nat) + 1)) := ⟨_, rfl⟩
          rw [← hw6] at HR6
          rw [← hw6]
          clear hw6 HR5 c0 c2 c3 c4 c5 n0 n1 n2
          obtain ⟨S6, hb6⟩ := HR6.out.book
          refine (at_gives hb6 _ _).mono ?_
          rintro e w7 ⟨xf, xn, xm, xs, y, HX, rfl, hB7⟩
          have HR7 := Lib.hid (HR6.out.below hB7)
          obtain ⟨rfl, rfl, rfl, rfl, rfl⟩ := NumAt HF.out (j : Int) nx sx HX
          clear hb6 hB7 HR6 HX
          obtain ⟨c0, c2, c3, c4, c5⟩ := OpCells HR7.out List.mem_cons_self
          obtain ⟨n0, n1, n2⟩ := CntCells HR7.out (List.mem_cons_of_mem _ List.mem_cons_self) j (by omega)
          rw [cnt_snoc] at n0
          have hgd := Lib.hid (findN_snoc (fun e he => (HF.out.num e he).1) (j : Int) nx HFD.out ((cnt (j : Int) es : Nat) + 1) sx)
          go_wp2_with fail
          have HR8 := Lib.hid (HR7.out.alloc (.cells #[.int .i64 j, .int .i64 ((cnt (j : Int) es : Nat) + 1), .string nx, .int .i64 sx] 40))
          obtain ⟨bx, hbx⟩ : ∃ bx, bx = w7.heap.size := ⟨_, rfl⟩
          obtain ⟨w8, hw8⟩ : ∃ w8, w8 = w7.alloc (.cells #[.int .i64 j, .int .i64 ((cnt (j : Int) es : Nat) + 1), .string nx, .int .i64 sx] 40) := ⟨_, rfl⟩
          rw [← hbx, ← hw8] at HR8
          rw [← hbx, ← hw8]
          clear hbx hw8 HR7 c0 c2 c3 c4 c5 n0 n1 n2
          obtain ⟨S8, hb8⟩ := HR8.out.book
          refine (find_any hb8 _ _).mono ?_
          rintro e w9 ⟨rfl, hB9⟩
          rw [hgd.out]
          have HR9 := Lib.hid (HR8.out.below hB9)
          clear hb8 hB9 HR8 hgd
          obtain ⟨c0, c2, c3, c4, c5⟩ := OpCells HR9.out (List.mem_cons_of_mem _ List.mem_cons_self)
          obtain ⟨e0, e1, e2, e3⟩ := EntCells HR9.out List.mem_cons_self
          go_wp2_with fail
          go_roundw
          case rel => exact ⟨k + 1, m + 1, by omega, by go_num, rfl, by omega, by have := HM.out; omega, _, _, HF.out.snoc (j : Int) nx sx HFAM.out, HR9.out.fewer (fun x hx => by simp at hx ⊢; exact .inr (.inr hx)), by have := HM.out; simp; omega⟩
          case measure => simp [intOf]; omega
        · have HWHY := Lib.hid hwhy
          have hne : (why es cl fm nx sx != 0) = true := by simpa using hwhy
          clear hwhy
          have HR0 := Lib.hid (HR.out.alloc (.cells #[.int .i64 kd, .int .i64 on, .int .i64 fm, .string nx, .int .i64 sx] 32))
          have hdw := lt_of_block (HR.out.keep List.mem_cons_self)
          dsimp only at hdw
          go_wp2_with fail
          obtain ⟨bo, hbo⟩ : ∃ bo, bo = wr.heap.size := ⟨_, rfl⟩
          have hbd : ¬ bo = d := by omega
          have hdb : ¬ d = bo := by omega
          obtain ⟨w2, hw2⟩ : ∃ w2, w2 = wr.alloc (.cells #[.int .i64 kd, .int .i64 on, .int .i64 fm, .string nx, .int .i64 sx] 32) := ⟨_, rfl⟩
          rw [← hbo, ← hw2] at HR0
          rw [← hbo, ← hw2]
          clear hbo hw2 hdw HR h0 h1 h2 h3 h4
          obtain ⟨S0, hb0⟩ := HR0.out.book
          refine (find_any hb0 _ _).mono ?_
          rintro e w3 ⟨rfl, hB3⟩
          have HR3 := Lib.hid (HR0.out.below hB3)
          clear hb0 hB3 HR0
          obtain ⟨c0, c2, c3, c4, c5⟩ := OpCells HR3.out List.mem_cons_self
          go_wp2_with fail
          obtain ⟨S3, hb3⟩ := HR3.out.book
          refine (open_any hb3 _).mono ?_
          rintro e w4 ⟨rfl, rfl⟩
          go_wp2_with fail
          clear hb3 c0 c2 c3 c4 c5
          obtain ⟨S3, hb3⟩ := HR3.out.book
          refine (enter_refused hb3 _ _ _ hnm _ rfl HWHY.out).mono ?_
          rintro e w5 ⟨S5, rfl, hk5, ho5, hm5⟩
          have HR5 := Lib.hid (HR3.out.entered hb3 hk5 ho5 hm5)
          clear hb3 hk5 ho5 hm5 HR3
          obtain ⟨c0, c2, c3, c4, c5⟩ := OpCells HR5.out List.mem_cons_self
          go_wp2_with fail
          obtain ⟨S5, hb5⟩ := HR5.out.book
          refine (find_any hb5 _ _).mono ?_
          rintro e w6 ⟨rfl, hB6⟩
          have HR6 := Lib.hid (HR5.out.below hB6)
          clear hb5 hB6 HR5 c0 c2 c3 c4 c5
          go_wp2_with fail
          go_roundw
          case rel => exact ⟨k + 1, m, by omega, by go_num, rfl, hm0, hm64, es, _, HF.out, HR6.out.fewer (fun x hx => List.mem_cons_of_mem _ hx), HM.out⟩
          case measure => simp [intOf]; omega
      · skip
        have HR0 := Lib.hid (HR.out.alloc (.cells #[.int .i64 kd, .int .i64 on, .int .i64 fm, .string nx, .int .i64 sx] 32))
        have hdw := lt_of_block (HR.out.keep List.mem_cons_self)
        dsimp only at hdw
        go_wp2_with fail
        obtain ⟨bo, hbo⟩ : ∃ bo, bo = wr.heap.size := ⟨_, rfl⟩
        have hbd : ¬ bo = d := by omega
        have hdb : ¬ d = bo := by omega
        obtain ⟨w2, hw2⟩ : ∃ w2, w2 = wr.alloc (.cells #[.int .i64 kd, .int .i64 on, .int .i64 fm, .string nx, .int .i64 sx] 32) := ⟨_, rfl⟩
        rw [← hbo, ← hw2] at HR0
        rw [← hbo, ← hw2]
        clear hbo hw2 hdw HR h0 h1 h2 h3 h4
        obtain ⟨S0, hb0⟩ := HR0.out.book
        refine (close_any hb0 _).mono ?_
        rintro e w3 ⟨rfl, hk3, ho3⟩
        have HR3 := Lib.hid (HR0.out.closed hb0 hk3 ho3)
        clear hb0 hk3 ho3 HR0
        obtain ⟨c0, c2, c3, c4, c5⟩ := OpCells HR3.out List.mem_cons_self
        go_wp2_with fail
        obtain ⟨S3, hb3⟩ := HR3.out.book
        refine (open_any hb3 _).mono ?_
        rintro e w4 ⟨rfl, rfl⟩
        rw [shut_own]
        clear c0 c2 c3 c4 c5 hb3
        go_wp2_with fail
        go_roundw
        case rel => exact ⟨k + 1, m, by omega, by go_num, rfl, hm0, hm64, es, _, HF.out, HR3.out.fewer (fun x hx => List.mem_cons_of_mem _ hx), HM.out⟩
        case measure => simp [intOf]; omega
    · go_wp2_with fail
      obtain ⟨S0, hb0⟩ := HR.out.book
      have hsm := hb0.small
      refine (all_any hb0).mono ?_
      rintro e w3 ⟨va, rfl, hva, hB3⟩
      obtain ⟨K', hKK, hR3, hrow⟩ := HR.out.row hB3 hva
      have HD := Lib.hid (hKK _ List.mem_cons_self)
      have HR3 := Lib.hid hR3
      have HV := Lib.hid hrow
      obtain ⟨av, cv, rfl⟩ : ∃ a c, va = .slice a es.length c := by
        rcases rows_form hva with ⟨rfl, h⟩ | ⟨g, c, rfl, _⟩
        · exact ⟨_, _, by rw [h]⟩
        · exact ⟨_, _, rfl⟩
      obtain ⟨n, rfl⟩ : ∃ n, m = (n : Nat) := ⟨es.length, HM.out⟩
      obtain rfl : n = es.length := by have := HM.out; omega
      clear hb0 hva hB3 hKK hR3 hrow HR HM
      go_wp2_with fail
      have HR4 := Lib.hid (HR3.out.alloc (.cells #[.int .i64 0, .int .i64 0, .int .i64 0, .int .i64 0, .int .i64 0, .int .i64 0] 41))
      have hd3 := lt_of_block (HR3.out.keep HD.out)
      have hnd := Lib.hid (show ∀ x ∈ K', x.1 ≠ w3.heap.size from fun x hx e => by have := lt_of_block (HR3.out.keep hx); omega)
      obtain ⟨d2, hd2⟩ : ∃ d2, d2 = w3.heap.size := ⟨_, rfl⟩
      have hdd : ¬ d2 = d := by rw [hd2]; exact Nat.ne_of_gt hd3
      have hdd2 : ¬ d = d2 := fun h => hdd h.symm
      rw [← hd2] at HR4 hnd ⊢
      clear hd2 hd3 HR3
      go_loopw [16] (fun i wr => ∃ (k : Nat), k ≤ es.length ∧ i = .int .i64 k ∧ Hid (Rel w ((d2, .cells (cnts (es.take k)) 41 (0, 0)) :: K') p es cl wr)) (fun i _ => es.length - (intOf i).toNat)
      case atStart => exact ⟨0, by omega, rfl, HR4⟩
      case round =>
        obtain ⟨k2, hk2, rfl, HL⟩ := hrel
        clear HR4
        by_cases hlt2 : k2 < es.length
        · obtain ⟨x, hx⟩ : ∃ x, es[k2]? = some x := ⟨es[k2], by simp⟩
          obtain ⟨g, rfl, v0, v1, v2, v3⟩ := row_at (HV.out _ (fun y hy => HL.out.keep (List.mem_cons_of_mem _ hy))) hx hlt2
          have hseq := HF.out.seq k2 x hx
          have hgo := HF.out.good x (List.mem_of_getElem? hx)
          have htk : es.take (k2 + 1) = es.take k2 ++ [x] := by rw [List.take_add_one, hx]; rfl
          obtain ⟨xf, xn, xm, xs⟩ := x
          have h15 : 1 ≤ xf ∧ xf ≤ 5 := by simpa [famOk] using hgo
          obtain ⟨h15a, h15b⟩ := h15
          obtain ⟨j, rfl⟩ := Int.eq_ofNat_of_zero_le (a := xf) (by omega)
          dsimp only at v0 v1 v2 v3 hseq
          rw [htk, cnt_snoc] at hseq
          subst hseq
          have HTK := Lib.hid htk
          have HX5 := Lib.hid hx
          obtain ⟨n0, n1, n2⟩ := CntCells HL.out List.mem_cons_self j (by omega)
          have hcl := cnt_le (j : Int) (es.take k2)
          have htl : (es.take k2).length ≤ 64 := by rw [List.length_take]; omega
          have hj5 : (j : Int) < 6 := by omega
          clear hx htk hgo
          go_wp2_with fail
          have HL5 := Lib.hid (HL.out.store (i := j) hnd.out (.int .i64 ((cnt (j : Int) (es.take k2) : Nat) + 1)))
          rw [cnts_set (es.take k2) j (by omega) ⟨j, _, xm, xs⟩ rfl, ← HTK.out] at HL5
          obtain ⟨w5, hw5⟩ : ∃ w5, w5 = wr.setCell ⟨d2, j, none⟩ (.int .i64 ((cnt (j : Int) (es.take k2) : Nat) + 1)) := ⟨_, rfl⟩
          rw [← hw5] at HL5
          rw [← hw5]
          have hx5 : es[k2]? = some ⟨j, (cnt (j : Int) (es.take k2) : Nat) + 1, xm, xs⟩ := HX5.out
          obtain ⟨g', hg', u0, u1, u2, u3⟩ := row_at (HV.out _ (fun y hy => HL5.out.keep (List.mem_cons_of_mem _ hy))) hx5 hlt2
          obtain rfl : g = g' := by simpa using hg'
          obtain ⟨m0, m1, m2⟩ := CntCells HL5.out List.mem_cons_self j (by omega)
          rw [HTK.out, cnt_snoc] at m0
          have hk20 : (0 : Int) ≤ (k2 : Int) := by omega
          have hk2l : (k2 : Int) < (es.length : Int) := by omega
          have hj0 : (0 : Int) ≤ (j : Int) := by omega
          clear hw5 HL n0 n1 n2 v0 v1 v2 v3 hx5 hg'
          go_quiet (fail)
          go_wp2_with fail
          go_roundw
          case rel => exact ⟨k2 + 1, by omega, by go_num, HL5.out.below (Below.drewN' _ _)⟩
          case measure => simp [intOf]; omega
        · obtain rfl : k2 = es.length := by omega
          rw [List.take_length] at HL
          go_wp2_with fail
          go_loopw [18] (fun i wr => ∃ (k : Nat), 1 ≤ k ∧ k ≤ 6 ∧ i = .int .i64 k ∧ Hid (Rel w ((d2, .cells (cnts es) 41 (0, 0)) :: K') p es cl wr)) (fun i _ => 6 - (intOf i).toNat)
          case atStart => exact ⟨1, by omega, by omega, rfl, HL⟩
          case round =>
            obtain ⟨k3, hk3a, hk3b, rfl, HM⟩ := hrel
            clear HL
            by_cases hlt3 : k3 < 6
            · obtain ⟨n0, n1, n2⟩ := CntCells HM.out List.mem_cons_self k3 (by omega)
              obtain ⟨q0, q1, q2⟩ := CntCells HM.out (List.mem_cons_of_mem _ HD.out) k3 (by omega)
              have hk30 : (0 : Int) ≤ (k3 : Int) := by omega
              have hk36 : (k3 : Int) < 6 := by omega
              have hcl := cnt_le (k3 : Int) es
              obtain ⟨S6, hb6⟩ := HM.out.book
              have HBK := Lib.hid (hb6.below (Below.drewN' _ 1))
              clear hb6
              go_wp2_with fail
              go_region_held3 (fun w' => w'.cell? ⟨d2, k3, none⟩ = some (.int .i64 (cnt (k3 : Int) es : Nat)) ∧ w'.cell? ⟨d, k3, none⟩ = some (.int .i64 (cnt (k3 : Int) es : Nat)))
                (first | go_keep | exact ⟨(hB6.cell (p := ⟨d2, k3, none⟩) n2).trans n0, (hB6.cell (p := ⟨d, k3, none⟩) q2).trans q0⟩)
                ((go_at_call 18; refine (count_any HBK.out _).mono ?_; rintro e w6 ⟨rfl, hB6⟩))
              have HM6 := Lib.hid ((HM.out.below (Below.drewN' _ 1)).below hB6)
              clear n0 n1 n2 q0 q1 q2 HM HBK hB6
              obtain ⟨n0, n1, n2⟩ := CntCells HM6.out List.mem_cons_self k3 (by omega)
              go_wp2_with fail
              obtain ⟨S7, hb7⟩ := HM6.out.book
              refine (at_gives hb7 _ _).mono ?_
              rintro e w7 ⟨xf, xn, xm, xs, y, HX, rfl, hB7⟩
              obtain rfl : y = false := by have h := HX.out.2; rw [HF.out.beyond] at h; exact h.symm
              have HM7 := Lib.hid (HM6.out.below hB7)
              clear n0 n1 n2 HM6 hb7 hB7 HX
              go_wp2_with fail
              go_roundw
              case rel => exact ⟨k3 + 1, by omega, by omega, by go_num, HM7.out.below (below_alloc _ _)⟩
              case measure => simp [intOf]; omega
            · obtain rfl : k3 = 6 := by omega
              go_wp2_with fail
              go_ret
              exact ⟨rfl, HM.out.outer⟩

end Go.Proofs.Ytgdeeojamnbakaa
